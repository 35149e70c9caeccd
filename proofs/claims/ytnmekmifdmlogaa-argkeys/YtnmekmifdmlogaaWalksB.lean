/- Contracts of the reference's cutAt, letters, kind and of arg.look. -/
import Derived.Test.YtnmekmifdmlogaaRows
import Derived.Test.YtnmekmifdmlogaaWalksA
import Derived.WalkKit
import Derived.WalkSpells
import Derived.WalkLawsBesides
import Derived.Lib.Hide
import Derived.BigQuiet
namespace Go.Proofs.Ytnmekmifdmlogaa
open Go.RowKit
open Plain

def CutPost (s : ByteArray) (n : Nat) (w : World) (e : Ending) (w' : World) : Prop :=
  e = .returned (.tuple #[.string (s.extract 0 n), .string (s.extract (n + 1) s.size), .bool (decide (n < s.size))]) ∧ Below w.heap.size w w'

set_option maxHeartbeats 1000000 in
theorem cutAt_any (s : ByteArray) (x : Int) (c : UInt8) (n : Nat) (w : World) (hs : s.size ≤ 1000000) (hx : x = (c.toNat : Int)) (hn : Plain.ahead s c = n) :
    Calls Try.prog 30 #[.string s, .int .u8 x] w (CutPost s n w) := by
  have HN := Lib.hid hn; have HX := Lib.hid hx
  clear hn hx
  go_enter Try.func30, Try.ntmps30
  go_wp2
  go_loop [7] (fun i => ∃ (k : Nat), k ≤ s.size ∧ i = .int .i64 k ∧ Hid (AheadTo c (tx s) k)) (fun i => s.size - (intOf i).toNat)
  case atStart => exact ⟨0, Nat.zero_le _, rfl, AheadTo.zero _ _⟩
  case round =>
    obtain ⟨k, hk, rfl, HE⟩ := hrel
    by_cases hlt : k < s.size
    · have HD := Lib.hid (tx_at s k hlt)
      by_cases hc : s[k] = c
      · have hf : n = k := HN.out.symm.trans (HE.out.stop (by rw [HD.out, hc]))
        have hz : ((s[k].toNat : Int) == x) = true := by rw [HX.out, hc]; simp
        have ht : decide (n < s.size) = true := by simp; omega
        subst hf
        clear hc
        have n0 : (0 : Int) ≤ (n : Int) := by omega
        have n1 : (n : Int) ≤ (s.size : Int) := by omega
        have n2 : (n : Int) + 1 ≤ (s.size : Int) := by omega
        have n3 : (0 : Int) ≤ (n : Int) + 1 := by omega
        have n4 : IntKind.i64.wrap ((n : Int) + 1) = (n : Int) + 1 := IntWalk.i64_in _ (by omega)
        go_wp2
        go_quiet (fail)
        go_wp2
        go_ret3
        refine ⟨?_, below_drewN (Below.refl _ _) _⟩
        rw [ht]
        rfl
      · have X := Lib.hid (HE.out.next HD.out hc)
        have hz : ((s[k].toNat : Int) == x) = false := by
          rw [HX.out]; simp
          intro h
          exact hc (UInt8.toNat_inj.1 (by omega))
        clear hc
        go_wp2
        go_round
        case rel => exact ⟨k + 1, by omega, by go_num, X.out⟩
        case measure => simp [intOf]; omega
    · have hf : n = k := HN.out.symm.trans (HE.out.ends (by rw [tx_len]; omega))
      have hk2 : k = s.size := by omega
      have HF := Lib.hid hf
      clear hf
      go_wp2
      go_ret3
      refine ⟨?_, Below.refl _ _⟩
      rw [HF.out, hk2, ext_all, ext_over s _ (by omega)]
      simp [bs]

set_option maxHeartbeats 1000000 in
theorem rletters_any (s : ByteArray) (b : Bool) (w : World) (hs : s.size ≤ 1000000) (hb : isKey s = b) :
    Calls Try.prog 31 #[.string s] w fun e w' => e = .returned (.bool b) ∧ w = w' := by
  have HB := Lib.hid hb
  clear hb
  have HL := Lib.hid (tx_len s)
  go_enter Try.func31, Try.ntmps31
  go_wp2
  go_loop [3] (fun i => ∃ (k : Nat), k ≤ s.size ∧ i = .int .i64 k ∧ Hid (AllTo (tx s) k)) (fun i => s.size - (intOf i).toNat)
  case atStart => exact ⟨0, Nat.zero_le _, rfl, AllTo.zero _⟩
  case round =>
    obtain ⟨k, hk, rfl, HE⟩ := hrel
    by_cases hlt : k < s.size
    · have HD := Lib.hid (tx_at s k hlt)
      cases hc : small s[k] with
      | true =>
        have X := Lib.hid (HE.out.next HD.out hc)
        obtain ⟨c1, c2⟩ := (small_iff _).1 hc
        clear hc
        go_wp2
        go_round
        case rel => exact ⟨k + 1, by omega, by go_num, X.out⟩
        case measure => simp [intOf]; omega
      | false =>
        have hf : b = false := HB.out.symm.trans (HE.out.no HD.out hc)
        have hc := (small_not _).1 hc
        subst hf
        by_cases c1 : 97 ≤ s[k].toNat
        · have c2 : ¬ s[k].toNat ≤ 122 := fun h => hc ⟨c1, h⟩
          clear hc
          go_wp2
          go_ret
          exact ⟨rfl, rfl⟩
        · clear hc
          go_wp2
          go_ret
          exact ⟨rfl, rfl⟩
    · have hf := HE.out.ends (by rw [HL.out]; omega)
      rw [HL.out] at hf
      have HF := Lib.hid (HB.out.symm.trans hf)
      clear hf
      by_cases h1 : 1 ≤ s.size
      · by_cases h2 : s.size ≤ 10
        · have hf : b = true := by rw [HF.out]; simp; omega
          subst hf
          go_wp2
          go_ret
          exact ⟨ret_bool (by simp; omega), rfl⟩
        · have hf : b = false := by rw [HF.out]; simp; omega
          subst hf
          go_wp2
          go_ret
          exact ⟨ret_bool (by simp; omega), rfl⟩
      · have hf : b = false := by rw [HF.out]; simp; omega
        subst hf
        go_wp2
        go_ret
        exact ⟨rfl, rfl⟩

set_option maxHeartbeats 1000000 in
theorem kind_any (s : ByteArray) (x : Int) (c : UInt8) (n : Nat) (w : World) (hs : s.size ≤ 1000000) (hx : x = (c.toNat : Int)) (hn : kind (tx s) c = n) :
    Calls Try.prog 34 #[.string s, .int .u8 x] w fun e w' => e = .returned (.int .i64 (n : Int)) ∧ w = w' := by
  have HN := Lib.hid hn; have HX := Lib.hid hx
  have HL := Lib.hid (tx_len s)
  clear hn hx
  go_enter Try.func34, Try.ntmps34
  go_wp2
  go_loop [5] (fun i => ∃ (k : Nat), k ≤ s.size ∧ i = .int .i64 k ∧ Hid (c = 58 ∨ AheadTo c (tx s) k)) (fun i => s.size - (intOf i).toNat)
  case atStart => exact ⟨0, Nat.zero_le _, rfl, .inr (AheadTo.zero _ _)⟩
  case round =>
    obtain ⟨k, hk, rfl, HE⟩ := hrel
    by_cases hlt : k < s.size
    · have HD := Lib.hid (tx_at s k hlt)
      by_cases hc : s[k] = c
      · have hz : ((s[k].toNat : Int) == x) = true := by rw [HX.out, hc]; simp
        have hz3 : (s[k].toNat : Int) = x := by rw [HX.out, hc]
        by_cases h58 : c = 58
        · have hz2 : (x != 58) = false := by rw [HX.out, h58]; rfl
          have X : Hid (c = 58 ∨ AheadTo c (tx s) (k + 1)) := .inl h58
          clear hc h58
          go_wp2
          go_round
          case rel => exact ⟨k + 1, by omega, by go_num, X.out⟩
          case measure => simp [intOf]; omega
        · have hz2 : (x != 58) = true := by
            rw [HX.out]; simp
            intro h
            exact h58 (UInt8.toNat_inj.1 (by show c.toNat = 58; omega))
          have ha : aheadL c (tx s) = k := by
            rcases HE.out with h | h
            · exact absurd h h58
            · exact h.stop (by rw [HD.out, hc])
          by_cases hl : k + 1 < s.size
          · have hg := tx_get s (k + 1) hl
            by_cases h2 : s[k + 1] = 58
            · have hf : n = 2 := by rw [← HN.out, kind, if_pos]; simp only [valued, ha, hg, h2, HL.out]; simp [h58, hl]
              have hz4 : ((s[k + 1].toNat : Int) == 58) = true := by rw [h2]; rfl
              subst hf
              clear hc h58 h2 hg
              go_wp2
              go_ret
              exact ⟨rfl, rfl⟩
            · have hf : n = 1 := by
                rw [← HN.out, kind, if_neg (by simp only [valued, ha, hg]; simp [h2]), if_pos]; simp [known, ha, h58, HL.out, hlt]
              have hz4 : ((s[k + 1].toNat : Int) == 58) = false := by
                simp
                intro h
                exact h2 (UInt8.toNat_inj.1 (by show s[k+1].toNat = 58; omega))
              subst hf
              clear hc h58 h2 hg
              go_wp2
              go_ret
              exact ⟨rfl, rfl⟩
          · have hf : n = 1 := by
              rw [← HN.out, kind, if_neg (by simp [valued, ha, HL.out, hl]), if_pos]; simp [known, ha, h58, HL.out, hlt]
            subst hf
            clear hc h58
            go_wp2
            go_ret
            exact ⟨rfl, rfl⟩
      · have X : Hid (c = 58 ∨ AheadTo c (tx s) (k + 1)) := by
          rcases HE.out with h | h
          · exact .inl h
          · exact .inr (h.next HD.out hc)
        have hz : ((s[k].toNat : Int) == x) = false := by
          rw [HX.out]; simp
          intro h
          exact hc (UInt8.toNat_inj.1 (by omega))
        clear hc
        go_wp2
        go_round
        case rel => exact ⟨k + 1, by omega, by go_num, X.out⟩
        case measure => simp [intOf]; omega
    · have hf : n = 0 := by
        rw [← HN.out, kind]
        have hk : known (tx s) c = false := by
          rcases HE.out with h | h
          · simp [known, h]
          · simp [known, h.ends (by rw [HL.out]; omega), HL.out, hlt]
        rw [if_neg (fun h => by rw [valued_known h] at hk; cases hk), if_neg (by simp [hk])]
      subst hf
      go_wp2
      go_ret
      exact ⟨rfl, rfl⟩

def LookPost (sp : List UInt8) (c : UInt8) (w : World) (e : Ending) (w' : World) : Prop :=
  e = .returned (.tuple #[.bool (known sp c), .bool (valued sp c)]) ∧ Below w.heap.size w w'

set_option maxHeartbeats 1000000 in
theorem look_any (s : ByteArray) (x : Int) (c : UInt8) (w : World) (hs : s.size ≤ 1000000) (hx : x = (c.toNat : Int)) :
    Calls Try.prog 40 #[.string s, .int .u8 x] w (LookPost (tx s) c w) := by
  have HX := Lib.hid hx
  have HL := Lib.hid (tx_len s)
  clear hx
  by_cases h58 : c = 58
  · have hz : (x == 58) = true := by rw [HX.out, h58]; rfl
    have hz3 : x = 58 := by rw [HX.out, h58]; rfl
    have hk : known (tx s) c = false := by simp [known, h58]
    have hv : valued (tx s) c = false := by simp [valued, h58]
    unfold LookPost
    rw [hk, hv]
    clear h58 hk hv
    go_enter Try.func40, Try.ntmps40
    go_wp2
    go_ret2
    exact ⟨rfl, Below.refl _ _⟩
  · have hz : (x == 58) = false := by
      rw [HX.out]; simp
      intro h
      exact h58 (UInt8.toNat_inj.1 (by show c.toNat = 58; omega))
    have hz3 : ¬ x = 58 := by simpa using hz
    obtain ⟨n, hn⟩ : ∃ n, Plain.ahead s c = n := ⟨_, rfl⟩
    have hn1 : n ≤ s.size := by rw [← hn]; exact ahead_le _ _
    have hn2 : aheadL c (tx s) = n := hn
    have hk : known (tx s) c = decide (n < s.size) := by simp [known, h58, hn2, HL.out]
    have HNN := Lib.hid hn
    by_cases hl : n + 1 < s.size
    · have hg := tx_get s (n + 1) hl
      have hv : valued (tx s) c = (s[n + 1] == 58) := by
        simp only [valued, hn2, HL.out, hg]
        simp [h58, hl]
      have hd1 : decide ((n : Int) < (s.size : Int)) = true := by simp; omega
      have hd2 : decide ((n : Int) + 1 < (s.size : Int)) = true := by simp; omega
      have hw : IntKind.i64.wrap ((n : Int) + 1) = (n : Int) + 1 := IntWalk.i64_in _ (by omega)
      have i0 : (0 : Int) ≤ (n : Int) + 1 := by omega
      have i1 : (n : Int) + 1 < (s.size : Int) := by omega
      unfold LookPost
      rw [hk, hv]
      clear h58 hg hk hv
      have hz4 : ((s[n + 1].toNat : Int) == 58) = (s[n + 1] == 58) := by
        rw [Bool.eq_iff_iff]; simp
        constructor
        · intro h
          exact UInt8.toNat_inj.1 (by show s[n+1].toNat = 58; omega)
        · intro h; rw [h]; rfl
      clear hn hn2
      cases hq : (s[n + 1] == 58) with
      | true =>
        rw [hq] at hz4
        go_enter Try.func40, Try.ntmps40
        go_wp2_with fail
        refine (ahead_any s x c n _ hs HX.out HNN.out).mono ?_
        rintro e w1 ⟨rfl, rfl⟩
        go_wp2
        go_quiet (fail)
        go_wp2
        go_ret2
        exact ⟨rfl, below_drewN (Below.refl _ _) _⟩
      | false =>
        rw [hq] at hz4
        go_enter Try.func40, Try.ntmps40
        go_wp2_with fail
        refine (ahead_any s x c n _ hs HX.out HNN.out).mono ?_
        rintro e w1 ⟨rfl, rfl⟩
        go_wp2
        go_quiet (fail)
        go_wp2
        go_ret2
        exact ⟨rfl, below_drewN (Below.refl _ _) _⟩
    · have hv : valued (tx s) c = false := by simp [valued, hn2, HL.out, hl]
      have hd2 : decide ((n : Int) + 1 < (s.size : Int)) = false := by simp; omega
      have hw : IntKind.i64.wrap ((n : Int) + 1) = (n : Int) + 1 := IntWalk.i64_in _ (by omega)
      unfold LookPost
      rw [hk, hv]
      clear h58 hk hv hn hn2
      by_cases hl2 : n < s.size
      · have hd1 : decide ((n : Int) < (s.size : Int)) = true := by simp; omega
        rw [show decide (n < s.size) = true by simp; omega]
        go_enter Try.func40, Try.ntmps40
        go_wp2_with fail
        refine (ahead_any s x c n _ hs HX.out HNN.out).mono ?_
        rintro e w1 ⟨rfl, rfl⟩
        go_wp2
        go_quiet (fail)
        go_wp2
        go_ret2
        exact ⟨rfl, below_drewN (Below.refl _ _) _⟩
      · have hd1 : decide ((n : Int) < (s.size : Int)) = false := by simp; omega
        rw [show decide (n < s.size) = false by simp; omega]
        go_enter Try.func40, Try.ntmps40
        go_wp2_with fail
        refine (ahead_any s x c n _ hs HX.out HNN.out).mono ?_
        rintro e w1 ⟨rfl, rfl⟩
        go_wp2
        go_quiet (fail)
        go_wp2
        go_ret2
        exact ⟨rfl, below_drewN (Below.refl _ _) _⟩

end Go.Proofs.Ytnmekmifdmlogaa
