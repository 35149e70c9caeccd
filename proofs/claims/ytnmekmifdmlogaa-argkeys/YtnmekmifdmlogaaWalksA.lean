/- Contracts of arg.ahead, isSmall, isGreat, isKey, isOption, repeats. -/
import Derived.Test.YtnmekmifdmlogaaRows
import Derived.Test.YtnmekmifdmlogaaPlain
import Derived.WalkKit
import Derived.WalkSpells
import Derived.WalkLawsBesides
import Derived.Lib.Hide
namespace Go.Proofs.Ytnmekmifdmlogaa
open Go.RowKit
open Plain

theorem ret_int {k : IntKind} {a b : Int} (h : a = b) : Ending.returned (.int k a) = .returned (.int k b) := by rw [h]
theorem ret_bool {a b : Bool} (h : a = b) : Ending.returned (.bool a) = .returned (.bool b) := by rw [h]

set_option maxHeartbeats 400000 in
theorem isSmall_any (x : Int) (c : UInt8) (w : World) (hx : x = (c.toNat : Int)) :
    Calls Try.prog 36 #[.int .u8 x] w fun e w' => e = .returned (.bool (small c)) ∧ w = w' := by
  by_cases h : 97 ≤ c.toNat ∧ c.toNat ≤ 122
  · rw [(small_iff c).2 h]
    have h0 : 97 ≤ x := by omega
    have h1 : x ≤ 122 := by omega
    clear h hx
    go_enter Try.func36, Try.ntmps36
    go_wp2
    go_ret
    exact ⟨rfl, rfl⟩
  · rw [(small_not c).2 h]
    by_cases h0 : 97 ≤ x
    · have h1 : ¬ x ≤ 122 := by omega
      clear h hx
      go_enter Try.func36, Try.ntmps36
      go_wp2
      go_ret
      exact ⟨rfl, rfl⟩
    · clear h hx
      go_enter Try.func36, Try.ntmps36
      go_wp2
      go_ret
      exact ⟨rfl, rfl⟩

set_option maxHeartbeats 400000 in
theorem isGreat_any (x : Int) (c : UInt8) (w : World) (hx : x = (c.toNat : Int)) :
    Calls Try.prog 37 #[.int .u8 x] w fun e w' => e = .returned (.bool (great c)) ∧ w = w' := by
  by_cases h : 65 ≤ c.toNat ∧ c.toNat ≤ 90
  · rw [(great_iff c).2 h]
    have h0 : 65 ≤ x := by omega
    have h1 : x ≤ 90 := by omega
    clear h hx
    go_enter Try.func37, Try.ntmps37
    go_wp2
    go_ret
    exact ⟨rfl, rfl⟩
  · rw [(great_not c).2 h]
    by_cases h0 : 65 ≤ x
    · have h1 : ¬ x ≤ 90 := by omega
      clear h hx
      go_enter Try.func37, Try.ntmps37
      go_wp2
      go_ret
      exact ⟨rfl, rfl⟩
    · clear h hx
      go_enter Try.func37, Try.ntmps37
      go_wp2
      go_ret
      exact ⟨rfl, rfl⟩

set_option maxHeartbeats 1000000 in
theorem ahead_any (s : ByteArray) (x : Int) (c : UInt8) (n : Nat) (w : World) (hs : s.size ≤ 1000000) (hx : x = (c.toNat : Int)) (hn : Plain.ahead s c = n) :
    Calls Try.prog 29 #[.string s, .int .u8 x] w fun e w' => e = .returned (.int .i64 (n : Int)) ∧ w = w' := by
  have HN := Lib.hid hn; have HX := Lib.hid hx
  clear hn hx
  go_enter Try.func29, Try.ntmps29
  go_wp2
  go_loop [5] (fun i => ∃ (k : Nat), k ≤ s.size ∧ i = .int .i64 k ∧ Hid (AheadTo c (tx s) k)) (fun i => s.size - (intOf i).toNat)
  case atStart => exact ⟨0, Nat.zero_le _, rfl, AheadTo.zero _ _⟩
  case round =>
    obtain ⟨k, hk, rfl, HE⟩ := hrel
    by_cases hlt : k < s.size
    · have HD := Lib.hid (tx_at s k hlt)
      by_cases hc : s[k] = c
      · have hf : n = k := HN.out.symm.trans (HE.out.stop (by rw [HD.out, hc]))
        have hz : ((s[k].toNat : Int) != x) = false := by rw [HX.out, hc]; simp
        subst hf
        clear hc
        go_wp2
        go_ret
        exact ⟨rfl, rfl⟩
      · have X := Lib.hid (HE.out.next HD.out hc)
        have hz : ((s[k].toNat : Int) != x) = true := by
          rw [HX.out]; simp
          intro h
          exact hc (UInt8.toNat_inj.1 (by omega))
        clear hc
        go_wp2
        go_round
        case rel => exact ⟨k + 1, by omega, by go_num, X.out⟩
        case measure => simp [intOf]; omega
    · have hf : n = k := HN.out.symm.trans (HE.out.ends (by rw [tx_len]; omega))
      subst hf
      go_wp2
      go_ret
      exact ⟨rfl, rfl⟩

set_option maxHeartbeats 1000000 in
theorem isKey_any (s : ByteArray) (b : Bool) (w : World) (hs : s.size ≤ 1000000) (hb : isKey s = b) :
    Calls Try.prog 41 #[.string s] w fun e w' => e = .returned (.bool b) ∧ w = w' := by
  have HB := Lib.hid hb
  clear hb
  have HL := Lib.hid (tx_len s)
  by_cases h1 : 1 ≤ s.size
  · by_cases h2 : s.size ≤ 10
    · go_enter Try.func41, Try.ntmps41
      go_wp2
      go_loop [14] (fun i => ∃ (k : Nat), k ≤ s.size ∧ i = .int .i64 k ∧ Hid (AllTo (tx s) k)) (fun i => s.size - (intOf i).toNat)
      case atStart => exact ⟨0, Nat.zero_le _, rfl, AllTo.zero _⟩
      case round =>
        obtain ⟨k, hk, rfl, HE⟩ := hrel
        by_cases hlt : k < s.size
        · have HD := Lib.hid (tx_at s k hlt)
          cases hc : small s[k] with
          | true =>
            have X := Lib.hid (HE.out.next HD.out hc)
            go_wp2_with fail
            refine (isSmall_any _ (s[k]) _ rfl).mono ?_
            rw [hc]
            rintro e w1 ⟨rfl, rfl⟩
            go_wp2
            go_round
            case rel => exact ⟨k + 1, by omega, by go_num, X.out⟩
            case measure => simp [intOf]; omega
          | false =>
            have hf : b = false := HB.out.symm.trans (HE.out.no HD.out hc)
            go_wp2_with fail
            refine (isSmall_any _ (s[k]) _ rfl).mono ?_
            rw [hc]
            rintro e w1 ⟨rfl, rfl⟩
            go_wp2
            go_ret
            exact ⟨ret_bool hf.symm, rfl⟩
        · have hf : b = true := by
            rw [← HB.out, isKey, HE.out.ends (by rw [HL.out]; omega), HL.out]
            simp; omega
          go_wp2
          go_ret
          exact ⟨rfl, rfl⟩
    · have hf : b = false := by rw [← HB.out, isKey, keyL, HL.out]; simp; omega
      subst hf
      go_enter Try.func41, Try.ntmps41
      go_wp2
      go_ret
      exact ⟨rfl, rfl⟩
  · have hf : b = false := by rw [← HB.out, isKey, keyL, HL.out]; simp; omega
    subst hf
    go_enter Try.func41, Try.ntmps41
    go_wp2
    go_ret
    exact ⟨rfl, rfl⟩

set_option maxHeartbeats 1000000 in
theorem isOption_any (s : ByteArray) (b : Bool) (w : World) (hs : s.size ≤ 1000000) (hb : isOpt s = b) :
    Calls Try.prog 24 #[.string s] w fun e w' => e = .returned (.bool b) ∧ w = w' := by
  by_cases h1 : 1 < s.size
  · have h0 : 0 < s.size := by omega
    have hg := tx_get s 0 h0
    by_cases h2 : s[0] = 45
    · have hf : b = true := by rw [← hb, isOpt, hg, h2]; simp [h1]
      have hz : ((s[0].toNat : Int) == 45) = true := by rw [h2]; rfl
      clear hg hb h2
      subst hf
      go_enter Try.func24, Try.ntmps24
      go_wp2
      go_ret
      exact ⟨rfl, rfl⟩
    · have hf : b = false := by rw [← hb, isOpt, hg]; simp [h2]
      have hz : ((s[0].toNat : Int) == 45) = false := by
        simp
        intro h
        exact h2 (UInt8.toNat_inj.1 (by show s[0].toNat = 45; omega))
      clear hg hb h2
      subst hf
      go_enter Try.func24, Try.ntmps24
      go_wp2
      go_ret
      exact ⟨rfl, rfl⟩
  · have hf : b = false := by rw [← hb, isOpt]; simp [h1]
    clear hb
    subst hf
    go_enter Try.func24, Try.ntmps24
    go_wp2
    go_ret
    exact ⟨rfl, rfl⟩

set_option maxHeartbeats 1000000 in
theorem repeats_any (s : ByteArray) (b : Bool) (w : World) (hb : rep s = b) :
    Calls Try.prog 27 #[.string s] w fun e w' => e = .returned (.bool b) ∧ w = w' := by
  rw [rep, ← tx_toList] at hb
  by_cases h1 : s.toList = [99, 111, 110, 118]
  · have hf : b = true := by rw [← hb, h1]; rfl
    subst hf
    clear hb
    go_enter Try.func27, Try.ntmps27
    go_wp2
    go_ret
    exact ⟨rfl, rfl⟩
  · have h2 : (s.toList == [99, 111, 110, 118]) = false := by simpa using h1
    rw [h2, Bool.false_or] at hb
    subst hb
    go_enter Try.func27, Try.ntmps27
    go_wp2
    go_ret
    exact ⟨rfl, rfl⟩

end Go.Proofs.Ytnmekmifdmlogaa
