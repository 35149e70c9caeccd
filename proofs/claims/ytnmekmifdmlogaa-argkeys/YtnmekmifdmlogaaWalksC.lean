/- Contracts of arg.isSpec and of the reference's mayspec. -/
import Derived.Test.YtnmekmifdmlogaaRows
import Derived.Test.YtnmekmifdmlogaaWalksA
import Derived.WalkKit
import Derived.WalkSpells
import Derived.WalkLawsBesides
import Derived.Lib.Hide
import Derived.Deep.QuietTactic
import Derived.BigQuiet
namespace Go.Proofs.Ytnmekmifdmlogaa
open Go.RowKit
open Plain

theorem quiet_mine {P : Program} {f : FuncId} {args : Array Value} {w : World} {n : Nat} {v : Value}
    (h : Calls P f args (w.drewN n) fun e w' => e = .returned v ∧ w.drewN n = w') : Calls P f args (w.drewN n) fun e w'' => e = .returned v ∧ ∃ m, w'' = w.drewN m :=
  h.mono fun _ _ ⟨he, hm⟩ => ⟨he, n, hm.symm⟩
theorem isSmall_at (x : Int) (c : UInt8) (b : Bool) (w : World) (hx : x = (c.toNat : Int)) (hb : small c = b) :
    Calls Try.prog 36 #[.int .u8 x] w fun e w' => e = .returned (.bool b) ∧ w = w' := hb ▸ isSmall_any x c w hx
theorem isGreat_at (x : Int) (c : UInt8) (b : Bool) (w : World) (hx : x = (c.toNat : Int)) (hb : great c = b) :
    Calls Try.prog 37 #[.int .u8 x] w fun e w' => e = .returned (.bool b) ∧ w = w' := hb ▸ isGreat_any x c w hx

def SpecPost (b : Bool) (w : World) (e : Ending) (w' : World) : Prop := e = .returned (.bool b) ∧ Below w.heap.size w w'

theorem spec_at {s : ByteArray} {k : Nat} (hk : k < s.size) (h : s[k] ≠ 58) : specOk (tx s) k = ((small s[k] || great s[k]) && !(decide (Plain.ahead (s.extract 0 k) s[k] < k))) := by
  rw [specOk, tx_get s k hk, if_neg h, Plain.ahead, tx_extract]
  simp
theorem spec_colon {s : ByteArray} {k : Nat} (hk : k < s.size) (h : s[k] = 58) : specOk (tx s) k = (!(k == 0) && !((tx s).getD (k - 1) 0 == 58)) := by
  rw [specOk, tx_get s k hk, if_pos h]
theorem all_next {p : Nat → Bool} {k : Nat} (h : ∀ i, i < k → p i = true) (hk : p k = true) : ∀ i, i < k + 1 → p i = true := by
  intro i hi
  by_cases he : i = k
  · rw [he]; exact hk
  · exact h i (by omega)

set_option maxHeartbeats 4000000 in
theorem isSpec_any (s : ByteArray) (b : Bool) (w : World) (hs : s.size ≤ 1000000) (hb : isSpec s = b) :
    Calls Try.prog 23 #[.string s] w (SpecPost b w) := by
  have HB := Lib.hid hb
  clear hb
  have HL := Lib.hid (tx_len s)
  go_enter Try.func23, Try.ntmps23
  go_wp2
  go_loopw [6] (fun i wr => ∃ (k : Nat), k ≤ s.size ∧ i = .int .i64 k ∧ Hid (∀ i, i < k → specOk (tx s) i = true) ∧ Hid (Below w.heap.size w wr)) (fun i _ => s.size - (intOf i).toNat)
  case atStart => exact ⟨0, Nat.zero_le _, rfl, by unfold Hid; exact fun i h => absurd h (by omega), Below.refl _ _⟩
  case round =>
    obtain ⟨k, hk, rfl, HE, BW⟩ := hrel
    by_cases hlt : k < s.size
    · have NO := Lib.hid (show specOk (tx s) k = false → b = false from fun h => HB.out.symm.trans (spec_no (by rw [HL.out]; exact hlt) h))
      have YES := Lib.hid (show specOk (tx s) k = true → ∀ i, i < k + 1 → specOk (tx s) i = true from fun h => all_next HE.out h)
      have k0 : (0 : Int) ≤ (k : Int) := by omega
      have k1 : (k : Int) < (s.size : Int) := by omega
      have k2 : (k : Int) ≤ (s.size : Int) := by omega
      by_cases hc : s[k] = 58
      · have hz : ((s[k].toNat : Int) == 58) = true := by rw [hc]; rfl
        have sc := spec_colon hlt hc
        by_cases h0 : k = 0
        · have hf := NO.out (by rw [sc]; simp [h0])
          subst hf
          have hz2 : ((k : Int) == 0) = true := by simp [h0]
          clear sc hc
          subst h0
          go_wp2
          go_ret
          exact ⟨rfl, BW.out⟩
        · obtain ⟨j, rfl⟩ : ∃ j, k = j + 1 := ⟨k - 1, by omega⟩
          have hj : j < s.size := by omega
          have hg := tx_get s j hj
          rw [show j + 1 - 1 = j by omega, hg] at sc
          by_cases h2 : s[j] = 58
          · have hf := NO.out (by rw [sc, h2]; simp)
            subst hf
            have hz4 : ((s[j].toNat : Int) == 58) = true := by rw [h2]; rfl
            clear sc hc h2 hg
            go_wp2
            go_ret
            exact ⟨rfl, BW.out⟩
          · have X := Lib.hid (YES.out (by rw [sc]; simp [h2]))
            have hz4 : ((s[j].toNat : Int) == 58) = false := by
              simp
              intro h
              exact h2 (UInt8.toNat_inj.1 (by show s[j].toNat = 58; omega))
            clear sc hc h2 hg
            go_wp2
            go_roundw
            case rel => exact ⟨j + 1 + 1, by omega, by go_num, X.out, BW.out⟩
            case measure => simp [intOf]; omega
      · have hz : ((s[k].toNat : Int) == 58) = false := by
          simp
          intro h
          exact hc (UInt8.toNat_inj.1 (by show s[k].toNat = 58; omega))
        have sc := spec_at hlt hc
        obtain ⟨t, ht⟩ : ∃ t, s.extract 0 k = t := ⟨_, rfl⟩
        obtain ⟨n, hn⟩ : ∃ n, Plain.ahead t s[k] = n := ⟨_, rfl⟩
        have HT := Lib.hid ht
        have HTS := Lib.hid (show t.size ≤ 1000000 by rw [← ht, ← tx_len, tx_extract, List.length_take, List.length_drop, tx_len]; omega)
        rw [ht, hn] at sc
        have SC := Lib.hid sc; have HN := Lib.hid hn
        clear sc hn
        cases h1 : small s[k] with
        | true =>
          clear hc
          by_cases hnk : n < k
          · have hf := NO.out (by rw [SC.out]; simp [hnk])
            subst hf
            have hd : decide ((n : Int) < (k : Int)) = true := by simp; omega
            go_wp2
            go_quiet (first | (go_at_call 36; exact quiet_mine (isSmall_at _ _ true _ rfl h1)) | (go_at_call 29; exact quiet_mine (ahead_any _ _ s[k] n _ HTS.out rfl HN.out)))
            go_wp2
            go_ret
            exact ⟨rfl, below_drewN BW.out _⟩
          · have X := Lib.hid (YES.out (by rw [SC.out]; simp [hnk, h1]))
            have hd : decide ((n : Int) < (k : Int)) = false := by simp; omega
            go_wp2
            go_quiet (first | (go_at_call 36; exact quiet_mine (isSmall_at _ _ true _ rfl h1)) | (go_at_call 29; exact quiet_mine (ahead_any _ _ s[k] n _ HTS.out rfl HN.out)))
            go_wp2
            go_roundw
            case rel => exact ⟨k + 1, by omega, by go_num, X.out, below_drewN BW.out _⟩
            case measure => simp [intOf]; omega
        | false =>
          cases h3 : great s[k] with
          | true =>
            clear hc
            by_cases hnk : n < k
            · have hf := NO.out (by rw [SC.out]; simp [hnk])
              subst hf
              have hd : decide ((n : Int) < (k : Int)) = true := by simp; omega
              go_wp2
              go_quiet (first | (go_at_call 36; exact quiet_mine (isSmall_at _ _ false _ rfl h1)) | (go_at_call 37; exact quiet_mine (isGreat_at _ _ true _ rfl h3)) | (go_at_call 29; exact quiet_mine (ahead_any _ _ s[k] n _ HTS.out rfl HN.out)))
              go_wp2
              go_ret
              exact ⟨rfl, below_drewN BW.out _⟩
            · have X := Lib.hid (YES.out (by rw [SC.out]; simp [hnk, h3]))
              have hd : decide ((n : Int) < (k : Int)) = false := by simp; omega
              go_wp2
              go_quiet (first | (go_at_call 36; exact quiet_mine (isSmall_at _ _ false _ rfl h1)) | (go_at_call 37; exact quiet_mine (isGreat_at _ _ true _ rfl h3)) | (go_at_call 29; exact quiet_mine (ahead_any _ _ s[k] n _ HTS.out rfl HN.out)))
              go_wp2
              go_roundw
              case rel => exact ⟨k + 1, by omega, by go_num, X.out, below_drewN BW.out _⟩
              case measure => simp [intOf]; omega
          | false =>
            have hf := NO.out (by rw [SC.out]; simp [h1, h3])
            subst hf
            clear hc
            go_wp2
            go_quiet (first | (go_at_call 36; exact quiet_mine (isSmall_at _ _ false _ rfl h1)) | (go_at_call 37; exact quiet_mine (isGreat_at _ _ false _ rfl h3)))
            go_wp2
            go_ret
            exact ⟨rfl, below_drewN BW.out _⟩
    · have hf : b = true := HB.out.symm.trans (spec_yes fun i hi => HE.out i (by rw [HL.out] at hi; omega))
      subst hf
      go_wp2
      go_ret
      exact ⟨rfl, BW.out⟩

/-- No byte ahead is that one. -/
theorem ahead_lt {s : ByteArray} {k j : Nat} (hk : k < s.size) (hj : j < k) (h : s[j]'(by omega) = s[k]) : Plain.ahead (s.extract 0 k) s[k] < k := by
  have hl : (tx (s.extract 0 k)).length = k := by rw [tx_extract, List.length_take, List.length_drop, tx_len]; omega
  have := (aheadL_mem s[k] (tx (s.extract 0 k))).2 (by
    rw [tx_extract, ← h]
    refine List.mem_iff_getElem?.2 ⟨j, ?_⟩
    have hjs : j < (tx s).length := by rw [tx_len]; omega
    rw [List.drop_zero, List.getElem?_take_of_lt (by omega), List.getElem?_eq_getElem hjs]
    rfl)
  rw [hl] at this
  exact this
theorem ahead_ge {s : ByteArray} {k : Nat} (hk : k < s.size) (h : ∀ j, (hj : j < k) → s[j]'(by omega) ≠ s[k]) : ¬ Plain.ahead (s.extract 0 k) s[k] < k := by
  intro hl
  have hl2 : (tx (s.extract 0 k)).length = k := by rw [tx_extract, List.length_take, List.length_drop, tx_len]; omega
  have := (aheadL_mem s[k] (tx (s.extract 0 k))).1 (by rw [hl2]; exact hl)
  rw [tx_extract, List.drop_zero] at this
  obtain ⟨j, hj⟩ := List.mem_iff_getElem?.1 this
  rw [List.getElem?_take] at hj
  split at hj
  · rename_i hjk
    have hjs : j < (tx s).length := by rw [tx_len]; omega
    rw [List.getElem?_eq_getElem hjs] at hj
    injection hj with hj
    exact h j (by omega) hj
  · cases hj

set_option maxHeartbeats 4000000 in
theorem mayspec_any (s : ByteArray) (b : Bool) (w : World) (hs : s.size ≤ 1000000) (hb : isSpec s = b) :
    Calls Try.prog 33 #[.string s] w (SpecPost b w) := by
  have HB := Lib.hid hb
  clear hb
  have HL := Lib.hid (tx_len s)
  go_enter Try.func33, Try.ntmps33
  go_wp2
  go_loopw [3] (fun i wr => ∃ (k : Nat), k ≤ s.size ∧ i = .int .i64 k ∧ Hid (∀ i, i < k → specOk (tx s) i = true) ∧ Hid (Below w.heap.size w wr)) (fun i _ => s.size - (intOf i).toNat)
  case atStart => exact ⟨0, Nat.zero_le _, rfl, by unfold Hid; exact fun i h => absurd h (by omega), Below.refl _ _⟩
  case round =>
    obtain ⟨k, hk, rfl, HE, BW⟩ := hrel
    by_cases hlt : k < s.size
    · have NO := Lib.hid (show specOk (tx s) k = false → b = false from fun h => HB.out.symm.trans (spec_no (by rw [HL.out]; exact hlt) h))
      have YES := Lib.hid (show specOk (tx s) k = true → ∀ i, i < k + 1 → specOk (tx s) i = true from fun h => all_next HE.out h)
      have k0 : (0 : Int) ≤ (k : Int) := by omega
      have k1 : (k : Int) < (s.size : Int) := by omega
      by_cases hc : s[k] = 58
      · have hz : ((s[k].toNat : Int) == 58) = true := by rw [hc]; rfl
        have sc := spec_colon hlt hc
        by_cases h0 : k = 0
        · have hf := NO.out (by rw [sc]; simp [h0])
          subst hf
          clear sc hc
          subst h0
          go_wp2
          go_ret
          exact ⟨rfl, BW.out⟩
        · obtain ⟨j, rfl⟩ : ∃ j, k = j + 1 := ⟨k - 1, by omega⟩
          have hj : j < s.size := by omega
          have hg := tx_get s j hj
          rw [show j + 1 - 1 = j by omega, hg] at sc
          by_cases h2 : s[j] = 58
          · have hf := NO.out (by rw [sc, h2]; simp)
            subst hf
            have hz4 : ((s[j].toNat : Int) == 58) = true := by rw [h2]; rfl
            clear sc hc h2 hg
            go_wp2
            go_ret
            exact ⟨rfl, BW.out⟩
          · have X := Lib.hid (YES.out (by rw [sc]; simp [h2]))
            have hz4 : ((s[j].toNat : Int) == 58) = false := by
              simp
              intro h
              exact h2 (UInt8.toNat_inj.1 (by show s[j].toNat = 58; omega))
            clear sc hc h2 hg
            go_wp2
            go_roundw
            case rel => exact ⟨j + 1 + 1, by omega, by go_num, X.out, BW.out⟩
            case measure => simp [intOf]; omega
      · have hz : ((s[k].toNat : Int) == 58) = false := by
          simp
          intro h
          exact hc (UInt8.toNat_inj.1 (by show s[k].toNat = 58; omega))
        have SC := Lib.hid (spec_at hlt hc)
        have ways : (small s[k] = true ∨ (small s[k] = false ∧ great s[k] = true)) ∨ (small s[k] = false ∧ great s[k] = false) := by
          cases small s[k] <;> cases great s[k] <;> simp
        clear hc
        rcases ways with hok | ⟨h1, h3⟩
        · have GOOD := Lib.hid (show (small s[k] || great s[k]) = true by rcases hok with h | ⟨_, h⟩ <;> simp [h])
          have hb : 97 ≤ s[k].toNat ∧ s[k].toNat ≤ 122 ∨ (s[k].toNat < 97 ∧ 65 ≤ s[k].toNat ∧ s[k].toNat ≤ 90) := by
            rcases hok with h | ⟨h1, h3⟩
            · exact .inl ((small_iff _).1 h)
            · have a := (small_not _).1 h1
              have c := (great_iff _).1 h3
              right; omega
          clear hok
          rcases hb with ⟨b1, b2⟩ | ⟨b1, b2, b3⟩
          all_goals
            go_wp2
            go_loopw [4] (fun i2 wr2 => ∃ (j : Nat), j ≤ k ∧ i2 = .int .i64 j ∧ Hid (∀ i, (hi : i < j) → s[i]! ≠ s[k]) ∧ Hid (Below w.heap.size w wr2)) (fun i2 _ => k - (intOf i2).toNat)
            case atStart => exact ⟨0, Nat.zero_le _, rfl, by unfold Hid; exact fun i h => absurd h (by omega), BW.out⟩
            case round =>
              obtain ⟨j, hj, rfl, HF, BV⟩ := hrel
              by_cases hjk : j < k
              · have hjs : j < s.size := by omega
                have j0 : (0 : Int) ≤ (j : Int) := by omega
                have j1 : (j : Int) < (s.size : Int) := by omega
                by_cases he : s[j] = s[k]
                · have hf := NO.out (by rw [SC.out, GOOD.out]; simp [ahead_lt hlt hjk he])
                  subst hf
                  have hz5 : ((s[j].toNat : Int) == (s[k].toNat : Int)) = true := by rw [he]; simp
                  clear he
                  go_wp2
                  go_quiet (fail)
                  go_wp2
                  go_ret
                  exact ⟨rfl, below_drewN BV.out _⟩
                · have X := Lib.hid (show ∀ i, (hi : i < j + 1) → s[i]! ≠ s[k] from fun i hi => by
                    by_cases h : i = j
                    · rw [h, getElem!_pos s j hjs]; exact he
                    · exact HF.out i (by omega))
                  have hz5 : ((s[j].toNat : Int) == (s[k].toNat : Int)) = false := by
                    simp
                    intro h
                    exact he (UInt8.toNat_inj.1 (by omega))
                  clear he
                  go_wp2
                  go_quiet (fail)
                  go_wp2
                  go_roundw
                  case rel => exact ⟨j + 1, by omega, by go_num, X.out, below_drewN BV.out _⟩
                  case measure => simp [intOf]; omega
              · have X := Lib.hid (YES.out (by
                  rw [SC.out, GOOD.out]
                  have := ahead_ge hlt (fun i hi => by
                    have := HF.out i (by omega)
                    rwa [getElem!_pos s i (by omega)] at this)
                  simp [this]))
                have hjd : decide ((j : Int) < (k : Int)) = false := by simp; omega
                go_wp2
                go_roundw
                case rel => exact ⟨k + 1, by omega, by go_num, X.out, BV.out⟩
                case measure => simp [intOf]; omega
        · have hf := NO.out (by rw [SC.out]; simp [h1, h3])
          subst hf
          have a := (small_not _).1 h1
          have c := (great_not _).1 h3
          clear h1 h3
          have ways : (s[k].toNat < 65) ∨ (90 < s[k].toNat ∧ s[k].toNat < 97) ∨ 122 < s[k].toNat := by omega
          clear a c
          rcases ways with a | ⟨a, c⟩ | a
          · have c : ¬ (97 ≤ s[k].toNat) := by omega
            go_wp2
            go_ret
            exact ⟨rfl, BW.out⟩
          · have c2 : ¬ (s[k].toNat < 65) := by omega
            go_wp2
            go_ret
            exact ⟨rfl, BW.out⟩
          · have c1 : ¬ (s[k].toNat < 97) := by omega
            have c2 : ¬ (s[k].toNat < 65) := by omega
            have c3 : 90 < s[k].toNat := by omega
            go_wp2
            go_ret
            exact ⟨rfl, BW.out⟩
    · have hf : b = true := HB.out.symm.trans (spec_yes fun i hi => HE.out i (by rw [HL.out] at hi; omega))
      subst hf
      go_wp2
      go_ret
      exact ⟨rfl, BW.out⟩

end Go.Proofs.Ytnmekmifdmlogaa
