/- Contracts of off.Mul and of the reference Mul. -/
import Derived.Test.YtamignakfliocaaRows
import Derived.Test.YtamignakfliocaaPlain
import Derived.Test.YtamignakfliocaaWalksA
import Derived.Test.YtamignakfliocaaWalksB
import Derived.WalkKit
import Derived.WalkSpells
import Derived.WalkLawsBesides
import Derived.Lib.Hide
import Derived.Deep.QuietTactic
import Derived.BigQuiet
namespace Go.Proofs.Ytamignakfliocaa
open Go.RowKit

set_option maxHeartbeats 400000 in
theorem mul_any (A : Option Addr) (n c : Nat) (zs : List Int) (w : World) (hn : n ≤ maxLen) (hr : Ints w A n zs) :
    Calls Try.prog 12 #[.slice A n c] w fun e w' => e = .returned (.tuple #[.int .i64 (Plain.mulV zs), .bool (Plain.mulOk zs)]) ∧ w = w' := by
  have HN := Lib.hid hn
  have HRR := Lib.hid hr
  unfold maxLen at hn
  obtain ⟨hl, hr⟩ := hr
  have HR := Lib.hid hr; clear hr
  have HL := Lib.hid hl; clear hl
  cases hA : Plain.allMay zs
  · have hv : Plain.mulS zs = none := by simp [Plain.mulS, hA]
    have HV := Lib.hid hv; clear hv
    have HA := Lib.hid hA; clear hA
    go_enter Try.func12, Try.ntmps12
    go_wp2_with (go_at_call 30; refine (anyZero_any _ _ _ zs _ HN.out HRR.out).mono ?_; rw [HA.out]; rintro e w' ⟨rfl, rfl⟩)
    go_ret2
    exact ⟨by simp [Plain.mulV, Plain.mulOk, HV.out], rfl⟩
  · cases hZ : Plain.anyNought zs
    · have hv : Plain.mulS zs = Plain.mulFrom 1 zs := by simp [Plain.mulS, hA, hZ]
      have HV := Lib.hid hv; clear hv
      have HA := Lib.hid hA; clear hA
      have HZ := Lib.hid hZ; clear hZ
      go_enter Try.func12, Try.ntmps12
      go_wp2_with (go_at_call 30; refine (anyZero_any _ _ _ zs _ HN.out HRR.out).mono ?_; rw [HA.out, HZ.out]; rintro e w' ⟨rfl, rfl⟩)
      go_loop [6, 19] (fun s i => ∃ (k : Nat) (t : Int), k ≤ n ∧ i = .int .i64 k ∧ s = .int .i64 t ∧ 1 ≤ t ∧ t ≤ 4611686018427387904 ∧ Hid (Plain.mulFrom 1 zs = Plain.mulFrom t (zs.drop k))) (fun _ i => n - (intOf i).toNat)
      case atStart => exact ⟨0, 1, Nat.zero_le _, rfl, rfl, by omega, by omega, by simp [Hid]⟩
      case round =>
        obtain ⟨k, t, hk, rfl, rfl, ht0, ht1, HE⟩ := hrel
        by_cases hlt : k < n
        · have hm := (Plain.may_iff _).1 (Plain.allMay_drop zs k (by have := HL.out; omega) HA.out)
          have hz := Plain.nought_drop zs k (by have := HL.out; omega) HZ.out
          obtain ⟨b, o, rfl, hc⟩ := HR.out (by omega)
          have hck := hc k hlt
          clear hc
          have hd := Plain.drop_cons zs k (by have := HL.out; omega)
          have HD := Lib.hid hd; clear hd
          generalize zs.getD k 0 = x at *
          have hx1 : 1 ≤ x := by omega
          obtain ⟨_, hx2⟩ := hm
          clear hz
          by_cases hs : x ≤ 4611686018427387904 / t
          · have hp := Plain.mul_le_top t x ht0 hs
            have hq := Plain.one_le_mul t x ht0 hx1
            have hw : IntKind.i64.wrap (t * x) = t * x := IntWalk.i64_in _ (by omega)
            go_wp2
            go_round
            case rel => exact ⟨k + 1, t * x, by omega, by go_num, by go_num, hq, hp, by unfold Hid; rw [HE.out, HD.out, Plain.mulFrom_yes _ _ _ hs]⟩
            case measure => simp [intOf]; omega
          · have hv : Plain.mulFrom 1 zs = none := by rw [HE.out, HD.out, Plain.mulFrom_no _ _ _ hs]
            have HW := Lib.hid hv; clear hv
            go_wp2
            go_ret2
            exact ⟨by simp [Plain.mulV, Plain.mulOk, HV.out, HW.out], rfl⟩
        · have hv : Plain.mulFrom 1 zs = some t := by rw [HE.out, List.drop_of_length_le (by have := HL.out; omega)]; rfl
          have HW := Lib.hid hv; clear hv
          go_wp2
          go_ret2
          exact ⟨by simp [Plain.mulV, Plain.mulOk, HV.out, HW.out], rfl⟩
    · have hv : Plain.mulS zs = some 0 := by simp [Plain.mulS, hA, hZ]
      have HV := Lib.hid hv; clear hv
      have HA := Lib.hid hA; clear hA
      have HZ := Lib.hid hZ; clear hZ
      go_enter Try.func12, Try.ntmps12
      go_wp2_with (go_at_call 30; refine (anyZero_any _ _ _ zs _ HN.out HRR.out).mono ?_; rw [HA.out, HZ.out]; rintro e w' ⟨rfl, rfl⟩)
      go_ret2
      exact ⟨by simp [Plain.mulV, Plain.mulOk, HV.out], rfl⟩

end Go.Proofs.Ytamignakfliocaa
