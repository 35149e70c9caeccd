/- Contracts of off.May, off.anyZero, off.Mul and of the reference May and Mul. -/
import Derived.Test.YtheokjjkjigcfaaRows
import Derived.Test.YtheokjjkjigcfaaPlain
import Derived.WalkKit
import Derived.WalkSpells
import Derived.WalkLawsBesides
import Derived.Lib.Hide
import Derived.Deep.QuietTactic
import Derived.BigQuiet
namespace Go.Proofs.Ytheokjjkjigcfaa
open Go.RowKit


set_option maxHeartbeats 400000 in
theorem may_yes (n : Int) (w : World) (h0 : 0 ≤ n) (h1 : n ≤ 4611686018427387904) :
    Calls Try.prog 19 #[.int .i64 n] w fun e w' => e = .returned (.bool true) ∧ w = w' := by
  go_enter Try.func19, Try.ntmps19
  go_wp2
  go_ret
  exact ⟨rfl, rfl⟩

set_option maxHeartbeats 400000 in
theorem may_no (n : Int) (w : World) (h : ¬ (0 ≤ n ∧ n ≤ 4611686018427387904)) :
    Calls Try.prog 19 #[.int .i64 n] w fun e w' => e = .returned (.bool false) ∧ w = w' := by
  by_cases h0 : 0 ≤ n
  · have h1 : ¬ n ≤ 4611686018427387904 := fun h1 => h ⟨h0, h1⟩
    clear h
    go_enter Try.func19, Try.ntmps19
    go_wp2
    go_ret
    exact ⟨rfl, rfl⟩
  · clear h
    go_enter Try.func19, Try.ntmps19
    go_wp2
    go_ret
    exact ⟨rfl, rfl⟩



set_option maxHeartbeats 400000 in
theorem rmay_yes (n : Int) (w : World) (h0 : 0 ≤ n) (h1 : n ≤ 4611686018427387904) :
    Calls Try.prog 33 #[.int .i64 n] w fun e w' => e = .returned (.bool true) ∧ w = w' := by
  go_enter Try.func33, Try.ntmps33
  go_wp2
  go_ret
  exact ⟨rfl, rfl⟩

set_option maxHeartbeats 400000 in
theorem rmay_no (n : Int) (w : World) (h : ¬ (0 ≤ n ∧ n ≤ 4611686018427387904)) :
    Calls Try.prog 33 #[.int .i64 n] w fun e w' => e = .returned (.bool false) ∧ w = w' := by
  by_cases h0 : 0 ≤ n
  · have h1 : ¬ n ≤ 4611686018427387904 := fun h1 => h ⟨h0, h1⟩
    clear h
    go_enter Try.func33, Try.ntmps33
    go_wp2
    go_ret
    exact ⟨rfl, rfl⟩
  · clear h
    go_enter Try.func33, Try.ntmps33
    go_wp2
    go_ret
    exact ⟨rfl, rfl⟩

set_option maxHeartbeats 400000 in
theorem anyZero_any (A : Option Addr) (n c : Nat) (zs : List Int) (w : World) (hn : n ≤ maxLen) (hr : Ints w A n zs) :
    Calls Try.prog 29 #[.slice A n c] w fun e w' => e = .returned (.tuple #[.bool (Plain.allMay zs && Plain.anyNought zs), .bool (Plain.allMay zs)]) ∧ w = w' := by
  unfold maxLen at hn
  obtain ⟨hl, hr⟩ := hr
  have HR := Lib.hid hr; clear hr
  have HL := Lib.hid hl; clear hl
  go_enter Try.func29, Try.ntmps29
  go_wp2
  go_loop [2, 8] (fun z i => ∃ (k : Nat) (t : Bool), k ≤ n ∧ i = .int .i64 k ∧ z = .bool t ∧ Hid (Plain.allMay zs = Plain.allMay (zs.drop k)) ∧ Hid (Plain.anyNought zs = (t || Plain.anyNought (zs.drop k)))) (fun _ i => n - (intOf i).toNat)
  case atStart => exact ⟨0, false, Nat.zero_le _, rfl, rfl, by simp [Hid], by simp [Hid]⟩
  case round =>
    obtain ⟨k, t, hk, rfl, rfl, HE, HF⟩ := hrel
    by_cases hlt : k < n
    · obtain ⟨b, o, rfl, hc⟩ := HR.out (by omega)
      have hck := hc k hlt
      clear hc
      have hd := Plain.drop_cons zs k (by have := HL.out; omega)
      have HD := Lib.hid hd; clear hd
      generalize zs.getD k 0 = x at *
      by_cases hx : 0 ≤ x ∧ x ≤ 4611686018427387904
      · have hm := (Plain.may_iff x).2 hx
        have HM := Lib.hid hm; clear hm
        obtain ⟨hx0, hx1⟩ := hx
        by_cases hz : x = 0
        · subst hz
          go_wp2_with (go_at_call 19; refine (may_yes _ _ hx0 hx1).mono ?_; rintro e w' ⟨rfl, rfl⟩)
          go_round
          case rel => exact ⟨k + 1, true, by omega, by go_num, rfl, by unfold Hid; rw [HE.out, HD.out, Plain.allMay_cons, HM.out]; simp, by unfold Hid; rw [HF.out, HD.out, Plain.anyNought_cons]; simp⟩
          case measure => simp [intOf]; omega
        · have hb : (x == 0) = false := by simpa using hz
          go_wp2_with (go_at_call 19; refine (may_yes _ _ hx0 hx1).mono ?_; rintro e w' ⟨rfl, rfl⟩)
          go_round
          case rel => exact ⟨k + 1, t, by omega, by go_num, rfl, by unfold Hid; rw [HE.out, HD.out, Plain.allMay_cons, HM.out]; simp, by unfold Hid; rw [HF.out, HD.out, Plain.anyNought_cons, hb]; simp⟩
          case measure => simp [intOf]; omega
      · have hv : Plain.allMay zs = false := by rw [HE.out, HD.out, Plain.allMay_cons, (Plain.may_not x).2 hx]; simp
        have HV := Lib.hid hv; clear hv
        go_wp2_with (go_at_call 19; refine (may_no _ _ hx).mono ?_; rintro e w' ⟨rfl, rfl⟩)
        go_ret2
        exact ⟨by simp [HV.out], rfl⟩
    · have hv : Plain.allMay zs = true := by rw [HE.out, List.drop_of_length_le (by have := HL.out; omega)]; rfl
      have hq : Plain.anyNought zs = t := by rw [HF.out, List.drop_of_length_le (by have := HL.out; omega)]; simp [Plain.anyNought]
      have HV := Lib.hid hv; clear hv
      have HQ := Lib.hid hq; clear hq
      go_wp2
      go_ret2
      exact ⟨by simp [HV.out, HQ.out], rfl⟩



set_option maxHeartbeats 400000 in
theorem mul_any (A : Option Addr) (n c : Nat) (zs : List Int) (w : World) (hn : n ≤ maxLen) (hr : Ints w A n zs) :
    Calls Try.prog 21 #[.slice A n c] w fun e w' => e = .returned (.tuple #[.int .i64 (Plain.mulV zs), .bool (Plain.mulOk zs)]) ∧ w = w' := by
  have HN := Lib.hid hn
  have HRR := Lib.hid hr
  unfold maxLen at hn
  obtain ⟨hl, hr⟩ := hr
  have HR := Lib.hid hr; clear hr
  have HL := Lib.hid hl; clear hl
  cases hA : Plain.allMay zs
  · have hv : Plain.mulS zs = none := by simp [Plain.mulS, hA]
    have HV := Lib.hid hv; clear hv
    have HA := Lib.hid hA; clear hA
    go_enter Try.func21, Try.ntmps21
    go_wp2_with (go_at_call 29; refine (anyZero_any _ _ _ zs _ HN.out HRR.out).mono ?_; rw [HA.out]; rintro e w' ⟨rfl, rfl⟩)
    go_ret2
    exact ⟨by simp [Plain.mulV, Plain.mulOk, HV.out], rfl⟩
  · cases hZ : Plain.anyNought zs
    · have hv : Plain.mulS zs = Plain.mulFrom 1 zs := by simp [Plain.mulS, hA, hZ]
      have HV := Lib.hid hv; clear hv
      have HA := Lib.hid hA; clear hA
      have HZ := Lib.hid hZ; clear hZ
      go_enter Try.func21, Try.ntmps21
      go_wp2_with (go_at_call 29; refine (anyZero_any _ _ _ zs _ HN.out HRR.out).mono ?_; rw [HA.out, HZ.out]; rintro e w' ⟨rfl, rfl⟩)
      go_loop [6, 19] (fun s i => ∃ (k : Nat) (t : Int), k ≤ n ∧ i = .int .i64 k ∧ s = .int .i64 t ∧ 1 ≤ t ∧ t ≤ 4611686018427387904 ∧ Hid (Plain.mulFrom 1 zs = Plain.mulFrom t (zs.drop k))) (fun _ i => n - (intOf i).toNat)
      case atStart => exact ⟨0, 1, Nat.zero_le _, rfl, rfl, by omega, by omega, by simp [Hid]⟩
      case round =>
        obtain ⟨k, t, hk, rfl, rfl, ht0, ht1, HE⟩ := hrel
        by_cases hlt : k < n
        · have hm := (Plain.may_iff _).1 (Plain.allMay_drop zs k (by have := HL.out; omega) HA.out)
          have hz := Plain.nought_drop zs k (by have := HL.out; omega) HZ.out
          obtain ⟨b, o, rfl, hc⟩ := HR.out (by omega)
          have hck := hc k hlt
          clear hc
          have hd := Plain.drop_cons zs k (by have := HL.out; omega)
          have HD := Lib.hid hd; clear hd
          generalize zs.getD k 0 = x at *
          have hx1 : 1 ≤ x := by omega
          obtain ⟨_, hx2⟩ := hm
          clear hz
          by_cases hs : x ≤ 4611686018427387904 / t
          · have hp := Plain.mul_le_top t x ht0 hs
            have hq := Plain.one_le_mul t x ht0 hx1
            have hw : IntKind.i64.wrap (t * x) = t * x := IntWalk.i64_in _ (by omega)
            go_wp2
            go_round
            case rel => exact ⟨k + 1, t * x, by omega, by go_num, by go_num, hq, hp, by unfold Hid; rw [HE.out, HD.out, Plain.mulFrom_yes _ _ _ hs]⟩
            case measure => simp [intOf]; omega
          · have hv : Plain.mulFrom 1 zs = none := by rw [HE.out, HD.out, Plain.mulFrom_no _ _ _ hs]
            have HW := Lib.hid hv; clear hv
            go_wp2
            go_ret2
            exact ⟨by simp [Plain.mulV, Plain.mulOk, HV.out, HW.out], rfl⟩
        · have hv : Plain.mulFrom 1 zs = some t := by rw [HE.out, List.drop_of_length_le (by have := HL.out; omega)]; rfl
          have HW := Lib.hid hv; clear hv
          go_wp2
          go_ret2
          exact ⟨by simp [Plain.mulV, Plain.mulOk, HV.out, HW.out], rfl⟩
    · have hv : Plain.mulS zs = some 0 := by simp [Plain.mulS, hA, hZ]
      have HV := Lib.hid hv; clear hv
      have HA := Lib.hid hA; clear hA
      have HZ := Lib.hid hZ; clear hZ
      go_enter Try.func21, Try.ntmps21
      go_wp2_with (go_at_call 29; refine (anyZero_any _ _ _ zs _ HN.out HRR.out).mono ?_; rw [HA.out, HZ.out]; rintro e w' ⟨rfl, rfl⟩)
      go_ret2
      exact ⟨by simp [Plain.mulV, Plain.mulOk, HV.out], rfl⟩



set_option maxHeartbeats 400000 in
theorem rmul_any (A : Option Addr) (n c : Nat) (zs : List Int) (w : World) (hn : n ≤ maxLen) (hr : Ints w A n zs) :
    Calls Try.prog 27 #[.slice A n c] w fun e w' => e = .returned (.tuple #[.int .i64 (Plain.mulV zs), .bool (Plain.mulOk zs)]) ∧ ∃ m, w' = w.drewN m := by
  unfold maxLen at hn
  obtain ⟨hl, hr⟩ := hr
  have HR := Lib.hid hr; clear hr
  have HL := Lib.hid hl; clear hl
  go_enter Try.func27, Try.ntmps27
  go_wp2
  go_loop [4, 5] (fun z i => ∃ (k : Nat) (t : Bool), k ≤ n ∧ i = .int .i64 k ∧ z = .bool t ∧ Hid (Plain.allMay zs = Plain.allMay (zs.drop k)) ∧ Hid (Plain.anyNought zs = (t || Plain.anyNought (zs.drop k)))) (fun _ i => n - (intOf i).toNat)
  case atStart => exact ⟨0, false, Nat.zero_le _, rfl, rfl, by simp [Hid], by simp [Hid]⟩
  case round =>
    obtain ⟨k, t, hk, rfl, rfl, HE, HF⟩ := hrel
    by_cases hlt : k < n
    · obtain ⟨b, o, rfl, hc⟩ := HR.out (by omega)
      have hck := hc k hlt
      clear hc
      have hd := Plain.drop_cons zs k (by have := HL.out; omega)
      have HD := Lib.hid hd; clear hd
      generalize zs.getD k 0 = x at *
      by_cases hx : 0 ≤ x ∧ x ≤ 4611686018427387904
      · have hm := (Plain.may_iff x).2 hx
        have HM := Lib.hid hm; clear hm
        obtain ⟨hx0, hx1⟩ := hx
        cases t
        · by_cases hz : x = 0
          · subst hz
            go_wp2_with (go_at_call 33; refine (rmay_yes _ _ hx0 hx1).mono ?_; rintro e w' ⟨rfl, rfl⟩)
            go_round
            case rel => exact ⟨k + 1, true, by omega, by go_num, rfl, by unfold Hid; rw [HE.out, HD.out, Plain.allMay_cons, HM.out]; simp, by unfold Hid; rw [HF.out, HD.out, Plain.anyNought_cons]; simp⟩
            case measure => simp [intOf]; omega
          · have hb : (x == 0) = false := by simpa using hz
            go_wp2_with (go_at_call 33; refine (rmay_yes _ _ hx0 hx1).mono ?_; rintro e w' ⟨rfl, rfl⟩)
            go_round
            case rel => exact ⟨k + 1, false, by omega, by go_num, rfl, by unfold Hid; rw [HE.out, HD.out, Plain.allMay_cons, HM.out]; simp, by unfold Hid; rw [HF.out, HD.out, Plain.anyNought_cons, hb]; simp⟩
            case measure => simp [intOf]; omega
        · go_wp2_with (go_at_call 33; refine (rmay_yes _ _ hx0 hx1).mono ?_; rintro e w' ⟨rfl, rfl⟩)
          go_round
          case rel => exact ⟨k + 1, true, by omega, by go_num, rfl, by unfold Hid; rw [HE.out, HD.out, Plain.allMay_cons, HM.out]; simp, by unfold Hid; rw [HF.out]; simp⟩
          case measure => simp [intOf]; omega
      · have hv : Plain.mulS zs = none := by
          have : Plain.allMay zs = false := by rw [HE.out, HD.out, Plain.allMay_cons, (Plain.may_not x).2 hx]; simp
          simp [Plain.mulS, this]
        have HV := Lib.hid hv; clear hv
        go_wp2_with (go_at_call 33; refine (rmay_no _ _ hx).mono ?_; rintro e w' ⟨rfl, rfl⟩)
        go_ret2
        exact ⟨by simp [Plain.mulV, Plain.mulOk, HV.out], 0, rfl⟩
    · have hA : Plain.allMay zs = true := by rw [HE.out, List.drop_of_length_le (by have := HL.out; omega)]; rfl
      have hZ : Plain.anyNought zs = t := by rw [HF.out, List.drop_of_length_le (by have := HL.out; omega)]; simp [Plain.anyNought]
      cases t
      · have hv : Plain.mulS zs = Plain.mulFrom 1 zs := by simp [Plain.mulS, hA, hZ]
        have HV := Lib.hid hv; clear hv
        have HA := Lib.hid hA; clear hA
        have HZ := Lib.hid hZ; clear hZ
        go_wp2
        go_loopw [6, 7] (fun s i wr => ∃ (k : Nat) (t : Int) (m : Nat), k ≤ n ∧ i = .int .i64 k ∧ s = .int .i64 t ∧ wr = w.drewN m ∧ 1 ≤ t ∧ t ≤ 4611686018427387904 ∧ Hid (Plain.mulFrom 1 zs = Plain.mulFrom t (zs.drop k))) (fun _ i _ => n - (intOf i).toNat)
        case atStart => exact ⟨0, 1, 0, Nat.zero_le _, rfl, rfl, rfl, by omega, by omega, by simp [Hid]⟩
        case round =>
          obtain ⟨k, t, m, hk, rfl, rfl, rfl, ht0, ht1, HE⟩ := hrel
          by_cases hlt : k < n
          · have hm := (Plain.may_iff _).1 (Plain.allMay_drop zs k (by have := HL.out; omega) HA.out)
            have hz := Plain.nought_drop zs k (by have := HL.out; omega) HZ.out
            obtain ⟨b, o, rfl, hc⟩ := HR.out (by omega)
            have hck := hc k hlt
            clear hc
            have hd := Plain.drop_cons zs k (by have := HL.out; omega)
            have HD := Lib.hid hd; clear hd
            generalize zs.getD k 0 = x at *
            have hx1 : 1 ≤ x := by omega
            obtain ⟨_, hx2⟩ := hm
            clear hz
            by_cases hs : x ≤ 4611686018427387904 / t
            · have hp := Plain.mul_le_top t x ht0 hs
              have hq := Plain.one_le_mul t x ht0 hx1
              have hw : IntKind.i64.wrap (t * x) = t * x := IntWalk.i64_in _ (by omega)
              go_wp2
              go_quiet (fail)
              go_wp2
              go_roundw
              case rel => exact ⟨k + 1, t * x, _, by omega, by go_num, by go_num, rfl, hq, hp, by unfold Hid; rw [HE.out, HD.out, Plain.mulFrom_yes _ _ _ hs]⟩
              case measure => simp [intOf]; omega
            · have hv : Plain.mulFrom 1 zs = none := by rw [HE.out, HD.out, Plain.mulFrom_no _ _ _ hs]
              have HW := Lib.hid hv; clear hv
              go_wp2
              go_quiet (fail)
              go_wp2
              go_ret2
              exact ⟨by simp [Plain.mulV, Plain.mulOk, HV.out, HW.out], _, by first | rfl | exact World.drewN_drewN _ _ _⟩
          · have hv : Plain.mulFrom 1 zs = some t := by rw [HE.out, List.drop_of_length_le (by have := HL.out; omega)]; rfl
            have HW := Lib.hid hv; clear hv
            go_wp2
            go_ret2
            exact ⟨by simp [Plain.mulV, Plain.mulOk, HV.out, HW.out], _, by first | rfl | exact World.drewN_drewN _ _ _⟩
      · have hv : Plain.mulS zs = some 0 := by simp [Plain.mulS, hA, hZ]
        have HV := Lib.hid hv; clear hv
        clear hA hZ
        go_wp2
        go_ret2
        exact ⟨by simp [Plain.mulV, Plain.mulOk, HV.out], 0, rfl⟩

end Go.Proofs.Ytheokjjkjigcfaa
