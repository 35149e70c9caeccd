/- Contracts of Down, Up and MaySpan, of off and of the reference. -/
import Derived.Test.YtamignakfliocaaRows
import Derived.Test.YtamignakfliocaaPlain
import Derived.Test.YtamignakfliocaaWalksA
import Derived.Test.YtamignakfliocaaWalksB
import Derived.WalkKit
import Derived.WalkSpells
import Derived.WalkLawsBesides
import Derived.Lib.Hide
import Derived.Deep.QuietTactic
import Derived.BigQuiet
namespace Go.Proofs.Ytamignakfliocaa
open Go.RowKit

set_option maxHeartbeats 400000 in
theorem down_any (n u : Int) (w : World) (hu : u ≤ 9223372036854775807) :
    Calls Try.prog 20 #[.int .i64 n, .int .i64 u] w fun e w' => e = .returned (.int .i64 (Plain.downV n u)) ∧ w = w' := by
  by_cases hn : 0 ≤ n ∧ n ≤ 4611686018427387904
  · by_cases h1 : 1 ≤ u
    · have hv : Plain.downV n u = n - n % u := by rw [Plain.downV, if_pos ⟨hn, h1⟩]
      have HV := Lib.hid hv; clear hv
      obtain ⟨r0, r1, r2⟩ := Plain.rem_bounds n u hn.1 h1
      obtain ⟨hn0, hn1⟩ := hn
      go_enter Try.func20, Try.ntmps20
      go_wp2_with (go_at_call 14; refine (may_yes _ _ hn0 hn1).mono ?_; rintro e w' ⟨rfl, rfl⟩)
      go_ret
      exact ⟨by simp [HV.out], rfl⟩
    · have hv : Plain.downV n u = 0 := by rw [Plain.downV, if_neg (fun h => h1 h.2)]
      have HV := Lib.hid hv; clear hv
      obtain ⟨hn0, hn1⟩ := hn
      go_enter Try.func20, Try.ntmps20
      go_wp2_with (go_at_call 14; refine (may_yes _ _ hn0 hn1).mono ?_; rintro e w' ⟨rfl, rfl⟩)
      go_ret
      exact ⟨by simp [HV.out], rfl⟩
  · have hv : Plain.downV n u = 0 := by rw [Plain.downV, if_neg (fun h => hn h.1)]
    have HV := Lib.hid hv; clear hv
    go_enter Try.func20, Try.ntmps20
    go_wp2_with (go_at_call 14; refine (may_no _ _ hn).mono ?_; rintro e w' ⟨rfl, rfl⟩)
    go_ret
    exact ⟨by simp [HV.out], rfl⟩

set_option maxHeartbeats 400000 in
theorem rdown_any (n u : Int) (w : World) (hu : u ≤ 9223372036854775807) :
    Calls Try.prog 21 #[.int .i64 n, .int .i64 u] w fun e w' => e = .returned (.int .i64 (Plain.downV n u)) ∧ w = w' := by
  by_cases hn : 0 ≤ n ∧ n ≤ 4611686018427387904
  · by_cases h1 : 1 ≤ u
    · have hv : Plain.downV n u = n - n % u := by rw [Plain.downV, if_pos ⟨hn, h1⟩]
      have HV := Lib.hid hv; clear hv
      obtain ⟨r0, r1, r2⟩ := Plain.rem_bounds n u hn.1 h1
      obtain ⟨hn0, hn1⟩ := hn
      go_enter Try.func21, Try.ntmps21
      go_wp2_with (go_at_call 17; refine (rmay_yes _ _ hn0 hn1).mono ?_; rintro e w' ⟨rfl, rfl⟩)
      go_ret
      exact ⟨by simp [HV.out], rfl⟩
    · have hv : Plain.downV n u = 0 := by rw [Plain.downV, if_neg (fun h => h1 h.2)]
      have HV := Lib.hid hv; clear hv
      obtain ⟨hn0, hn1⟩ := hn
      go_enter Try.func21, Try.ntmps21
      go_wp2_with (go_at_call 17; refine (rmay_yes _ _ hn0 hn1).mono ?_; rintro e w' ⟨rfl, rfl⟩)
      go_ret
      exact ⟨by simp [HV.out], rfl⟩
  · have hv : Plain.downV n u = 0 := by rw [Plain.downV, if_neg (fun h => hn h.1)]
    have HV := Lib.hid hv; clear hv
    go_enter Try.func21, Try.ntmps21
    go_wp2_with (go_at_call 17; refine (rmay_no _ _ hn).mono ?_; rintro e w' ⟨rfl, rfl⟩)
    go_ret
    exact ⟨by simp [HV.out], rfl⟩

set_option maxHeartbeats 400000 in
theorem up_any (n u : Int) (w : World) (hu : u ≤ 9223372036854775807) :
    Calls Try.prog 18 #[.int .i64 n, .int .i64 u] w fun e w' => e = .returned (.tuple #[.int .i64 (Plain.upV n u), .bool (Plain.upOk n u)]) ∧ Below w.heap.size w w' := by
  by_cases hn : 0 ≤ n ∧ n ≤ 4611686018427387904
  · by_cases h1 : 1 ≤ u
    · obtain ⟨r0, r1, r2⟩ := Plain.rem_bounds n u hn.1 h1
      by_cases hz : n % u = 0
      · have hv : Plain.upS n u = some n := by rw [Plain.upS, if_pos ⟨hn, h1⟩, if_pos hz]
        have HV := Lib.hid hv; clear hv
        have hzb : (n % u == 0) = true := by simpa using hz
        obtain ⟨hn0, hn1⟩ := hn
        go_enter Try.func18, Try.ntmps18
        go_wp2_with (go_at_call 14; refine (may_yes _ _ hn0 hn1).mono ?_; rintro e w' ⟨rfl, rfl⟩)
        go_ret2
        exact ⟨by simp [Plain.upV, Plain.upOk, HV.out], Below.refl _ _⟩
      · have hzb : (n % u == 0) = false := by simpa using hz
        have hv : Plain.upV n u = Plain.addV [n, u - n % u] ∧ Plain.upOk n u = Plain.addOk [n, u - n % u] := by
          unfold Plain.upV Plain.upOk Plain.addV Plain.addOk
          rw [Plain.addFrom_two, Plain.upS, if_pos ⟨hn, h1⟩, if_neg hz]
          by_cases hs : u - n % u ≤ 4611686018427387904 - n
          · rw [if_pos hs, if_pos ⟨hn.1, hn.2, by omega, hs⟩]; exact ⟨rfl, rfl⟩
          · rw [if_neg hs, if_neg (fun h => hs h.2.2.2)]; exact ⟨rfl, rfl⟩
        have HV := Lib.hid hv; clear hv
        obtain ⟨hn0, hn1⟩ := hn
        clear hz
        go_enter Try.func18, Try.ntmps18
        go_wp2_with (first | (go_at_call 14; refine (may_yes _ _ hn0 hn1).mono ?_; rintro e w' ⟨rfl, rfl⟩) | (go_at_call 11; refine (add_any _ _ _ [n, u - n % u] _ (by decide) (ints_two _ _ _ _)).mono ?_; rintro e w' ⟨rfl, rfl⟩))
        go_ret2
        exact ⟨by simp [HV.out.1, HV.out.2], (Below.refl _ _).alloc (Nat.le_refl _) _⟩
    · have hv : Plain.upS n u = none := by rw [Plain.upS, if_neg (fun h => h1 h.2)]
      have HV := Lib.hid hv; clear hv
      obtain ⟨hn0, hn1⟩ := hn
      go_enter Try.func18, Try.ntmps18
      go_wp2_with (go_at_call 14; refine (may_yes _ _ hn0 hn1).mono ?_; rintro e w' ⟨rfl, rfl⟩)
      go_ret2
      exact ⟨by simp [Plain.upV, Plain.upOk, HV.out], Below.refl _ _⟩
  · have hv : Plain.upS n u = none := by rw [Plain.upS, if_neg (fun h => hn h.1)]
    have HV := Lib.hid hv; clear hv
    go_enter Try.func18, Try.ntmps18
    go_wp2_with (go_at_call 14; refine (may_no _ _ hn).mono ?_; rintro e w' ⟨rfl, rfl⟩)
    go_ret2
    exact ⟨by simp [Plain.upV, Plain.upOk, HV.out], Below.refl _ _⟩

set_option maxHeartbeats 400000 in
theorem rup_any (n u : Int) (w : World) (hu : u ≤ 9223372036854775807) :
    Calls Try.prog 19 #[.int .i64 n, .int .i64 u] w fun e w' => e = .returned (.tuple #[.int .i64 (Plain.upV n u), .bool (Plain.upOk n u)]) ∧ Below w.heap.size w w' := by
  by_cases hn : 0 ≤ n ∧ n ≤ 4611686018427387904
  · by_cases h1 : 1 ≤ u
    · obtain ⟨r0, r1, r2⟩ := Plain.rem_bounds n u hn.1 h1
      by_cases hz : n % u = 0
      · have hv : Plain.upS n u = some n := by rw [Plain.upS, if_pos ⟨hn, h1⟩, if_pos hz]
        have HV := Lib.hid hv; clear hv
        have hzb : (n % u == 0) = true := by simpa using hz
        obtain ⟨hn0, hn1⟩ := hn
        go_enter Try.func19, Try.ntmps19
        go_wp2_with (go_at_call 17; refine (rmay_yes _ _ hn0 hn1).mono ?_; rintro e w' ⟨rfl, rfl⟩)
        go_ret2
        exact ⟨by simp [Plain.upV, Plain.upOk, HV.out], Below.refl _ _⟩
      · have hzb : (n % u == 0) = false := by simpa using hz
        by_cases hs : u - n % u ≤ 4611686018427387904 - n
        · have hv : Plain.upS n u = some (n + (u - n % u)) := by rw [Plain.upS, if_pos ⟨hn, h1⟩, if_neg hz, if_pos hs]
          have HV := Lib.hid hv; clear hv
          obtain ⟨hn0, hn1⟩ := hn
          clear hz
          go_enter Try.func19, Try.ntmps19
          go_wp2_with (go_at_call 17; refine (rmay_yes _ _ hn0 hn1).mono ?_; rintro e w' ⟨rfl, rfl⟩)
          go_ret2
          exact ⟨by simp [Plain.upV, Plain.upOk, HV.out], Below.refl _ _⟩
        · have hv : Plain.upS n u = none := by rw [Plain.upS, if_pos ⟨hn, h1⟩, if_neg hz, if_neg hs]
          have HV := Lib.hid hv; clear hv
          obtain ⟨hn0, hn1⟩ := hn
          clear hz
          go_enter Try.func19, Try.ntmps19
          go_wp2_with (go_at_call 17; refine (rmay_yes _ _ hn0 hn1).mono ?_; rintro e w' ⟨rfl, rfl⟩)
          go_ret2
          exact ⟨by simp [Plain.upV, Plain.upOk, HV.out], Below.refl _ _⟩
    · have hv : Plain.upS n u = none := by rw [Plain.upS, if_neg (fun h => h1 h.2)]
      have HV := Lib.hid hv; clear hv
      obtain ⟨hn0, hn1⟩ := hn
      go_enter Try.func19, Try.ntmps19
      go_wp2_with (go_at_call 17; refine (rmay_yes _ _ hn0 hn1).mono ?_; rintro e w' ⟨rfl, rfl⟩)
      go_ret2
      exact ⟨by simp [Plain.upV, Plain.upOk, HV.out], Below.refl _ _⟩
  · have hv : Plain.upS n u = none := by rw [Plain.upS, if_neg (fun h => hn h.1)]
    have HV := Lib.hid hv; clear hv
    go_enter Try.func19, Try.ntmps19
    go_wp2_with (go_at_call 17; refine (rmay_no _ _ hn).mono ?_; rintro e w' ⟨rfl, rfl⟩)
    go_ret2
    exact ⟨by simp [Plain.upV, Plain.upOk, HV.out], Below.refl _ _⟩

set_option maxHeartbeats 400000 in
theorem span_any (p l : Int) (w : World) :
    Calls Try.prog 22 #[.agg #[.int .i64 p, .int .i64 l]] w fun e w' => e = .returned (.bool (Plain.spanB p l)) ∧ Below w.heap.size w w' := by
  have hv := Plain.addOk_two p l
  have HV := Lib.hid hv; clear hv
  go_enter Try.func22, Try.ntmps22
  go_wp2_with (go_at_call 11; refine (add_any _ _ _ [p, l] _ (by decide) (ints_two_at _ _ _ _ _ (by simp))).mono ?_; rintro e w' ⟨rfl, rfl⟩)
  go_ret
  exact ⟨by simp [HV.out], ((Below.refl _ _).alloc (Nat.le_refl _) _).alloc (by simp) _⟩

set_option maxHeartbeats 400000 in
theorem rspan_any (p l : Int) (w : World) :
    Calls Try.prog 23 #[.agg #[.int .i64 p, .int .i64 l]] w fun e w' => e = .returned (.bool (Plain.spanB p l)) ∧ Below w.heap.size w w' := by
  have hv := Plain.addOk_two p l
  have HV := Lib.hid hv; clear hv
  go_enter Try.func23, Try.ntmps23
  go_wp2_with (go_at_call 15; refine (radd_any _ _ _ [p, l] _ (by decide) (ints_two_at _ _ _ _ _ (by simp))).mono ?_; rintro e w' ⟨rfl, rfl⟩)
  go_ret
  exact ⟨by simp [HV.out], ((Below.refl _ _).alloc (Nat.le_refl _) _).alloc (by simp) _⟩

end Go.Proofs.Ytamignakfliocaa
