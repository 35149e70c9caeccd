/- Contracts of num.isDec, num.digit, num.read and of the reference number. -/
import Derived.Test.YtheokjjkjigcfaaRows
import Derived.Test.YtheokjjkjigcfaaPlainN
import Derived.WalkKit
import Derived.WalkSpells
import Derived.WalkLawsBesides
import Derived.Lib.Hide
namespace Go.Proofs.Ytheokjjkjigcfaa
open Go.RowKit

set_option maxHeartbeats 400000 in
theorem isDec_yes (c : Int) (w : World) (h0 : 48 ≤ c) (h1 : c ≤ 57) :
    Calls Try.prog 30 #[.int .u8 c] w fun e w' => e = .returned (.bool true) ∧ w = w' := by
  go_enter Try.func30, Try.ntmps30
  go_wp2
  go_ret
  exact ⟨rfl, rfl⟩

set_option maxHeartbeats 400000 in
theorem isDec_no (c : Int) (w : World) (h : ¬ (48 ≤ c ∧ c ≤ 57)) :
    Calls Try.prog 30 #[.int .u8 c] w fun e w' => e = .returned (.bool false) ∧ w = w' := by
  by_cases h0 : 48 ≤ c
  · have h1 : ¬ c ≤ 57 := fun h1 => h ⟨h0, h1⟩
    clear h
    go_enter Try.func30, Try.ntmps30
    go_wp2
    go_ret
    exact ⟨rfl, rfl⟩
  · clear h
    go_enter Try.func30, Try.ntmps30
    go_wp2
    go_ret
    exact ⟨rfl, rfl⟩

theorem ret_int {k : IntKind} {a b : Int} (h : a = b) : Ending.returned (.int k a) = .returned (.int k b) := by rw [h]

set_option maxHeartbeats 400000 in
theorem digit_any (c : Nat) (w : World) (hc : c ≤ 255) :
    Calls Try.prog 32 #[.int .u8 (c : Int)] w fun e w' => e = .returned (.int .u64 ((Plain.dg c : Nat) : Int)) ∧ w = w' := by
  by_cases h1 : 48 ≤ c ∧ c ≤ 57
  · have hv : Plain.dg c = c - 48 := by rw [Plain.dg, if_pos h1]
    have HV := Lib.hid hv; clear hv
    obtain ⟨h1a, h1b⟩ := h1
    go_enter Try.func32, Try.ntmps32
    go_wp2_with (go_at_call 30; refine (isDec_yes _ _ (by omega) (by omega)).mono ?_; rintro e w' ⟨rfl, rfl⟩)
    go_ret
    exact ⟨ret_int (by rw [HV.out]; omega), rfl⟩
  · by_cases h2 : 65 ≤ c ∧ c ≤ 70
    · have hv : Plain.dg c = c - 55 := by rw [Plain.dg, if_neg h1, if_pos h2]
      have HV := Lib.hid hv; clear hv
      obtain ⟨h2a, h2b⟩ := h2
      clear h1
      go_enter Try.func32, Try.ntmps32
      go_wp2_with (go_at_call 30; refine (isDec_no _ _ (by omega)).mono ?_; rintro e w' ⟨rfl, rfl⟩)
      go_ret
      exact ⟨ret_int (by rw [HV.out]; omega), rfl⟩
    · by_cases h3 : 97 ≤ c ∧ c ≤ 102
      · have hv : Plain.dg c = c - 87 := by rw [Plain.dg, if_neg h1, if_neg h2, if_pos h3]
        have HV := Lib.hid hv; clear hv
        obtain ⟨h3a, h3b⟩ := h3
        clear h1 h2
        go_enter Try.func32, Try.ntmps32
        go_wp2_with (go_at_call 30; refine (isDec_no _ _ (by omega)).mono ?_; rintro e w' ⟨rfl, rfl⟩)
        go_ret
        exact ⟨ret_int (by rw [HV.out]; omega), rfl⟩
      · have hv : Plain.dg c = 16 := by rw [Plain.dg, if_neg h1, if_neg h2, if_neg h3]
        have HV := Lib.hid hv; clear hv
        have H1 := Lib.hid h1; have H2 := Lib.hid h2; have H3 := Lib.hid h3; clear h1 h2 h3
        go_enter Try.func32, Try.ntmps32
        go_wp2_with (go_at_call 30; refine (isDec_no _ _ (by have := H1.out; omega)).mono ?_; rintro e w' ⟨rfl, rfl⟩)
        all_goals first | (go_ret; exact ⟨ret_int (by rw [HV.out]; omega), rfl⟩) | (exfalso; have := H2.out; have := H3.out; omega)

end Go.Proofs.Ytheokjjkjigcfaa
