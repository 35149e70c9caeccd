/- Contract of the law TabCase. -/
import Derived.Test.YtoccnhajfmkpoaaWalksR
import Derived.WalkKit
import Derived.WalkSpells
import Derived.WalkLawsBesides
import Derived.Lib.Hide
import Derived.Deep.RegionHeld3
import Derived.Deep.DeepCutAuto
namespace Go.Proofs.Ytoccnhajfmkpoaa
open Go.RowKit

theorem below_next {W w w' : World} (h : Below W.heap.size W w) (k : Below w.heap.size w w') : Below W.heap.size W w' := h.trans (k.mono h.size)

theorem case_small : ∀ k < 256, 97 ≤ k → k ≤ 122 → lower.getD k 0 = (k : Int) ∧ upper.getD k 0 = (k : Int) - 32 ∧ lower.getD (k - 32) 0 = (k : Int) := by decide +kernel
theorem case_great : ∀ k < 256, 65 ≤ k → k ≤ 90 → upper.getD k 0 = (k : Int) ∧ lower.getD k 0 = (k : Int) + 32 ∧ upper.getD (k + 32) 0 = (k : Int) := by decide +kernel
theorem case_none : ∀ k < 256, ¬ (97 ≤ k ∧ k ≤ 122) → ¬ (65 ≤ k ∧ k ≤ 90) → upper.getD k 0 = (k : Int) ∧ lower.getD k 0 = (k : Int) := by decide +kernel

/-- One of a table's bytes, told. -/
theorem index_is (l : List Int) (hl : l.length = 256) (c x : Int) (k : Nat) (hc : c = k) (hk : k < 256) (hx : l.getD k 0 = x) : ∀ w, (Instr.index 24 (tv l) (.int .u8 c)).run Try.prog w = .ok (.int .u8 x) w := by
  subst hx; exact fun w => run_index_tab w l .u8 c k hc hl hk

theorem u8_bounds {n : Int} (h : (Lit.int .u8 n).wf = true) : 0 ≤ n ∧ n ≤ 255 := bounds_u8 h

set_option maxRecDepth 100000 in
set_option maxHeartbeats 2000000 in
theorem law_case (c : Int) (w : World) (h0 : 0 ≤ c) (h1 : c ≤ 255) : Calls Try.prog 8 #[.int .u8 c] w fun e w' => e = .returned (.bool true) ∧ Below w.heap.size w w' := by
  have CL := Lib.hid lower_any; have CU := Lib.hid upper_any; have CR := Lib.hid law_runs
  have hc : c = (c.toNat : Nat) := by omega
  by_cases hA : 97 ≤ c ∧ c ≤ 122
  · obtain ⟨a1, a2⟩ := hA
    obtain ⟨e1, e2, e3⟩ := case_small c.toNat (by omega) (by omega) (by omega)
    have XL := index_is lower len_lower c c c.toNat hc (by omega) (by rw [e1]; omega)
    have XU := index_is upper len_upper c (c - 32) c.toNat hc (by omega) (by rw [e2]; omega)
    have XB := index_is lower len_lower (c - 32) c (c.toNat - 32) (by omega) (by omega) (by rw [e3]; omega)
    clear e1 e2 e3 hc
    generalize lower = L at CL XL XB
    generalize upper = U at CU XU
    go_enter Try.func8, Try.ntmps8
    go_upto_region 1 with fail
    go_cut [3, 4] (fun u v wx => u = .int .u8 c ∧ v = .int .u8 (c - 32) ∧ Below w.heap.size w wx)
    case first =>
      go_region_held3 (fun w' => Below w.heap.size w w')
        (first | assumption | exact Below.refl _ _ | exact (Below.refl _ _).drew | exact below_next (by assumption) k9)
        (first | (go_at_call 15; ((with_reducible refine (CL.out _).mono ?_); rintro e w9 ⟨rfl, k9⟩)) | (go_at_call 12; ((with_reducible refine (CU.out _).mono ?_); rintro e w9 ⟨rfl, k9⟩)))
      all_goals
        go_wp2_with fail
        go_meet
        exact ⟨rfl, rfl, by assumption⟩
    case rest =>
      obtain ⟨rfl, rfl, K0⟩ := hcut
      have K := Lib.hid K0; clear K0
      go_wp2_with fail
      refine (CL.out _).mono ?_
      rintro e w2 ⟨rfl, k2⟩
      have K2 := Lib.hid (below_next K.out k2)
      clear k2 K
      go_wp2_with fail
      refine (CR.out _).mono ?_
      rintro e w3 ⟨rfl, k3⟩
      have K3 := Lib.hid (below_next K2.out k3)
      clear k3 K2
      go_wp2
      go_ret
      exact ⟨rfl, K3.out⟩
  by_cases hB : 65 ≤ c ∧ c ≤ 90
  · obtain ⟨a1, a2⟩ := hB
    obtain ⟨e1, e2, e3⟩ := case_great c.toNat (by omega) (by omega) (by omega)
    have XU := index_is upper len_upper c c c.toNat hc (by omega) (by rw [e1]; omega)
    have XL := index_is lower len_lower c (c + 32) c.toNat hc (by omega) (by rw [e2]; omega)
    have XB := index_is upper len_upper (c + 32) c (c.toNat + 32) (by omega) (by omega) (by rw [e3]; omega)
    have a3 : ¬ 97 ≤ c := by omega
    clear e1 e2 e3 hc hA
    generalize lower = L at CL XL
    generalize upper = U at CU XU XB
    go_enter Try.func8, Try.ntmps8
    go_upto_region 1 with fail
    go_cut [3, 4] (fun u v wx => u = .int .u8 (c + 32) ∧ v = .int .u8 c ∧ Below w.heap.size w wx)
    case first =>
      go_region_held3 (fun w' => Below w.heap.size w w')
        (first | assumption | exact Below.refl _ _ | exact (Below.refl _ _).drew | exact below_next (by assumption) k9)
        (first | (go_at_call 15; ((with_reducible refine (CL.out _).mono ?_); rintro e w9 ⟨rfl, k9⟩)) | (go_at_call 12; ((with_reducible refine (CU.out _).mono ?_); rintro e w9 ⟨rfl, k9⟩)))
      all_goals
        go_wp2_with fail
        go_meet
        exact ⟨rfl, rfl, by assumption⟩
    case rest =>
      obtain ⟨rfl, rfl, K0⟩ := hcut
      have K := Lib.hid K0; clear K0
      go_wp2_with fail
      refine (CU.out _).mono ?_
      rintro e w2 ⟨rfl, k2⟩
      have K2 := Lib.hid (below_next K.out k2)
      clear k2 K
      go_wp2_with fail
      refine (CR.out _).mono ?_
      rintro e w3 ⟨rfl, k3⟩
      have K3 := Lib.hid (below_next K2.out k3)
      clear k3 K2
      go_wp2
      go_ret
      exact ⟨rfl, K3.out⟩
  obtain ⟨e1, e2⟩ := case_none c.toNat (by omega) (by omega) (by omega)
  have XU := index_is upper len_upper c c c.toNat hc (by omega) (by rw [e1]; omega)
  have XL := index_is lower len_lower c c c.toNat hc (by omega) (by rw [e2]; omega)
  clear e1 e2 hc
  generalize lower = L at CL XL
  generalize upper = U at CU XU
  rcases (show (122 < c ∧ ¬ c ≤ 90) ∨ (¬ 97 ≤ c ∧ 90 < c) ∨ (¬ 97 ≤ c ∧ ¬ 65 ≤ c) by omega) with ⟨a1, a2⟩ | ⟨a1, a2⟩ | ⟨a1, a2⟩
  all_goals
    clear hA hB
    go_enter Try.func8, Try.ntmps8
    go_upto_region 1 with fail
    go_cut [3, 4] (fun u v wx => u = .int .u8 c ∧ v = .int .u8 c ∧ Below w.heap.size w wx)
    case first =>
      go_region_held3 (fun w' => Below w.heap.size w w')
        (first | assumption | exact Below.refl _ _ | exact (Below.refl _ _).drew | exact below_next (by assumption) k9)
        (first | (go_at_call 15; ((with_reducible refine (CL.out _).mono ?_); rintro e w9 ⟨rfl, k9⟩)) | (go_at_call 12; ((with_reducible refine (CU.out _).mono ?_); rintro e w9 ⟨rfl, k9⟩)))
      all_goals
        go_wp2_with fail
        go_meet
        exact ⟨rfl, rfl, by assumption⟩
    case rest =>
      obtain ⟨rfl, rfl, K0⟩ := hcut
      have K := Lib.hid K0; clear K0
      have K2 := K; clear K
      go_wp2_with fail
      refine (CR.out _).mono ?_
      rintro e w3 ⟨rfl, k3⟩
      have K3 := Lib.hid (below_next K2.out k3)
      clear k3 K2
      go_wp2
      go_ret
      exact ⟨rfl, K3.out⟩

theorem law_case_said (c : Int) (w : World) (h : (Lit.int .u8 c).wf = true) : Calls Try.prog 8 #[.int .u8 c] w fun e w' => e = .returned (.bool true) ∧ Below w.heap.size w w' :=
  law_case c w (u8_bounds h).1 (u8_bounds h).2

end Go.Proofs.Ytoccnhajfmkpoaa
