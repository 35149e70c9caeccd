/- The law ConvMay, walked. -/
import Derived.Test.YtghihmmapignmaaMayR
import Derived.Test.YtghihmmapignmaaLawU
import Derived.WalkKit
import Derived.WalkSpells
import Derived.WalkLawsBesides
import Derived.Lib.Hide
import Derived.Deep.RegionHeld3
namespace Go.Proofs.Ytghihmmapignmaa
open Go.RowKit

set_option maxRecDepth 100000 in
set_option maxHeartbeats 8000000 in
theorem maylaw_walk (x : Cf) (w : World) (_ : (Lit.int .i64 x.cb).wf = true) :
    Calls Try.prog 4 #[x.val] w fun e w' => e = .returned (.bool true) ∧ Below w.heap.size w w' := by
  have CM := Lib.hid (may_any x); have CR := Lib.hid (rmay_any x); have CP := Lib.hid (pad_any x); have CQ := Lib.hid (rpad_any x); have CL := Lib.hid law_runs
  have K0 := Lib.hid (show Below w.heap.size w (w.alloc (.cells x.cells 23)) from (Below.refl _ _).alloc (Nat.le_refl _) _)
  have R0 := Lib.hid (row_new w x.cells 23)
  generalize x.may = z at *
  generalize x.pad = pd at *
  have HX : x.val = .agg #[.bool x.sw, .bool x.bl, .bool x.ub, .bool x.lc, .bool x.uc, .bool x.ac, .bool x.eb, .bool x.ib, .int .i64 x.cb] := rfl
  rw [HX]
  clear HX
  go_enter Try.func4, Try.ntmps4
  go_wp2_with fail
  have hS := (show Row (w.alloc (.cells x.cells 23)).drew w.heap.size 23 x.cells ∧ Below w.heap.size w (w.alloc (.cells x.cells 23)).drew from ⟨R0.out, K0.out.drew⟩)
  refine wp_region_held_drew (S := fun w' => Row w' w.heap.size 23 x.cells ∧ Below w.heap.size w w') (by kernel_rfl) hS (fun hHeld => ?_)
  clear hS
  show wpAnyH _ _ _ _ _ 16 _ _ _
  refine take_box 0 3 (fuel := 15) _ w.heap.size x rfl rfl (by kernel_rfl) (by kernel_rfl) (by kernel_rfl) (fun _ _ _ h => h) (by rfl) hHeld rfl rfl (fun _ h => h.1) ?_
  simp only [Act.put, List.setIfInBounds_toArray, List.set_cons_zero, List.set_cons_succ]
  refine take_box 2 5 (fuel := 14) _ w.heap.size x rfl rfl (by kernel_rfl) (by kernel_rfl) (by kernel_rfl) (fun _ _ _ h => h) (by rfl) hHeld rfl rfl (fun _ h => h.1) ?_
  simp only [Act.put, List.setIfInBounds_toArray, List.set_cons_zero, List.set_cons_succ]
  refine wpAnyH_ready (rs := [1]) (fuel := 13) (by kernel_rfl) (by simp) ?_
  refine AllReadyH.cons rfl (fun Kq hK => ?_) AllReadyH.nil
  go_simp
  refine (CM.out _).mono ?_
  rintro e w1 ⟨rfl, k⟩
  go_simp
  refine hK.out _ _ ⟨hHeld.1.on k, hHeld.2.trans (k.mono hHeld.2.size)⟩ (fun hH1 => ?_)
  clear hK Kq hHeld k
  (try simp only [Act.put, List.setIfInBounds_toArray, List.set_cons_zero, List.set_cons_succ])
  refine wpAnyH_ready (rs := [3]) (fuel := 12) (by kernel_rfl) (by simp) ?_
  refine AllReadyH.cons rfl (fun Kq hK => ?_) AllReadyH.nil
  go_simp
  refine (CR.out _).mono ?_
  rintro e w3 ⟨rfl, k⟩
  go_simp
  refine hK.out _ _ ⟨hH1.1.on k, hH1.2.trans (k.mono hH1.2.size)⟩ (fun hH3 => ?_)
  clear hK Kq hH1 k
  (try simp only [Act.put, List.setIfInBounds_toArray, List.set_cons_zero, List.set_cons_succ])
  refine take_at 4 7 (v := ?vm4) (fuel := 11) rfl rfl (by kernel_rfl) (by kernel_rfl) (by kernel_rfl) (fun _ _ _ h => h) (by rfl) hH3 ?hym4 ?restm4
  case hym4 => (intro w' hSw; (try dsimp only at hSw); go_simp <;> with_reducible rfl)
  simp only [Act.put, List.setIfInBounds_toArray, List.set_cons_zero, List.set_cons_succ]
  refine take_at 5 8 (v := ?vm5) (fuel := 10) rfl rfl (by kernel_rfl) (by kernel_rfl) (by kernel_rfl) (fun _ _ _ h => h) (by rfl) hH3 ?hym5 ?restm5
  case hym5 => (intro w' hSw; (try dsimp only at hSw); go_simp <;> with_reducible rfl)
  simp only [Act.put, List.setIfInBounds_toArray, List.set_cons_zero, List.set_cons_succ]
  refine take_box 6 9 (fuel := 9) _ w.heap.size x rfl rfl (by kernel_rfl) (by kernel_rfl) (by kernel_rfl) (fun _ _ _ h => h) (by rfl) hH3 rfl rfl (fun _ h => h.1) ?_
  simp only [Act.put, List.setIfInBounds_toArray, List.set_cons_zero, List.set_cons_succ]
  refine take_box 8 11 (fuel := 8) _ w.heap.size x rfl rfl (by kernel_rfl) (by kernel_rfl) (by kernel_rfl) (fun _ _ _ h => h) (by rfl) hH3 rfl rfl (fun _ h => h.1) ?_
  simp only [Act.put, List.setIfInBounds_toArray, List.set_cons_zero, List.set_cons_succ]
  refine wpAnyH_ready (rs := [7]) (fuel := 7) (by kernel_rfl) (by simp) ?_
  refine AllReadyH.cons rfl (fun Kq hK => ?_) AllReadyH.nil
  go_simp
  refine (CP.out _).mono ?_
  rintro e w7 ⟨rfl, k⟩
  go_simp
  refine hK.out _ _ ⟨hH3.1.on k, hH3.2.trans (k.mono hH3.2.size)⟩ (fun hH7 => ?_)
  clear hK Kq hH3 k
  (try simp only [Act.put, List.setIfInBounds_toArray, List.set_cons_zero, List.set_cons_succ])
  refine wpAnyH_ready (rs := [9]) (fuel := 6) (by kernel_rfl) (by simp) ?_
  refine AllReadyH.cons rfl (fun Kq hK => ?_) AllReadyH.nil
  go_simp
  refine (CQ.out _).mono ?_
  rintro e w9 ⟨rfl, k⟩
  go_simp
  refine hK.out _ _ ⟨hH7.1.on k, hH7.2.trans (k.mono hH7.2.size)⟩ (fun hH9 => ?_)
  clear hK Kq hH7 k
  (try simp only [Act.put, List.setIfInBounds_toArray, List.set_cons_zero, List.set_cons_succ])
  refine take_at 10 13 (v := ?vm10) (fuel := 5) rfl rfl (by kernel_rfl) (by kernel_rfl) (by kernel_rfl) (fun _ _ _ h => h) (by rfl) hH9 ?hym10 ?restm10
  case hym10 => (intro w' hSw; (try dsimp only at hSw); go_simp <;> with_reducible rfl)
  simp only [Act.put, List.setIfInBounds_toArray, List.set_cons_zero, List.set_cons_succ]
  refine take_at 11 14 (v := ?vm11) (fuel := 4) rfl rfl (by kernel_rfl) (by kernel_rfl) (by kernel_rfl) (fun _ _ _ h => h) (by rfl) hH9 ?hym11 ?restm11
  case hym11 => (intro w' hSw; (try dsimp only at hSw); go_simp <;> with_reducible rfl)
  simp only [Act.put, List.setIfInBounds_toArray, List.set_cons_zero, List.set_cons_succ]
  refine take_at 12 15 (v := ?vm12) (fuel := 3) rfl rfl (by kernel_rfl) (by kernel_rfl) (by kernel_rfl) (fun _ _ _ h => h) (by rfl) hH9 ?hym12 ?restm12
  case hym12 => (intro w' hSw; (try dsimp only at hSw); go_simp <;> with_reducible rfl)
  simp only [Act.put, List.setIfInBounds_toArray, List.set_cons_zero, List.set_cons_succ]
  refine wpAnyH_ready (rs := [13]) (fuel := 2) (by kernel_rfl) (by simp) ?_
  refine AllReadyH.cons rfl (fun Kq hK => ?_) AllReadyH.nil
  go_simp
  refine (CL.out _).mono ?_
  rintro e w13 ⟨rfl, k⟩
  go_simp
  refine hK.out _ _ ⟨hH9.1.on k, hH9.2.trans (k.mono hH9.2.size)⟩ (fun hH13 => ?_)
  clear hK Kq hH9 k
  (try simp only [Act.put, List.setIfInBounds_toArray, List.set_cons_zero, List.set_cons_succ])
  refine take_at 14 17 (v := ?vm14) (fuel := 1) rfl rfl (by kernel_rfl) (by kernel_rfl) (by kernel_rfl) (fun _ _ _ h => h) (by rfl) hH13 ?hym14 ?restm14
  case hym14 => (intro w' hSw; (try dsimp only at hSw); go_simp <;> with_reducible rfl)
  simp only [Act.put, List.setIfInBounds_toArray, List.set_cons_zero, List.set_cons_succ]
  refine take_at 15 2 (v := ?vm15) (fuel := 0) rfl rfl (by kernel_rfl) (by kernel_rfl) (by kernel_rfl) (fun _ _ _ h => h) (by rfl) hH13 ?hym15 ?restm15
  case hym15 => (intro w' hSw; (try dsimp only at hSw); go_simp <;> with_reducible rfl)
  simp only [Act.put, List.setIfInBounds_toArray, List.set_cons_zero, List.set_cons_succ]
  refine wpAnyH_done (by kernel_rfl) ?_ _
  have KF := Lib.hid hH13.2
  clear hH13
  go_wp2
  go_ret
  exact ⟨rfl, KF.out⟩

end Go.Proofs.Ytghihmmapignmaa
