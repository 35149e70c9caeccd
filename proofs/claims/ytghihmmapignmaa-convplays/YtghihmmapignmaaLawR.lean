/- Contract of the law ConvRuns itself, which the other laws call. -/
import Derived.Test.YtghihmmapignmaaConvI
import Derived.Test.YtghihmmapignmaaUtil
import Derived.WalkKit
import Derived.WalkSpells
import Derived.WalkLawsBesides
import Derived.Lib.Hide
namespace Go.Proofs.Ytghihmmapignmaa
open Go.RowKit

def x1 : Cf := ⟨false, true, false, false, true, false, false, false, 3⟩
def x2 : Cf := ⟨false, true, false, false, false, false, false, false, 0⟩
theorem may_x1 (w : World) : Calls Try.prog 11 #[.agg #[.bool false, .bool true, .bool false, .bool false, .bool true, .bool false, .bool false, .bool false, .int .i64 3]] w (TruthPost true w) := may_any x1 w
theorem may_x2 (w : World) : Calls Try.prog 11 #[.agg #[.bool false, .bool true, .bool false, .bool false, .bool false, .bool false, .bool false, .bool false, .int .i64 0]] w (TruthPost false w) := may_any x2 w
theorem pad_x1 (w : World) : Calls Try.prog 12 #[.agg #[.bool false, .bool true, .bool false, .bool false, .bool true, .bool false, .bool false, .bool false, .int .i64 3]] w (BytePost 32 w) := pad_any x1 w
theorem pad_zero (w : World) : Calls Try.prog 12 #[.agg #[.bool false, .bool false, .bool false, .bool false, .bool false, .bool false, .bool false, .bool false, .int .i64 0]] w (BytePost 0 w) := pad_any Cf.zero w

set_option maxRecDepth 100000 in
set_option maxHeartbeats 4000000 in
theorem law_runs (w : World) : Calls Try.prog 3 #[] w fun e w' => e = .returned (.bool true) ∧ Below w.heap.size w w' := by
  have EA := Lib.hid (show x1.all [97, 98, 10] = [65, 66, 32] by decide +kernel)
  go_enter Try.func3, Try.ntmps3
  go_wp2_with fail
  have B1 := Lib.hid (box_new w x1)
  have K1 := Lib.hid ((Below.refl _ w).alloc (Nat.le_refl _) (.cells x1.cells 23))
  have hs : w.heap.size + 1 = (w.alloc (.cells x1.cells 23)).heap.size := by simp
  rw [hs]
  clear hs
  generalize hW1 : w.alloc (.cells x1.cells 23) = W1 at *
  rw [show w.alloc (.cells #[.bool false, .bool true, .bool false, .bool false, .bool true, .bool false, .bool false, .bool false, .int .i64 3] 23) = W1 from hW1]
  clear hW1
  obtain ⟨W3, kc3, by3, k3⟩ := const_bytes W1 #[.int .u8 97, .int .u8 98, .int .u8 10] [97, 98, 10] 3 rfl rfl (by decide)
  rw [kc3]
  simp only [Result.andThen]
  rw [Oper.upon_value]
  have B3 := Lib.hid (B1.out.on k3); have K3 := Lib.hid (K1.out.trans (k3.mono K1.out.size))
  have E3 := Lib.hid (show ElOk W3 ⟨some ⟨W1.heap.size, 0, none⟩, 3, 3, [97, 98, 10]⟩ from ⟨by3, (fun h => by cases h), are_of (l := [97, 98, 10]) (by decide)⟩)
  clear kc3 by3 k3 B1 K1
  have L4 := Lib.hid (lists_one W3 ⟨some ⟨W1.heap.size, 0, none⟩, 3, 3, [97, 98, 10]⟩ 24 _ rfl E3.out)
  have K4 := Lib.hid ((Below.refl _ W3).alloc (Nat.le_refl _) (.cells #[.slice (some ⟨W1.heap.size, 0, none⟩) 3 3] 24))
  go_wp2_with fail
  refine (allc_any x1 x1 _ 1 1 [⟨some ⟨W1.heap.size, 0, none⟩, 3, 3, [97, 98, 10]⟩] [97, 98, 10] [65, 66, 32] _ (eff_of (by decide)) (by decide) L4.out (by omega) (by simp [cat]) (by decide) EA.out).mono ?_
  rintro e w5 ⟨A5, m5, c5, rfl, q1, q2, q3⟩
  obtain rfl : m5 = 3 := q1.1.symm
  have B5 := Lib.hid ((B3.out.on K4.out).on q3); have K5 := Lib.hid (K3.out.trans ((K4.out.trans (q3.mono K4.out.size)).mono K3.out.size))
  have t1 : (convert 24 9 (.slice A5 3 c5)).run Try.prog w5 = .ok (.string ⟨#[65, 66, 32]⟩) w5 := text_of q1.bytes.1 q1.bytes.2
  clear q1 q2 q3 L4 K4 E3 B3 K3
  obtain ⟨_, c0, c1, c2, c3, c4, c5', c6, c7, c8⟩ := B5.out
  simp only [Nat.zero_add, x1] at c0 c1 c2 c3 c4 c5' c6 c7 c8
  go_wp2_with fail
  refine (may_x1 _).mono ?_
  rintro e w6 ⟨rfl, k6⟩
  have B6 := Lib.hid (B5.out.on k6); have K6 := Lib.hid (K5.out.trans (k6.mono K5.out.size))
  clear k6 c0 c1 c2 c3 c4 c5' c6 c7 c8 t1 B5 K5
  obtain ⟨_, c0, c1, c2, c3, c4, c5', c6, c7, c8⟩ := B6.out
  simp only [Nat.zero_add, x1] at c0 c1 c2 c3 c4 c5' c6 c7 c8
  go_wp2_with fail
  refine (pad_x1 _).mono ?_
  rintro e w7 ⟨rfl, k7⟩
  have K7 := Lib.hid (K6.out.trans (k7.mono K6.out.size))
  clear k7 c0 c1 c2 c3 c4 c5' c6 c7 c8 B6 K6
  go_wp2_with fail
  refine (may_x2 _).mono ?_
  rintro e w8 ⟨rfl, k8⟩
  have K8 := Lib.hid (K7.out.trans (k8.mono K7.out.size))
  clear k8 K7
  go_wp2_with fail
  refine (pad_zero _).mono ?_
  rintro e w9 ⟨rfl, k9⟩
  have K9 := Lib.hid (K8.out.trans (k9.mono K8.out.size))
  clear k9 K8
  go_wp2
  go_ret
  exact ⟨by first | rfl | decide | simp, K9.out⟩

end Go.Proofs.Ytghihmmapignmaa
