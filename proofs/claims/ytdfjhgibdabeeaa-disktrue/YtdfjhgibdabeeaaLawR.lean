/- Contract of the law DiskRuns itself, which the other laws call. -/
import Derived.Test.YtdfjhgibdabeeaaWalksH
import Derived.WalkKit
import Derived.WalkSpells
import Derived.WalkLawsBesides
import Derived.Lib.Hide
import Derived.OwnWalk
namespace Go.Proofs.Ytdfjhgibdabeeaa
open Go.RowKit

/-- make([]byte, N). -/
theorem make_bytes {w : World} {ops : Array Oper} {rest : List Oper} {o : Oper} {a : Act} {Q : Exit → Act → World → Prop} (hgd : o.guard = none) (l c : Operand) (ho : o.op = .makeSlice 24 l c) (C : Int) (n : Nat) (hl : a.eval l = .int .i64 C) (hc : a.eval c = .int .i64 C) (hC : C = (n : Int)) (hN : n ≤ 1000000)
    (hn : ∀ g w', w.heap.size = g → Nums .u8 w' (some ⟨g, 0, none⟩) n n (List.replicate n 0) → Below w.heap.size w w' → wpList Try.prog ops Q rest (a.put o.dst (.slice (some ⟨g, 0, none⟩) n n)) w') :
    wpList Try.prog ops Q (o :: rest) a w := by
  obtain ⟨i0, hi, hz0, hz1, hz2⟩ := info_parts info5
  subst hC
  have hrun := run_make (P := Try.prog) w 24 5 i0 (.int .u8 0) Try.underlying24 hi hz0 .i64 .i64 (n : Int) (n : Int) (by omega) (by omega) (by rw [hz2]; omega) (by omega)
  simp only [Int.toNat_natCast, hz1, Nat.mul_one] at hrun
  refine wpList_plain hgd fun K hK => ?_
  unfold Oper.wp
  simp [execOp, ho, hl, hc, hrun, Result.andThen]
  refine hK _ _ (hn _ _ rfl ?_ ((Below.refl _ _).alloc (Nat.le_refl _) _))
  have hb := heap_alloc_new w (.cells (madeCells #[.int .u8 0] n) 5)
  refine ⟨by simp, Nat.le_refl _, by unfold maxLen; omega, (fun h => by cases h), fun _ => ⟨w.heap.size, 0, rfl, by simp, fun j hj => ?_⟩⟩
  rw [show (Value.cells (.int .u8 0)) = #[.int .u8 0] from rfl, cell_of_row _ _ _ _ 5 (0, 0) hb, madeCells, Array.getElem?_map, Array.getElem?_range, if_pos (by omega)]
  simp [Nat.mod_one, hj]

theorem pairs_new (w : World) (l : List (Int × Int)) (n : Nat) (hl : l.length = n) (hn : n ≤ maxLen) (C : Array Value) (hC : ∀ j, j < n → C[j * 2]? = some (.int .i64 (l.getD j (0, 0)).1) ∧ C[j * 2 + 1]? = some (.int .i64 (l.getD j (0, 0)).2)) :
    Pairs (w.alloc (.cells C 26)) (some ⟨w.heap.size, 0, none⟩) n l := by
  have hb := heap_alloc_new w (.cells C 26)
  refine ⟨hl, hn, fun _ => ⟨w.heap.size, 0, rfl, by simp, fun j hj => ?_⟩⟩
  obtain ⟨h1, h2⟩ := hC j hj
  rw [Nat.zero_add]
  exact ⟨by rw [cell_of_row _ _ _ _ 26 (0, 0) hb, h1], by rw [cell_of_row _ _ _ _ 26 (0, 0) hb, h2]⟩

def dR : Dev := ⟨List.replicate 16 0, [], [(1, 1)], []⟩
theorem dR_1 : get dR zero 0 0 16 = ⟨List.replicate 8 0, 0, zero, 1⟩ := by rfl
theorem dR_2 : get dR zero 1 8 8 = ⟨[], 1, upd zero 1 1, 2⟩ := by rfl
theorem dR_3 : get dR (upd zero 1 1) 2 8 8 = ⟨List.replicate 8 0, 0, upd zero 1 1, 3⟩ := by rfl
theorem sound_zero {D : Dev} (h : Okd D) : Sound D zero := fun k => ⟨Int.le_refl _, (times_le D.soft k h.sizes.all).1⟩

set_option maxRecDepth 100000 in
set_option maxHeartbeats 4000000 in
theorem law_runs (w : World) : Calls Try.prog 3 #[] w (TruthPost true w) := by
  have HO := Lib.hid (show Okd dR from ⟨by decide, by decide⟩)
  have HE := Lib.hid (show dR.eff = dR from rfl)
  go_enter Try.func3, Try.ntmps3
  go_wp2_with (at_make; refine make_bytes rfl _ _ rfl 16 16 rfl rfl rfl (by decide) ?_; intro g w1 hg q1 q2; have Q1 := Lib.hid q1; have Q2 := Lib.hid q2; clear q1 q2 hg)
  have k1 : Below w1.heap.size w1 (w1.alloc (.cells #[.int .i64 1, .int .i64 1] 26)) := (Below.refl _ _).alloc (Nat.le_refl _) _
  have K1 := Lib.hid (Q2.out.trans (k1.mono Q2.out.size))
  have D1 := Lib.hid (show DevIn (w1.alloc (.cells #[.int .i64 1, .int .i64 1] 26)) ⟨some ⟨g, 0, none⟩, 16, 16, none, 0, 0, some ⟨w1.heap.size, 0, none⟩, 1, 1, none, 0, 0⟩ dR from
    ⟨Q1.out.on k1, nums_nil _ _, pairs_new w1 [(1, 1)] 1 rfl (by unfold maxLen; omega) _ (fun j hj => by obtain rfl : j = 0 := by omega
                                                                                                         exact ⟨rfl, rfl⟩), nums_nil _ _⟩)
  clear k1 Q1 Q2
  refine (new_any ⟨some ⟨g, 0, none⟩, 16, 16, none, 0, 0, some ⟨w1.heap.size, 0, none⟩, 1, 1, none, 0, 0⟩ dR _ D1.out HO.out.2).mono ?_
  rintro e w2 ⟨b, y, S, rfl, q1, q2, q3⟩
  rw [HE.out] at q1
  have M2 := Lib.hid (show Mine w w2 (Dk b y dR zero 0) S from ⟨q1, fun d hd => Nat.le_trans K1.out.size (q2 d hd), K1.out.trans (q3.mono K1.out.size)⟩)
  clear q1 q2 q3 D1 K1
  go_wp2_with fail
  refine (get_any 0 16 w2 M2.out.obj HO.out (sound_zero HO.out) (by decide) (by decide) _ dR_1).mono ?_
  rintro e w3 ⟨A3, m3, c3, rfl, u3, _, p3, o3⟩
  obtain rfl : m3 = 8 := u3.len.symm
  have M3 := Lib.hid (M2.out.next p3 o3 (fun d hd => .inl hd))
  clear u3 p3 o3 M2
  go_wp2_with fail
  refine (get_any 8 8 w3 M3.out.obj HO.out (sound_zero HO.out) (by decide) (by decide) _ dR_2).mono ?_
  rintro e w4 ⟨A4, m4, c4, rfl, u4, _, p4, o4⟩
  obtain rfl : m4 = 0 := u4.len.symm
  have M4 := Lib.hid (M3.out.next p4 o4 (fun d hd => .inl hd))
  have S4 := Lib.hid (show Sound dR (upd zero 1 1) by have h := sound_get (sound_zero HO.out) 1 8 8; rw [dR_2] at h; exact h)
  clear u4 p4 o4 M3
  go_wp2_with fail
  refine (get_any 8 8 w4 M4.out.obj HO.out S4.out (by decide) (by decide) _ dR_3).mono ?_
  rintro e w5 ⟨A5, m5, c5, rfl, u5, _, p5, o5⟩
  obtain rfl : m5 = 8 := u5.len.symm
  have M5 := Lib.hid (M4.out.next p5 o5 (fun d hd => .inl hd))
  clear u5 p5 o5 M4
  have HL := Lib.hid (show dR.data.length = 16 from rfl)
  go_wp2_with fail
  refine (long_any w5 M5.out.obj).mono ?_
  rintro e w6 ⟨rfl, rfl⟩
  rw [HL.out]
  go_wp2_with fail
  refine (calls_any w5 M5.out.obj).mono ?_
  rintro e w7 ⟨rfl, rfl⟩
  go_wp2
  go_ret
  exact ⟨by first | rfl | decide | simp, M5.out.below⟩

end Go.Proofs.Ytdfjhgibdabeeaa
