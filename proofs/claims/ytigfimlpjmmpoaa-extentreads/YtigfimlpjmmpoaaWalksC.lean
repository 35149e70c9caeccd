/- Contracts of slices.Equal, extent.Same, the reference's SameContent. -/
import Derived.Test.YtigfimlpjmmpoaaWalksB
import Derived.WalkKit
import Derived.WalkSpells
import Derived.WalkLawsBesides
import Derived.Lib.Hide
import Derived.BigQuiet
namespace Go.Proofs.Ytigfimlpjmmpoaa
open Go.RowKit

theorem Exts.nine {w : World} {b o n c : Nat} {L : List Ex} (h : Exts w (some ⟨b, o, none⟩) n c L) (j : Nat) (hj : j < n) : ∃ no b0 b1 b2 b3 b4 b5 b6 b7, L.getD j default = ⟨no, [b0, b1, b2, b3, b4, b5, b6, b7]⟩ ∧ w.cell? ⟨b, o + j * 9, none⟩ = some (.int .i64 no) ∧ w.cell? ⟨b, o + j * 9 + 1, none⟩ = some (.int .u8 b0) ∧ w.cell? ⟨b, o + j * 9 + 2, none⟩ = some (.int .u8 b1) ∧ w.cell? ⟨b, o + j * 9 + 3, none⟩ = some (.int .u8 b2) ∧ w.cell? ⟨b, o + j * 9 + 4, none⟩ = some (.int .u8 b3) ∧ w.cell? ⟨b, o + j * 9 + 5, none⟩ = some (.int .u8 b4) ∧ w.cell? ⟨b, o + j * 9 + 6, none⟩ = some (.int .u8 b5) ∧ w.cell? ⟨b, o + j * 9 + 7, none⟩ = some (.int .u8 b6) ∧ w.cell? ⟨b, o + j * 9 + 8, none⟩ = some (.int .u8 b7) := by
  obtain ⟨b', o', he, _, hc⟩ := h.cells (by omega)
  injection he with he; injection he with e1 e2; subst e1 e2
  have hk := hc j hj
  have ho := h.get j hj
  generalize L.getD j default = e at hk ho
  obtain ⟨no, bs⟩ := e
  match bs, ho.1 with
  | [b0, b1, b2, b3, b4, b5, b6, b7], _ =>
    exact ⟨no, b0, b1, b2, b3, b4, b5, b6, b7, rfl, hk 0 _ rfl, hk 1 _ rfl, hk 2 _ rfl, hk 3 _ rfl, hk 4 _ rfl, hk 5 _ rfl, hk 6 _ rfl, hk 7 _ rfl, hk 8 _ rfl⟩
theorem run_eq9 (w : World) {no x0 x1 x2 x3 x4 x5 x6 x7 mo y0 y1 y2 y3 y4 y5 y6 y7 : Int} (ox : (Ex.mk no [x0, x1, x2, x3, x4, x5, x6, x7]).ok) (oy : (Ex.mk mo [y0, y1, y2, y3, y4, y5, y6, y7]).ok) {q : Bool} (hq : decide (Ex.mk no [x0, x1, x2, x3, x4, x5, x6, x7] = ⟨mo, [y0, y1, y2, y3, y4, y5, y6, y7]⟩) = q) :
    (binOp .neq 32 (.agg #[.int .i64 no, .int .u8 x0, .int .u8 x1, .int .u8 x2, .int .u8 x3, .int .u8 x4, .int .u8 x5, .int .u8 x6, .int .u8 x7]) (.agg #[.int .i64 mo, .int .u8 y0, .int .u8 y1, .int .u8 y2, .int .u8 y3, .int .u8 y4, .int .u8 y5, .int .u8 y6, .int .u8 y7])).run Try.prog w = .ok (.bool (!q)) w := by
  subst hq
  have h := run_eqx w ox oy
  unfold ev ecl at h
  simp only [List.map_cons, List.map_nil] at h
  exact h
theorem take_same {L M : List Ex} {j n : Nat} (hl : L.length = n) (hm : M.length = n) (hj : j < n) (h : L.take j = M.take j) : (L.getD j default = M.getD j default → L.take (j + 1) = M.take (j + 1)) ∧ (L.getD j default ≠ M.getD j default → decide (L = M) = false) := by
  rw [List.take_add_one, List.take_add_one, h, List.getD_eq_getElem?_getD, List.getD_eq_getElem?_getD, List.getElem?_eq_getElem (by omega), List.getElem?_eq_getElem (by omega)]
  refine ⟨fun h => ?_, fun h => ?_⟩
  · simp only [Option.getD_some] at h
    rw [h]
  · rw [decide_eq_false_iff_not]
    rintro rfl
    exact h rfl

set_option maxHeartbeats 4000000 in
theorem equal_any (A : Option Addr) (n c : Nat) (L : List Ex) (A' : Option Addr) (n' c' : Nat) (M : List Ex) (w : World) (h : Exts w A n c L) (h' : Exts w A' n' c' M) (z : Bool) (hz : decide (L = M) = z) :
    Calls Try.prog 39 #[.slice A n c, .slice A' n' c'] w (TruthPost z w) := by
  have hm := h.max; have hm' := h'.max
  have HZ := Lib.hid hz; have H := Lib.hid h; have H' := Lib.hid h'
  clear h h' hz
  go_enter Try.func39, Try.ntmps39
  by_cases hnn : n = n'
  · subst hnn
    go_wp2
    go_loopw [13] (fun i wr => ∃ j : Nat, j ≤ n ∧ i = .int .i64 j ∧ Hid (L.take j = M.take j) ∧ Hid (Below w.heap.size w wr)) (fun i _ => n - (intOf i).toNat)
    case atStart => exact ⟨0, Nat.zero_le _, rfl, by simp [Hid], Below.refl _ _⟩
    case round =>
      obtain ⟨j, hj, rfl, HT, K1⟩ := hrel
      by_cases hlt : j < n
      · obtain ⟨b, o, rfl, hb, _⟩ := H.out.cells (by omega)
        obtain ⟨b', o', rfl, hb', _⟩ := H'.out.cells (by omega)
        have HX := Lib.hid (take_same H.out.len H'.out.len hlt HT.out)
        obtain ⟨no, x0, x1, x2, x3, x4, x5, x6, x7, hx, c0, c1, c2, c3, c4, c5, c6, c7, c8⟩ := (H.out.on K1.out).nine j hlt
        obtain ⟨mo, y0, y1, y2, y3, y4, y5, y6, y7, hy, d0, d1, d2, d3, d4, d5, d6, d7, d8⟩ := (H'.out.on K1.out).nine j hlt
        rw [hx, hy] at HX
        have ox := H.out.get j hlt
        have oy := H'.out.get j hlt
        rw [hx] at ox
        rw [hy] at oy
        have hji : (j : Int) < (n : Int) := by omega
        obtain ⟨q, hq⟩ : ∃ q, decide (Ex.mk no [x0, x1, x2, x3, x4, x5, x6, x7] = ⟨mo, [y0, y1, y2, y3, y4, y5, y6, y7]⟩) = q := ⟨_, rfl⟩
        have HE : ∀ w', (binOp .neq 32 (.agg #[.int .i64 no, .int .u8 x0, .int .u8 x1, .int .u8 x2, .int .u8 x3, .int .u8 x4, .int .u8 x5, .int .u8 x6, .int .u8 x7]) (.agg #[.int .i64 mo, .int .u8 y0, .int .u8 y1, .int .u8 y2, .int .u8 y3, .int .u8 y4, .int .u8 y5, .int .u8 y6, .int .u8 y7])).run Try.prog w' = .ok (.bool (!q)) w' := fun w' => run_eq9 w' ox oy hq
        have HQ := Lib.hid hq
        clear hq ox oy hx hy
        cases q with
        | true =>
          go_wp2
          go_quiet (fail)
          go_wp2
          go_roundw
          case rel => exact ⟨j + 1, by omega, by go_num, HX.out.1 (of_decide_eq_true HQ.out), below_drewN K1.out _⟩
          case measure => simp [intOf]; omega
        | false =>
          go_wp2
          go_quiet (fail)
          go_wp2
          go_ret
          exact ⟨ret_bool (by rw [← HZ.out, HX.out.2 (of_decide_eq_false HQ.out)]), below_drewN K1.out _⟩
      · obtain rfl : j = n := by omega
        have HE := Lib.hid (show decide (L = M) = true by
          have h1 := HT.out
          rw [List.take_of_length_le (Nat.le_of_eq H.out.len), List.take_of_length_le (Nat.le_of_eq H'.out.len)] at h1
          exact decide_eq_true h1)
        go_wp2
        go_ret
        exact ⟨ret_bool (by rw [← HZ.out, HE.out]), K1.out⟩
  · have HE := Lib.hid (show decide (L = M) = false by
      rw [decide_eq_false_iff_not]
      rintro rfl
      exact hnn (H.out.len.symm.trans H'.out.len))
    have hnn' : ¬ (n : Int) = (n' : Int) := by omega
    go_wp2
    go_ret
    exact ⟨ret_bool (by rw [← HZ.out, HE.out]), Below.refl _ _⟩

set_option maxHeartbeats 2000000 in
theorem same_any (s : Int) (A : Option Addr) (n c : Nat) (L : List Ex) (s' : Int) (A' : Option Addr) (n' c' : Nat) (M : List Ex) (w : World) (h : Exts w A n c L) (h' : Exts w A' n' c' M) (z : Bool) (hz : (decide (s = s') && decide (L = M)) = z) :
    Calls Try.prog 21 #[ct s A n c, ct s' A' n' c'] w (TruthPost z w) := by
  have HZ := Lib.hid hz
  have K0 := Lib.hid (show Below w.heap.size w ((w.alloc (.cells #[.int .i64 s, .slice A n c] 24)).alloc (.cells #[.int .i64 s', .slice A' n' c'] 24)) from ((Below.refl _ _).alloc (Nat.le_refl _) _).alloc (by simp) _)
  have H := Lib.hid (h.on K0.out); have H' := Lib.hid (h'.on K0.out)
  clear h h' hz
  show Calls Try.prog 21 #[.agg #[.int .i64 s, .slice A n c], .agg #[.int .i64 s', .slice A' n' c']] w _
  go_enter Try.func21, Try.ntmps21
  by_cases hs : s = s'
  · subst hs
    obtain ⟨q, hq⟩ : ∃ q, decide (L = M) = q := ⟨_, rfl⟩
    have HQ := Lib.hid hq
    clear hq
    go_wp2_with (go_at_call 39; refine (equal_any A n c L A' n' c' M _ H.out H'.out q HQ.out).mono ?_; rintro e w2 ⟨rfl, k2⟩; have K2 := Lib.hid (K0.out.trans (k2.mono K0.out.size)); clear k2)
    go_ret
    exact ⟨ret_bool (by rw [← HZ.out, HQ.out]; simp), K2.out⟩
  · go_wp2
    go_ret
    exact ⟨ret_bool (by rw [← HZ.out]; simp [hs]), K0.out⟩

set_option maxHeartbeats 4000000 in
theorem rsame_any (s : Int) (A : Option Addr) (n c : Nat) (L : List Ex) (s' : Int) (A' : Option Addr) (n' c' : Nat) (M : List Ex) (w : World) (h : Exts w A n c L) (h' : Exts w A' n' c' M) (z : Bool) (hz : (decide (s = s') && decide (L = M)) = z) :
    Calls Try.prog 22 #[ct s A n c, ct s' A' n' c'] w (TruthPost z w) := by
  have hm := h.max; have hm' := h'.max
  have HZ := Lib.hid hz
  have B0 := Lib.hid ((box_new w s A n c).on ((Below.refl _ _).alloc (Nat.le_refl _) (.cells #[.int .i64 s', .slice A' n' c'] 24)))
  have B0' := Lib.hid (box_new (w.alloc (.cells #[.int .i64 s, .slice A n c] 24)) s' A' n' c')
  have K0 := Lib.hid (show Below w.heap.size w ((w.alloc (.cells #[.int .i64 s, .slice A n c] 24)).alloc (.cells #[.int .i64 s', .slice A' n' c'] 24)) from ((Below.refl _ _).alloc (Nat.le_refl _) _).alloc (by simp) _)
  have H := Lib.hid h; have H' := Lib.hid h'
  clear h h' hz
  show Calls Try.prog 22 #[.agg #[.int .i64 s, .slice A n c], .agg #[.int .i64 s', .slice A' n' c']] w _
  have hsz : (w.alloc (.cells #[.int .i64 s, .slice A n c] 24)).heap.size = w.heap.size + 1 := by simp
  rw [hsz] at B0'
  clear hsz
  go_enter Try.func22, Try.ntmps22
  by_cases hs : s = s'
  · subst hs
    by_cases hnn : n = n'
    · subst hnn
      go_wp2
      go_loopw [5] (fun i wr => ∃ j : Nat, j ≤ n ∧ i = .int .i64 j ∧ Hid (L.take j = M.take j) ∧ Hid (Below w.heap.size w wr) ∧ Hid (Box wr w.heap.size s A n c) ∧ Hid (Box wr (w.heap.size + 1) s A' n c')) (fun i _ => n - (intOf i).toNat)
      case atStart => exact ⟨0, Nat.zero_le _, rfl, by simp [Hid], K0.out, B0.out, B0'.out⟩
      case round =>
        clear K0 B0 B0'
        obtain ⟨j, hj, rfl, HT, K1, B1, B1'⟩ := hrel
        have e1 := B1.out.c1; have e2 := B1'.out.c1
        by_cases hlt : j < n
        · obtain ⟨b, o, rfl, hb, _⟩ := H.out.cells (by omega)
          obtain ⟨b', o', rfl, hb', _⟩ := H'.out.cells (by omega)
          have HX := Lib.hid (take_same H.out.len H'.out.len hlt HT.out)
          obtain ⟨no, x0, x1, x2, x3, x4, x5, x6, x7, hx, c0, c1, c2, c3, c4, c5, c6, c7, c8⟩ := (H.out.on K1.out).nine j hlt
          obtain ⟨mo, y0, y1, y2, y3, y4, y5, y6, y7, hy, d0, d1, d2, d3, d4, d5, d6, d7, d8⟩ := (H'.out.on K1.out).nine j hlt
          rw [hx, hy] at HX
          have ox := H.out.get j hlt
          have oy := H'.out.get j hlt
          rw [hx] at ox
          rw [hy] at oy
          have hji : (j : Int) < (n : Int) := by omega
          obtain ⟨q, hq⟩ : ∃ q, decide (Ex.mk no [x0, x1, x2, x3, x4, x5, x6, x7] = ⟨mo, [y0, y1, y2, y3, y4, y5, y6, y7]⟩) = q := ⟨_, rfl⟩
          have HE : ∀ w', (binOp .neq 32 (.agg #[.int .i64 no, .int .u8 x0, .int .u8 x1, .int .u8 x2, .int .u8 x3, .int .u8 x4, .int .u8 x5, .int .u8 x6, .int .u8 x7]) (.agg #[.int .i64 mo, .int .u8 y0, .int .u8 y1, .int .u8 y2, .int .u8 y3, .int .u8 y4, .int .u8 y5, .int .u8 y6, .int .u8 y7])).run Try.prog w' = .ok (.bool (!q)) w' := fun w' => run_eq9 w' ox oy hq
          have HQ := Lib.hid hq
          clear hq ox oy hx hy
          cases q with
          | true =>
            go_wp2
            go_quiet (fail)
            go_wp2
            go_roundw
            case rel => exact ⟨j + 1, by omega, by go_num, HX.out.1 (of_decide_eq_true HQ.out), below_drewN K1.out _, B1.out.on (below_drewN (Below.refl _ _) _), B1'.out.on (below_drewN (Below.refl _ _) _)⟩
            case measure => simp [intOf]; omega
          | false =>
            go_wp2
            go_quiet (fail)
            go_wp2
            go_ret
            exact ⟨ret_bool (by rw [← HZ.out, HX.out.2 (of_decide_eq_false HQ.out)]; simp), below_drewN K1.out _⟩
        · obtain rfl : j = n := by omega
          have HE := Lib.hid (show decide (L = M) = true by
            have h1 := HT.out
            rw [List.take_of_length_le (Nat.le_of_eq H.out.len), List.take_of_length_le (Nat.le_of_eq H'.out.len)] at h1
            exact decide_eq_true h1)
          go_wp2
          go_ret
          exact ⟨ret_bool (by rw [← HZ.out, HE.out]; simp), K1.out⟩
    · have HE := Lib.hid (show decide (L = M) = false by
        rw [decide_eq_false_iff_not]
        rintro rfl
        exact hnn (H.out.len.symm.trans H'.out.len))
      have hnn' : ¬ (n : Int) = (n' : Int) := by omega
      go_wp2
      go_ret
      exact ⟨ret_bool (by rw [← HZ.out, HE.out]; simp), K0.out⟩
  · go_wp2
    go_ret
    exact ⟨ret_bool (by rw [← HZ.out]; simp [hs]), K0.out⟩
end Go.Proofs.Ytigfimlpjmmpoaa
