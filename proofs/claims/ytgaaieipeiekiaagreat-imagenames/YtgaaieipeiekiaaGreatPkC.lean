/- Contracts of slices.Equal, extent.Same, the reference's SameContent. / Data and holes, without any Go. / What is read, filled, written, taken, without any Go. / Contracts of slices.Clone, extent's endOf, without, the reference's copyOf. / Contracts of extent's without, Truncate, Punch. -/
import Derived.Test.YtgaaieipeiekiaaGreatPkB
import Derived.WalkKit
import Derived.WalkSpells
import Derived.WalkLawsBesides
import Derived.Lib.Hide
import Derived.BigQuiet
import Derived.Test.YtgaaieipeiekiaaGreatPkA
import Derived.Deep.RegionLaw
import Derived.Deep.RegionWith
namespace Go.Proofs.YtgaaieipeiekiaaGreat
open Go.RowKit
set_option maxRecDepth 100000

theorem Exts.nine {w : World} {b o n c : Nat} {L : List Ex} (h : Exts w (some ⟨b, o, none⟩) n c L) (j : Nat) (hj : j < n) : ∃ no b0 b1 b2 b3 b4 b5 b6 b7, L.getD j default = ⟨no, [b0, b1, b2, b3, b4, b5, b6, b7]⟩ ∧ w.cell? ⟨b, o + j * 9, none⟩ = some (.int .i64 no) ∧ w.cell? ⟨b, o + j * 9 + 1, none⟩ = some (.int .u8 b0) ∧ w.cell? ⟨b, o + j * 9 + 2, none⟩ = some (.int .u8 b1) ∧ w.cell? ⟨b, o + j * 9 + 3, none⟩ = some (.int .u8 b2) ∧ w.cell? ⟨b, o + j * 9 + 4, none⟩ = some (.int .u8 b3) ∧ w.cell? ⟨b, o + j * 9 + 5, none⟩ = some (.int .u8 b4) ∧ w.cell? ⟨b, o + j * 9 + 6, none⟩ = some (.int .u8 b5) ∧ w.cell? ⟨b, o + j * 9 + 7, none⟩ = some (.int .u8 b6) ∧ w.cell? ⟨b, o + j * 9 + 8, none⟩ = some (.int .u8 b7) := by
  obtain ⟨b', o', he, _, hc⟩ := h.cells (by omega)
  injection he with he; injection he with e1 e2; subst e1 e2
  have hk := hc j hj
  have ho := h.get j hj
  generalize L.getD j default = e at hk ho
  obtain ⟨no, bs⟩ := e
  match bs, ho.1 with
  | [b0, b1, b2, b3, b4, b5, b6, b7], _ =>
    exact ⟨no, b0, b1, b2, b3, b4, b5, b6, b7, rfl, hk 0 _ rfl, hk 1 _ rfl, hk 2 _ rfl, hk 3 _ rfl, hk 4 _ rfl, hk 5 _ rfl, hk 6 _ rfl, hk 7 _ rfl, hk 8 _ rfl⟩
theorem run_eq9 (w : World) {no x0 x1 x2 x3 x4 x5 x6 x7 mo y0 y1 y2 y3 y4 y5 y6 y7 : Int} (ox : (Ex.mk no [x0, x1, x2, x3, x4, x5, x6, x7]).ok) (oy : (Ex.mk mo [y0, y1, y2, y3, y4, y5, y6, y7]).ok) {q : Bool} (hq : decide (Ex.mk no [x0, x1, x2, x3, x4, x5, x6, x7] = ⟨mo, [y0, y1, y2, y3, y4, y5, y6, y7]⟩) = q) :
    (binOp .neq 75 (.agg #[.int .i64 no, .int .u8 x0, .int .u8 x1, .int .u8 x2, .int .u8 x3, .int .u8 x4, .int .u8 x5, .int .u8 x6, .int .u8 x7]) (.agg #[.int .i64 mo, .int .u8 y0, .int .u8 y1, .int .u8 y2, .int .u8 y3, .int .u8 y4, .int .u8 y5, .int .u8 y6, .int .u8 y7])).run Tryz.prog w = .ok (.bool (!q)) w := by
  subst hq
  have h := run_eqx w ox oy
  unfold ev ecl at h
  simp only [List.map_cons, List.map_nil] at h
  exact h
theorem take_same {L M : List Ex} {j n : Nat} (hl : L.length = n) (hm : M.length = n) (hj : j < n) (h : L.take j = M.take j) : (L.getD j default = M.getD j default → L.take (j + 1) = M.take (j + 1)) ∧ (L.getD j default ≠ M.getD j default → decide (L = M) = false) := by
  rw [List.take_add_one, List.take_add_one, h, List.getD_eq_getElem?_getD, List.getD_eq_getElem?_getD, List.getElem?_eq_getElem (by omega), List.getElem?_eq_getElem (by omega)]
  refine ⟨fun h => ?_, fun h => ?_⟩
  · simp only [Option.getD_some] at h
    rw [h]
  · rw [decide_eq_false_iff_not]
    rintro rfl
    exact h rfl

set_option maxHeartbeats 4000000 in
theorem equal_any (A : Option Addr) (n c : Nat) (L : List Ex) (A' : Option Addr) (n' c' : Nat) (M : List Ex) (w : World) (h : Exts w A n c L) (h' : Exts w A' n' c' M) (z : Bool) (hz : decide (L = M) = z) :
    Calls Tryz.prog 55 #[.slice A n c, .slice A' n' c'] w (TruthPost z w) := by
  have hm := h.max; have hm' := h'.max
  have HZ := Lib.hid hz; have H := Lib.hid h; have H' := Lib.hid h'
  clear h h' hz
  go_enter Tryz.func55, Tryz.ntmps55
  by_cases hnn : n = n'
  · subst hnn
    go_wp2
    go_loopw [13] (fun i wr => ∃ j : Nat, j ≤ n ∧ i = .int .i64 j ∧ Hid (L.take j = M.take j) ∧ Hid (Below w.heap.size w wr)) (fun i _ => n - (intOf i).toNat)
    case atStart => exact ⟨0, Nat.zero_le _, rfl, by simp [Hid], Below.refl _ _⟩
    case round =>
      obtain ⟨j, hj, rfl, HT, K1⟩ := hrel
      by_cases hlt : j < n
      · obtain ⟨b, o, rfl, hb, _⟩ := H.out.cells (by omega)
        obtain ⟨b', o', rfl, hb', _⟩ := H'.out.cells (by omega)
        have HX := Lib.hid (take_same H.out.len H'.out.len hlt HT.out)
        obtain ⟨no, x0, x1, x2, x3, x4, x5, x6, x7, hx, c0, c1, c2, c3, c4, c5, c6, c7, c8⟩ := (H.out.on K1.out).nine j hlt
        obtain ⟨mo, y0, y1, y2, y3, y4, y5, y6, y7, hy, d0, d1, d2, d3, d4, d5, d6, d7, d8⟩ := (H'.out.on K1.out).nine j hlt
        rw [hx, hy] at HX
        have ox := H.out.get j hlt
        have oy := H'.out.get j hlt
        rw [hx] at ox
        rw [hy] at oy
        have hji : (j : Int) < (n : Int) := by omega
        obtain ⟨q, hq⟩ : ∃ q, decide (Ex.mk no [x0, x1, x2, x3, x4, x5, x6, x7] = ⟨mo, [y0, y1, y2, y3, y4, y5, y6, y7]⟩) = q := ⟨_, rfl⟩
        have HE : ∀ w', (binOp .neq 75 (.agg #[.int .i64 no, .int .u8 x0, .int .u8 x1, .int .u8 x2, .int .u8 x3, .int .u8 x4, .int .u8 x5, .int .u8 x6, .int .u8 x7]) (.agg #[.int .i64 mo, .int .u8 y0, .int .u8 y1, .int .u8 y2, .int .u8 y3, .int .u8 y4, .int .u8 y5, .int .u8 y6, .int .u8 y7])).run Tryz.prog w' = .ok (.bool (!q)) w' := fun w' => run_eq9 w' ox oy hq
        have HQ := Lib.hid hq
        clear hq ox oy hx hy
        cases q with
        | true =>
          go_wp2
          go_quiet (fail)
          go_wp2
          go_roundw
          case rel => exact ⟨j + 1, by omega, by go_num, HX.out.1 (of_decide_eq_true HQ.out), below_drewN K1.out _⟩
          case measure => simp [intOf]; omega
        | false =>
          go_wp2
          go_quiet (fail)
          go_wp2
          go_ret
          exact ⟨ret_bool (by rw [← HZ.out, HX.out.2 (of_decide_eq_false HQ.out)]), below_drewN K1.out _⟩
      · obtain rfl : j = n := by omega
        have HE := Lib.hid (show decide (L = M) = true by
          have h1 := HT.out
          rw [List.take_of_length_le (Nat.le_of_eq H.out.len), List.take_of_length_le (Nat.le_of_eq H'.out.len)] at h1
          exact decide_eq_true h1)
        go_wp2
        go_ret
        exact ⟨ret_bool (by rw [← HZ.out, HE.out]), K1.out⟩
  · have HE := Lib.hid (show decide (L = M) = false by
      rw [decide_eq_false_iff_not]
      rintro rfl
      exact hnn (H.out.len.symm.trans H'.out.len))
    have hnn' : ¬ (n : Int) = (n' : Int) := by omega
    go_wp2
    go_ret
    exact ⟨ret_bool (by rw [← HZ.out, HE.out]), Below.refl _ _⟩

set_option maxHeartbeats 2000000 in
theorem same_any (s : Int) (A : Option Addr) (n c : Nat) (L : List Ex) (s' : Int) (A' : Option Addr) (n' c' : Nat) (M : List Ex) (w : World) (h : Exts w A n c L) (h' : Exts w A' n' c' M) (z : Bool) (hz : (decide (s = s') && decide (L = M)) = z) :
    Calls Tryz.prog 29 #[ct s A n c, ct s' A' n' c'] w (TruthPost z w) := by
  have HZ := Lib.hid hz
  have K0 := Lib.hid (show Below w.heap.size w ((w.alloc (.cells #[.int .i64 s, .slice A n c] 32)).alloc (.cells #[.int .i64 s', .slice A' n' c'] 32)) from ((Below.refl _ _).alloc (Nat.le_refl _) _).alloc (by simp) _)
  have H := Lib.hid (h.on K0.out); have H' := Lib.hid (h'.on K0.out)
  clear h h' hz
  show Calls Tryz.prog 29 #[.agg #[.int .i64 s, .slice A n c], .agg #[.int .i64 s', .slice A' n' c']] w _
  go_enter Tryz.func29, Tryz.ntmps29
  by_cases hs : s = s'
  · subst hs
    obtain ⟨q, hq⟩ : ∃ q, decide (L = M) = q := ⟨_, rfl⟩
    have HQ := Lib.hid hq
    clear hq
    go_wp2_with (go_at_call 55; refine (equal_any A n c L A' n' c' M _ H.out H'.out q HQ.out).mono ?_; rintro e w2 ⟨rfl, k2⟩; have K2 := Lib.hid (K0.out.trans (k2.mono K0.out.size)); clear k2)
    go_ret
    exact ⟨ret_bool (by rw [← HZ.out, HQ.out]; simp), K2.out⟩
  · go_wp2
    go_ret
    exact ⟨ret_bool (by rw [← HZ.out]; simp [hs]), K0.out⟩

set_option maxHeartbeats 4000000 in
theorem rsame_any (s : Int) (A : Option Addr) (n c : Nat) (L : List Ex) (s' : Int) (A' : Option Addr) (n' c' : Nat) (M : List Ex) (w : World) (h : Exts w A n c L) (h' : Exts w A' n' c' M) (z : Bool) (hz : (decide (s = s') && decide (L = M)) = z) :
    Calls Tryz.prog 17 #[ct s A n c, ct s' A' n' c'] w (TruthPost z w) := by
  have hm := h.max; have hm' := h'.max
  have HZ := Lib.hid hz
  have B0 := Lib.hid ((box_new w s A n c).on ((Below.refl _ _).alloc (Nat.le_refl _) (.cells #[.int .i64 s', .slice A' n' c'] 32)))
  have B0' := Lib.hid (box_new (w.alloc (.cells #[.int .i64 s, .slice A n c] 32)) s' A' n' c')
  have K0 := Lib.hid (show Below w.heap.size w ((w.alloc (.cells #[.int .i64 s, .slice A n c] 32)).alloc (.cells #[.int .i64 s', .slice A' n' c'] 32)) from ((Below.refl _ _).alloc (Nat.le_refl _) _).alloc (by simp) _)
  have H := Lib.hid h; have H' := Lib.hid h'
  clear h h' hz
  show Calls Tryz.prog 17 #[.agg #[.int .i64 s, .slice A n c], .agg #[.int .i64 s', .slice A' n' c']] w _
  have hsz : (w.alloc (.cells #[.int .i64 s, .slice A n c] 32)).heap.size = w.heap.size + 1 := by simp
  rw [hsz] at B0'
  clear hsz
  go_enter Tryz.func17, Tryz.ntmps17
  by_cases hs : s = s'
  · subst hs
    by_cases hnn : n = n'
    · subst hnn
      go_wp2
      go_loopw [5] (fun i wr => ∃ j : Nat, j ≤ n ∧ i = .int .i64 j ∧ Hid (L.take j = M.take j) ∧ Hid (Below w.heap.size w wr) ∧ Hid (Box wr w.heap.size s A n c) ∧ Hid (Box wr (w.heap.size + 1) s A' n c')) (fun i _ => n - (intOf i).toNat)
      case atStart => exact ⟨0, Nat.zero_le _, rfl, by simp [Hid], K0.out, B0.out, B0'.out⟩
      case round =>
        clear K0 B0 B0'
        obtain ⟨j, hj, rfl, HT, K1, B1, B1'⟩ := hrel
        have e1 := B1.out.c1; have e2 := B1'.out.c1
        by_cases hlt : j < n
        · obtain ⟨b, o, rfl, hb, _⟩ := H.out.cells (by omega)
          obtain ⟨b', o', rfl, hb', _⟩ := H'.out.cells (by omega)
          have HX := Lib.hid (take_same H.out.len H'.out.len hlt HT.out)
          obtain ⟨no, x0, x1, x2, x3, x4, x5, x6, x7, hx, c0, c1, c2, c3, c4, c5, c6, c7, c8⟩ := (H.out.on K1.out).nine j hlt
          obtain ⟨mo, y0, y1, y2, y3, y4, y5, y6, y7, hy, d0, d1, d2, d3, d4, d5, d6, d7, d8⟩ := (H'.out.on K1.out).nine j hlt
          rw [hx, hy] at HX
          have ox := H.out.get j hlt
          have oy := H'.out.get j hlt
          rw [hx] at ox
          rw [hy] at oy
          have hji : (j : Int) < (n : Int) := by omega
          obtain ⟨q, hq⟩ : ∃ q, decide (Ex.mk no [x0, x1, x2, x3, x4, x5, x6, x7] = ⟨mo, [y0, y1, y2, y3, y4, y5, y6, y7]⟩) = q := ⟨_, rfl⟩
          have HE : ∀ w', (binOp .neq 75 (.agg #[.int .i64 no, .int .u8 x0, .int .u8 x1, .int .u8 x2, .int .u8 x3, .int .u8 x4, .int .u8 x5, .int .u8 x6, .int .u8 x7]) (.agg #[.int .i64 mo, .int .u8 y0, .int .u8 y1, .int .u8 y2, .int .u8 y3, .int .u8 y4, .int .u8 y5, .int .u8 y6, .int .u8 y7])).run Tryz.prog w' = .ok (.bool (!q)) w' := fun w' => run_eq9 w' ox oy hq
          have HQ := Lib.hid hq
          clear hq ox oy hx hy
          cases q with
          | true =>
            go_wp2
            go_quiet (fail)
            go_wp2
            go_roundw
            case rel => exact ⟨j + 1, by omega, by go_num, HX.out.1 (of_decide_eq_true HQ.out), below_drewN K1.out _, B1.out.on (below_drewN (Below.refl _ _) _), B1'.out.on (below_drewN (Below.refl _ _) _)⟩
            case measure => simp [intOf]; omega
          | false =>
            go_wp2
            go_quiet (fail)
            go_wp2
            go_ret
            exact ⟨ret_bool (by rw [← HZ.out, HX.out.2 (of_decide_eq_false HQ.out)]; simp), below_drewN K1.out _⟩
        · obtain rfl : j = n := by omega
          have HE := Lib.hid (show decide (L = M) = true by
            have h1 := HT.out
            rw [List.take_of_length_le (Nat.le_of_eq H.out.len), List.take_of_length_le (Nat.le_of_eq H'.out.len)] at h1
            exact decide_eq_true h1)
          go_wp2
          go_ret
          exact ⟨ret_bool (by rw [← HZ.out, HE.out]; simp), K1.out⟩
    · have HE := Lib.hid (show decide (L = M) = false by
        rw [decide_eq_false_iff_not]
        rintro rfl
        exact hnn (H.out.len.symm.trans H'.out.len))
      have hnn' : ¬ (n : Int) = (n' : Int) := by omega
      go_wp2
      go_ret
      exact ⟨ret_bool (by rw [← HZ.out, HE.out]; simp), K0.out⟩
  · go_wp2
    go_ret
    exact ⟨ret_bool (by rw [← HZ.out]; simp [hs]), K0.out⟩
end Go.Proofs.YtgaaieipeiekiaaGreat

namespace Go.Proofs.YtgaaieipeiekiaaGreat

def dat (s : Int) (L : List Ex) (p : Int) : Option Int :=
  if may s L = true ∧ 0 ≤ p ∧ idx L (p / 8) < L.length ∧ max p ((L.getD (idx L (p / 8)) default).no * 8) < s then some (max p ((L.getD (idx L (p / 8)) default).no * 8)) else none
/-- The first block number from k on that is not there. -/
def gap : List Ex → Int → Int
  | [], k => k
  | e :: r, k => if e.no < k then gap r k else if e.no = k then gap r (k + 1) else k
def hol (s : Int) (L : List Ex) (p : Int) : Option Int := if may s L = true ∧ 0 ≤ p ∧ p < s then some (min (max p (gap L (p / 8) * 8)) s) else none

theorem gap_ge : ∀ (L : List Ex) (k : Int), k ≤ gap L k
  | [], k => Int.le_refl _
  | e :: r, k => by
    rw [gap]
    have h1 := gap_ge r k
    have h2 := gap_ge r (k + 1)
    split
    · exact h1
    · split <;> omega
theorem gap_idx (L : List Ex) (k : Int) : gap L k = gap (L.drop (idx L k)) k := by
  induction L with
  | nil => rfl
  | cons e r ih =>
    rw [idx]
    by_cases h : e.no < k
    · rw [if_pos h, List.drop_succ_cons, gap, if_pos h, ih]
    · rw [if_neg h, List.drop_zero]
theorem gap_end (L : List Ex) (i : Nat) (k : Int) (h : L.length ≤ i) : gap (L.drop i) k = k := by rw [List.drop_of_length_le h]; rfl
theorem gap_step (L : List Ex) (i : Nat) (hi : i < L.length) (k : Int) (hk : (L.getD i default).no = k) : gap (L.drop i) k = gap (L.drop (i + 1)) (k + 1) := by
  rw [List.getD_eq_getElem?_getD, List.getElem?_eq_getElem hi, Option.getD_some] at hk
  rw [List.drop_eq_getElem_cons hi, gap, hk, if_neg (by omega), if_pos rfl]
theorem gap_stop (L : List Ex) (i : Nat) (hi : i < L.length) (k : Int) (hk : k < (L.getD i default).no) : gap (L.drop i) k = k := by
  rw [List.getD_eq_getElem?_getD, List.getElem?_eq_getElem hi, Option.getD_some] at hk
  rw [List.drop_eq_getElem_cons hi, gap, if_neg (by omega), if_neg (by omega)]
theorem gap_none {L : List Ex} (hu : Up L) {k : Int} (h : look L k = none) : gap L k = k := by
  induction L with
  | nil => rfl
  | cons e r ih =>
    rw [look] at h
    split at h
    · cases h
    · rename_i hne
      rw [gap]
      by_cases hlt : e.no < k
      · rw [if_pos hlt]; exact ih (up_tail hu) h
      · rw [if_neg hlt, if_neg hne]
theorem gap_some {L : List Ex} (hu : Up L) {k : Int} {bs : List Int} (h : look L k = some bs) : gap L k = gap L (k + 1) := by
  induction L with
  | nil => cases h
  | cons e r ih =>
    rw [look] at h
    split at h
    · rename_i he
      rw [gap, gap, if_neg (by omega), if_pos he, if_pos (by omega)]
    · rename_i hne
      have hm := look_some h
      have hlt := up_head hu _ hm
      simp only at hlt
      rw [gap, gap, if_pos hlt, if_pos (by omega)]
      exact ih (up_tail hu) h
/-- From the hole on: what lies between is there. -/
theorem gap_between {L : List Ex} (hu : Up L) : ∀ (m : Nat) (k : Int), (gap L k - k).toNat = m → look L (gap L k) = none ∧ ∀ j, k ≤ j → j < gap L k → look L j ≠ none := by
  intro m
  induction m with
  | zero =>
    intro k hm
    have h1 := gap_ge L k
    cases hl : look L k with
    | none => rw [gap_none hu hl]; exact ⟨hl, fun j h1 h2 => by omega⟩
    | some bs => have h2 := gap_some hu hl; have h3 := gap_ge L (k + 1); omega
  | succ m ih =>
    intro k hm
    have h1 := gap_ge L k
    cases hl : look L k with
    | none => rw [gap_none hu hl]; exact ⟨hl, fun j h1 h2 => by omega⟩
    | some bs =>
      have h2 := gap_some hu hl
      have h3 := gap_ge L (k + 1)
      have := ih (k + 1) (by omega)
      rw [h2]
      refine ⟨this.1, fun j hj1 hj2 => ?_⟩
      by_cases hjk : j = k
      · subst hjk; rw [hl]; simp
      · exact this.2 j (by omega) hj2
theorem gap_le {L : List Ex} (hr : ∀ e ∈ L, e.no < 137438953472) : ∀ (k : Int), k ≤ 137438953472 → gap L k ≤ 137438953472 := by
  induction L with
  | nil => intro k h; exact h
  | cons e r ih =>
    intro k h
    have ihr := ih (fun x hx => hr x (by simp [hx]))
    have he := hr e (by simp)
    rw [gap]
    split
    · exact ihr k h
    · split
      · exact ihr _ (by omega)
      · exact h

/-- Which block data is found in, place by place. -/
theorem dat_first {L : List Ex} (hu : Up L) (s p : Int) (i : Nat) (hi : i < L.length) (hb : ∀ j, j < i → ¬ (max ((L.getD j default).no * 8) p < ((L.getD j default).no + 1) * 8 ∧ max ((L.getD j default).no * 8) p < s)) (h : max ((L.getD i default).no * 8) p < ((L.getD i default).no + 1) * 8 ∧ max ((L.getD i default).no * 8) p < s) :
    idx L (p / 8) = i := by
  refine idx_unique (by omega) (fun j hj => ?_) (fun _ => by omega)
  have h1 := hb j hj
  have h2 := up_lt hu j i hj hi
  omega
theorem dat_none {L : List Ex} (hu : Up L) (s p : Int) (hb : ∀ j, j < L.length → ¬ (max ((L.getD j default).no * 8) p < ((L.getD j default).no + 1) * 8 ∧ max ((L.getD j default).no * 8) p < s)) : ¬ (idx L (p / 8) < L.length ∧ max p ((L.getD (idx L (p / 8)) default).no * 8) < s) := by
  rintro ⟨h1, h2⟩
  have h3 := idx_ge L (p / 8) hu _ (Nat.le_refl _) h1
  have := hb _ h1
  omega

end Go.Proofs.YtgaaieipeiekiaaGreat

namespace Go.Proofs.YtgaaieipeiekiaaGreat

/-- How many bytes are read. -/
def rlen (s : Int) (L : List Ex) (p n : Int) : Nat := if may s L = true ∧ 0 ≤ p ∧ 0 ≤ n ∧ n ≤ 4096 then (min n (s - p)).toNat else 0
def red (L : List Ex) (p : Int) (m : Nat) : List Int := (List.range m).map fun (i : Nat) => at_ L (p + (i : Int))
def rd (s : Int) (L : List Ex) (p n : Int) : List Int := red L p (rlen s L p n)
theorem red_len (L : List Ex) (p : Int) (m : Nat) : (red L p m).length = m := by simp [red]
theorem red_succ (L : List Ex) (p : Int) (m : Nat) : red L p (m + 1) = red L p m ++ [at_ L (p + (m : Int))] := by simp [red, List.range_succ]
theorem red_get (L : List Ex) (p : Int) (m i : Nat) (h : i < m) : (red L p m)[i]? = some (at_ L (p + (i : Int))) := by simp [red, h]

/-- Blocks first to last are there. -/
def flook (L : List Ex) (f l : Int) (k : Int) : Option (List Int) := if f ≤ k ∧ k ≤ l then some ((look L k).getD nul8) else look L k
/-- b stands from p on. -/
def wbytes (L : List Ex) (p : Int) (b : List Int) (k : Int) : List Int := (List.range 8).map fun (i : Nat) => if p ≤ k * 8 + (i : Int) ∧ k * 8 + (i : Int) < p + (b.length : Int) then b.getD (k * 8 + (i : Int) - p).toNat 0 else at_ L (k * 8 + (i : Int))
def wlook (L : List Ex) (p : Int) (b : List Int) (k : Int) : Option (List Int) := if p / 8 ≤ k ∧ k ≤ (p + (b.length : Int) - 1) / 8 then some (wbytes L p b k) else look L k

theorem nul8_get (i : Nat) : nul8.getD i 0 = 0 := by
  match i with
  | 0 | 1 | 2 | 3 | 4 | 5 | 6 | 7 => rfl
  | i + 8 => rfl
theorem flook_at {L M : List Ex} {f l : Int} (h : ∀ k, look M k = flook L f l k) (p : Int) : at_ M p = at_ L p := by
  unfold at_
  rw [h, flook]
  by_cases hr : f ≤ p / 8 ∧ p / 8 ≤ l
  · rw [if_pos hr]
    cases look L (p / 8) with
    | none => exact nul8_get _
    | some bs => rfl
  · rw [if_neg hr]
theorem wbytes_get (L : List Ex) (p : Int) (b : List Int) (k : Int) (i : Nat) (h : i < 8) : (wbytes L p b k).getD i 0 = if p ≤ k * 8 + (i : Int) ∧ k * 8 + (i : Int) < p + (b.length : Int) then b.getD (k * 8 + (i : Int) - p).toNat 0 else at_ L (k * 8 + (i : Int)) := by
  simp [wbytes, List.getD_eq_getElem?_getD, List.getElem?_range h]
theorem wlook_at {L M : List Ex} {p : Int} {b : List Int} (h : ∀ k, look M k = wlook L p b k) (t : Int) : at_ M t = if p ≤ t ∧ t < p + (b.length : Int) then b.getD (t - p).toNat 0 else at_ L t := by
  have he : t / 8 * 8 + ((t % 8).toNat : Int) = t := by omega
  unfold at_
  rw [h, wlook]
  by_cases hr : p / 8 ≤ t / 8 ∧ t / 8 ≤ (p + (b.length : Int) - 1) / 8
  · rw [if_pos hr]
    show (wbytes L p b (t / 8)).getD (t % 8).toNat 0 = _
    rw [wbytes_get _ _ _ _ _ (by omega), he]
    rfl
  · rw [if_neg hr, if_neg (fun hh => hr (by omega))]
theorem good_flook {s s' : Int} {L M : List Ex} {f l : Int} (hg : Good s L) (hM : Up M) (h : ∀ k, look M k = flook L f l k) (h0 : s ≤ s') (h1 : s' ≤ 1099511627776) (hf : 0 ≤ f) (hl : l < 137438953472) : Good s' M := by
  have hs0 := hg.s0
  refine good_of (by omega) h1 hM fun k bs hk => ?_
  rw [h, flook] at hk
  split at hk
  · rename_i hr
    injection hk with hk
    refine ⟨by omega, by omega, fun i hi hs => ?_⟩
    cases hx : look L k with
    | none => rw [hx] at hk; rw [← hk]; exact nul8_get i
    | some ds => rw [hx] at hk; rw [← hk]; exact (hg.look hx).2.2 i hi (by omega)
  · have := hg.look hk
    exact ⟨this.1, this.2.1, fun i hi hs => this.2.2 i hi (by omega)⟩
theorem good_wlook {s s' : Int} {L M : List Ex} {p : Int} {b : List Int} (hg : Good s L) (hM : Up M) (h : ∀ k, look M k = wlook L p b k) (h0 : s ≤ s') (h1 : s' ≤ 1099511627776) (hp : 0 ≤ p) (he : p + (b.length : Int) ≤ s') : Good s' M := by
  have hs0 := hg.s0
  refine good_of (by omega) h1 hM fun k bs hk => ?_
  rw [h, wlook] at hk
  split at hk
  · rename_i hr
    injection hk with hk
    refine ⟨by omega, by omega, fun i hi hs => ?_⟩
    rw [← hk, wbytes_get _ _ _ _ _ hi, if_neg (by omega)]
    exact hg.behind (by omega)
  · have := hg.look hk
    exact ⟨this.1, this.2.1, fun i hi hs => this.2.2 i hi (by omega)⟩

/-- Bytes of a block that lie from p on ahead of q are 0. -/
def cutx (e : Ex) (p q : Int) : Ex := ⟨e.no, (List.range 8).map fun (k : Nat) => if p ≤ e.no * 8 + (k : Int) ∧ e.no * 8 + (k : Int) < q then 0 else e.bs.getD k 0⟩
def whole (k p q : Int) : Bool := decide (p ≤ k * 8) && decide (k * 8 + 8 ≤ q)
def wo (L : List Ex) (p q : Int) : List Ex := (L.filter fun e => !whole e.no p q).map fun e => cutx e p q
theorem cutx_ok {e : Ex} (h : e.ok) (p q : Int) : (cutx e p q).ok := by
  refine ⟨by simp [cutx], fun x hx => ?_⟩
  simp [cutx] at hx
  obtain ⟨k, _, rfl⟩ := hx
  split
  · exact ⟨by decide, by decide⟩
  · have := Ex.at_ok h k
    simpa using this
theorem cutx_get (e : Ex) (p q : Int) (k : Nat) (h : k < 8) : (cutx e p q).bs.getD k 0 = if p ≤ e.no * 8 + (k : Int) ∧ e.no * 8 + (k : Int) < q then 0 else e.bs.getD k 0 := by
  simp [cutx, List.getD_eq_getElem?_getD, List.getElem?_range h]
theorem wo_snoc (L : List Ex) (p q : Int) (e : Ex) : wo (L ++ [e]) p q = wo L p q ++ (if whole e.no p q = true then [] else [cutx e p q]) := by
  simp only [wo, List.filter_append, List.map_append]
  cases h : whole e.no p q <;> simp [h]
theorem up_wo {L : List Ex} (hu : Up L) (p q : Int) : Up (wo L p q) := by
  unfold wo Up
  rw [List.pairwise_map]
  exact (hu.sublist List.filter_sublist).imp (fun h => h)
theorem look_wo (L : List Ex) (p q k : Int) : look (wo L p q) k = if whole k p q = true then none else (look L k).map (fun bs => (cutx ⟨k, bs⟩ p q).bs) := by
  induction L with
  | nil => simp [wo, look]
  | cons e r ih =>
    by_cases hw : whole e.no p q = true
    · have e1 : wo (e :: r) p q = wo r p q := by simp [wo, hw]
      rw [e1, ih, look]
      by_cases hk : e.no = k
      · subst hk; rw [if_pos hw, if_pos hw]
      · rw [if_neg hk]
    · have e1 : wo (e :: r) p q = cutx e p q :: wo r p q := by simp [wo, hw]
      rw [e1, look, look, ih]
      by_cases hk : e.no = k
      · subst hk
        rw [if_pos (show (cutx e p q).no = e.no from rfl), if_neg hw, if_pos rfl]
        rfl
      · rw [if_neg (show ¬ (cutx e p q).no = k from hk), if_neg hk]
theorem at_wo (L : List Ex) (p q t : Int) : at_ (wo L p q) t = if p ≤ t ∧ t < q then 0 else at_ L t := by
  have he : t / 8 * 8 + ((t % 8).toNat : Int) = t := by omega
  rw [at_, look_wo]
  by_cases hw : whole (t / 8) p q = true
  · rw [if_pos hw]
    simp only [whole, Bool.and_eq_true, decide_eq_true_eq] at hw
    rw [if_pos (by omega)]
  · rw [if_neg hw, at_]
    cases hl : look L (t / 8) with
    | none => simp
    | some bs =>
      show (cutx ⟨t / 8, bs⟩ p q).bs.getD (t % 8).toNat 0 = _
      rw [cutx_get _ _ _ _ (by omega)]
      simp only [he]
theorem good_wo {s s' : Int} {L : List Ex} (hg : Good s L) (p q : Int) (h0 : 0 ≤ s') (h1 : s' ≤ 1099511627776) (h : ∀ t, s' ≤ t → t < 1099511627776 → s ≤ t ∨ (p ≤ t ∧ t < q)) : Good s' (wo L p q) := by
  refine good_of h0 h1 (up_wo hg.up p q) fun k bs hk => ?_
  rw [look_wo] at hk
  split at hk
  · cases hk
  · cases hl : look L k with
    | none => rw [hl] at hk; cases hk
    | some ds =>
      rw [hl] at hk
      injection hk with hk
      have hx := hg.look hl
      refine ⟨hx.1, hx.2.1, fun i hi hs => ?_⟩
      rw [← hk, cutx_get _ _ _ _ hi]
      split
      · rfl
      · rename_i hn
        rcases h (k * 8 + (i : Int)) hs (by omega) with h | h
        · exact hx.2.2 i hi h
        · exact absurd h hn
end Go.Proofs.YtgaaieipeiekiaaGreat

namespace Go.Proofs.YtgaaieipeiekiaaGreat
open Go.RowKit
set_option maxRecDepth 100000

/-- A slice of blocks that may be written. -/
structure Mut (B : Nat) (w : World) (A : Option Addr) (n c : Nat) (L : List Ex) : Prop where
  exts : Exts w A n c L
  own : ∀ g o, A = some ⟨g, o, none⟩ → B ≤ g ∧ g < w.heap.size ∧ ∀ j, w.frozen? ⟨g, j, none⟩ = false
theorem mut_nil (B : Nat) (w : World) : Mut B w none 0 0 [] := ⟨exts_nil w, fun g o h => by cases h⟩
theorem Mut.on {B : Nat} {w w' : World} {A : Option Addr} {n c : Nat} {L : List Ex} (h : Mut B w A n c L) (k : Below w.heap.size w w') : Mut B w' A n c L :=
  ⟨h.exts.on k, fun g o he => by
    obtain ⟨h1, h2, h3⟩ := h.own g o he
    exact ⟨h1, Nat.lt_of_lt_of_le h2 k.size, fun j => by rw [World.frozen?_of_block (w := w) (k.block g h2)]; exact h3 j⟩⟩
theorem Mut.only {B B' : Nat} {S : Nat → Prop} {w w' : World} {A : Option Addr} {n c : Nat} {L : List Ex} (h : Mut B w A n c L) (k : Only S w w') (hS : ∀ g, B ≤ g → ¬ S g) (hB : B' ≤ B) : Mut B' w' A n c L :=
  ⟨h.exts.only k (fun g o he _ => hS g (h.own g o he).1), fun g o he => by
    obtain ⟨h1, h2, h3⟩ := h.own g o he
    exact ⟨Nat.le_trans hB h1, Nat.lt_of_lt_of_le h2 k.size, fun j => by rw [World.frozen?_of_block (w := w) (k.block g h2 (hS g h1))]; exact h3 j⟩⟩
theorem only_put (w : World) (b : Nat) (x y : Value) : Only (fun d => d = b) w ((w.setCell ⟨b, 0, none⟩ x).setCell ⟨b, 1, none⟩ y) :=
  ((Only.refl (fun d => d = b) w).setCell ⟨b, 0, none⟩ (fun _ => rfl) x).setCell ⟨b, 1, none⟩ (fun _ => rfl) y
theorem Own.mut {B : Nat} {w : World} {v : Value} {L : List Ex} (h : Own B w v L) : ∃ A c, v = .slice A L.length c ∧ Mut B w A L.length c L := by
  obtain ⟨A, c, hv, he, hf⟩ := h.exts
  refine ⟨A, c, hv, he, fun g o ha => ?_⟩
  obtain ⟨h1, _, h3⟩ := hf g o ha
  refine ⟨h1, ?_, h3⟩
  have := h.row.lt g (by rw [hv, ha]; rfl)
  exact this.2
theorem Own.size {B : Nat} {w w' : World} {v : Value} {r : Option Nat} (hg : w.grownBy w' r) (hB : B ≤ w.heap.size) (hl : ∀ k, v.ownBlock = some k → B ≤ k ∧ k < w.heap.size) (hr : r = v.ownBlock) : Below B w w' :=
  ⟨hg.os, hg.tape, hg.output, hg.size, fun k hk => hg.block k (by omega) (fun he => by rw [hr] at he; have := hl k he.symm; omega)⟩
theorem own_new (w : World) : Own w.heap.size (w.alloc (.cells #[] 75)) (.slice (some ⟨w.heap.size, 0, none⟩) 0 0) [] :=
  ⟨World.ownsRow_made w #[] 0 (Nat.le_refl _) (Nat.zero_le _) rfl, by simp⟩

theorem run_join {w : World} {B : Nat} {v : Value} {L : List Ex} (hown : Own B w v L) {A : Option Addr} {n c : Nat} {M : List Ex} (hr : Exts w A n c M) (hl : L.length + n ≤ 1000000) (hB : B ≤ w.heap.size) (ty : TypeId) :
    ∃ v' w', (Builtin.append_ #[30, 30] ty #[v, .slice A n c]).run Tryz.prog w = .ok v' w' ∧ Own B w' v' (L ++ M) ∧ Below B w w' := by
  obtain ⟨i0, hi, hz0, hz1, hz2⟩ := info_parts info32
  cases A with
  | none =>
    obtain ⟨rfl, rfl⟩ := hr.nil rfl
    obtain rfl : M = [] := List.eq_nil_of_length_eq_zero hr.len
    exact ⟨v, w, run_append_owned_none (P := Tryz.prog) (w := w) B 30 ty 75 i0 9 Tryz.underlying30 hi v L.length (exCells L) hown.row, by rw [List.append_nil]; exact hown, Below.refl _ _⟩
  | some ad =>
    obtain ⟨v', w', hrun, h1, h2, _⟩ := run_append_own (P := Tryz.prog) (w := w) B 30 ty 75 i0 _ 9 16 Tryz.underlying30 hi hz0 hz1 hz2 (ecl_size (ok_nul 0)) (by decide) v L.length (exCells L) hown.row ad n c (exCells M) (by rw [exCells_len M hr.ok, hr.len]) (hr.src ad rfl) (exCells_ones M) (by unfold maxLen; omega) (by omega) hB
    refine ⟨v', w', hrun, ⟨by rw [List.length_append, exCells_append, hr.len]; exact h1, fun x hx => ?_⟩, Own.size h2 hB hown.row.lt rfl⟩
    rcases List.mem_append.1 hx with hx | hx
    · exact hown.ok x hx
    · exact hr.ok x hx
theorem step_join {w : World} {ops : Array Oper} {o : Oper} {a : Act} {K : Act → World → Prop} {Q : Exit → Act → World → Prop} {E : Prop} (hgd : o.guard = none) (s x : Operand)
    (ho : o.op = .call { callee := .builtin .append, args := #[s, x], argTypes := #[30, 30] }) (B : Nat) (v : Value) (L : List Ex) (hs : a.eval s = v) (hown : Own B w v L) (A : Option Addr) (n c : Nat) (M : List Ex) (hx : a.eval x = .slice A n c) (hr : Exts w A n c M) (hl : L.length + n ≤ 1000000) (hB : B ≤ w.heap.size)
    (h : ∀ v' w', Own B w' v' (L ++ M) → Below B w w' → K (a.put o.dst v') w') : if Region.wanted o (yielded ops a.tmps) = true then Oper.wp Tryz.prog o a w K Q else E := by
  have hw : Region.wanted o (yielded ops a.tmps) = true := by simp [Region.wanted, hgd]
  rw [if_pos hw]
  obtain ⟨v', w', hrun, q1, q2⟩ := run_join hown hr hl hB o.type
  unfold Oper.wp
  simp [execOp, ho, resolve, invoke, builtin, hs, hx, hrun, Result.andThen]
  exact h v' w' q1 q2
/-- .. at the list of a plain region's operations. -/
theorem st_cat {w : World} {ops : Array Oper} {rest : List Oper} {o : Oper} {a : Act} {Q : Exit → Act → World → Prop} (hgd : o.guard = none) (s x : Operand)
    (ho : o.op = .call { callee := .builtin .append, args := #[s, x], argTypes := #[30, 30] }) (B : Nat) (v : Value) (L : List Ex) (hs : a.eval s = v) (hown : Own B w v L) (A : Option Addr) (n c : Nat) (M : List Ex) (hx : a.eval x = .slice A n c) (hr : Exts w A n c M) (hl : L.length + n ≤ 1000000) (hB : B ≤ w.heap.size)
    (h : ∀ v' w', Own B w' v' (L ++ M) → Below B w w' → wpList Tryz.prog ops Q rest (a.put o.dst v') w') : wpList Tryz.prog ops Q (o :: rest) a w := by
  refine wpList_plain hgd fun K hK => ?_
  obtain ⟨v', w', hrun, q1, q2⟩ := run_join hown hr hl hB o.type
  unfold Oper.wp
  simp [execOp, ho, resolve, invoke, builtin, hs, hx, hrun, Result.andThen]
  exact hK _ _ (h v' w' q1 q2)
theorem exts_one {w : World} {b : Nat} {e : Ex} (h : Row w b 75 (ecl e).toArray) (hk : e.ok) : Exts w (some ⟨b, 0, none⟩) 1 1 [e] := by
  refine ⟨rfl, by simpa using hk, Nat.le_refl _, by unfold maxLen; omega, (fun h => by cases h), fun _ => ⟨b, 0, rfl, h.lt, fun j hj q v hv => ?_⟩⟩
  obtain rfl : j = 0 := by omega
  rw [show 0 + 0 * 9 + q = q by omega, h.at]
  simpa using hv

def ListPost (L : List Ex) (w : World) (e : Ending) (w' : World) : Prop := ∃ A c, e = .returned (.slice A L.length c) ∧ Mut w.heap.size w' A L.length c L ∧ Below w.heap.size w w'

set_option maxHeartbeats 400000 in
theorem clone_any (A : Option Addr) (n c : Nat) (L : List Ex) (w : World) (h : Exts w A n c L) (hn : n ≤ 1000000) : Calls Tryz.prog 62 #[.slice A n c] w (ListPost L w) := by
  have H := Lib.hid h
  cases A with
  | none =>
    obtain ⟨rfl, rfl⟩ := h.nil rfl
    obtain rfl : L = [] := List.eq_nil_of_length_eq_zero h.len
    clear h
    have hnil : ∀ w' : World, (binOp .eql 30 (.slice none 0 0) (.slice none 0 0)).run Tryz.prog w' = .ok (.bool true) w' := fun w' => Lib.run_eql_slice_nil w' 30 75 none 0 0 0 0 Tryz.underlying30
    go_enter Tryz.func62, Tryz.ntmps62
    go_wp2
    go_ret
    exact ⟨none, 0, rfl, ⟨H.out, fun g o h => by cases h⟩, Below.refl _ _⟩
  | some ad =>
    have HE := Lib.hid (H.out.on ((Below.refl w.heap.size w).alloc (Nat.le_refl _) (.cells #[] 75)))
    clear h
    have hnil : ∀ w' : World, (binOp .eql 30 (.slice (some ad) n c) (.slice none 0 0)).run Tryz.prog w' = .ok (.bool false) w' := fun w' => Lib.run_eql_slice_nil w' 30 75 (some ad) n c 0 0 Tryz.underlying30
    go_enter Tryz.func62, Tryz.ntmps62
    go_wp2_with (at_builtin; refine st_cat rfl _ _ rfl w.heap.size _ [] rfl (own_new w) _ _ _ L rfl HE.out (by simpa using hn) (by simp) ?_; intro v' w1 q1 q2; have Q1 := Lib.hid q1; have Q2 := Lib.hid q2; clear q1 q2)
    go_ret
    obtain ⟨A', c', rfl, hm⟩ := Q1.out.mut
    exact ⟨A', c', rfl, hm, ((Below.refl w.heap.size w).alloc (Nat.le_refl _) _).trans Q2.out⟩

/-- The result lies in a variable. -/
theorem res_box1 {fn : Func} {p : Tmp} (h : fn.results = #[.cell p 32]) {R : Ending → World → Prop} {a : Act} {w : World} (b : Nat) (s : Int) (A : Option Addr) (n c : Nat)
    (hp : a.tmps.getD p undef = .pointer (some ⟨b, 0, none⟩)) (hb : Box w b s A n c) (hdf : a.defers = []) (hR : R (.returned (ct s A n c)) w) : bodyPost Tryz.prog fn R .ret a w :=
  bodyPost_ret (results_cell_row h a.tmps w b 32 #[.int .i64 s, .slice A n c] (0, 0) _ hp hb Tryz.underlying32 rfl (by show _ = some 2; kernel_rfl)) hdf hR
theorem load24 {w : World} {b : Nat} {s : Int} {A : Option Addr} {n c : Nat} (h : Box w b s A n c) : (loadVar 32 ⟨b, 0, none⟩).run Tryz.prog w = .ok (ct s A n c) w :=
  run_loadVar_row (P := Tryz.prog) w b 32 32 _ (0, 0) _ h Tryz.underlying32 rfl (by show _ = some 2; kernel_rfl)
theorem res_box2 {fn : Func} {p u : Tmp} (h : fn.results = #[.cell p 32, .tmp u]) {R : Ending → World → Prop} {a : Act} {w : World} (b : Nat) (s : Int) (A : Option Addr) (n c : Nat)
    (hp : a.tmps.getD p undef = .pointer (some ⟨b, 0, none⟩)) (hb : Box w b s A n c) (hdf : a.defers = []) (hR : R (.returned (.tuple #[ct s A n c, a.tmps.getD u undef])) w) : bodyPost Tryz.prog fn R .ret a w :=
  bodyPost_ret (by rw [results_cell_tmp h, hp]; simp [asAddr, Result.andThen, load24 hb]) hdf hR
theorem Box.put {w : World} {b : Nat} {s : Int} {A : Option Addr} {n c : Nat} (h : Box w b s A n c) (s' : Int) (A' : Option Addr) (n' c' : Nat) : Box ((w.setCell ⟨b, 0, none⟩ (.int .i64 s')).setCell ⟨b, 1, none⟩ (.slice A' n' c')) b s' A' n' c' := by
  have := (Row.setv h 0 (.int .i64 s')).setv 1 (.slice A' n' c')
  exact this
theorem below_put {B : Nat} {w w' : World} (h : Below B w w') (b : Nat) (hb : B ≤ b) (x y : Value) : Below B w ((w'.setCell ⟨b, 0, none⟩ x).setCell ⟨b, 1, none⟩ y) := below_set2 h hb x y

set_option maxHeartbeats 2000000 in
theorem copy_any (s : Int) (A : Option Addr) (n c : Nat) (L : List Ex) (w : World) (h : Exts w A n c L) (hn : n ≤ 1000000) :
    Calls Tryz.prog 35 #[ct s A n c] w fun e w' => ∃ A' c', e = .returned (ct s A' L.length c') ∧ Mut w.heap.size w' A' L.length c' L ∧ Below w.heap.size w w' := by
  obtain ⟨W, hW⟩ : ∃ W, (w.alloc (.cells #[.int .i64 s, .slice A n c] 32)).alloc (.cells #[.int .i64 0, .slice none 0 0] 32) = W := ⟨_, rfl⟩
  have HW := Lib.hid hW
  have KW := Lib.hid (show Below w.heap.size w W by rw [← hW]; exact ((Below.refl _ _).alloc (Nat.le_refl _) _).alloc (by simp) _)
  have B0 := Lib.hid (show Box W w.heap.size s A n c by rw [← hW]; exact (box_new w s A n c).on ((Below.refl _ _).alloc (Nat.le_refl _) _))
  have B1 := Lib.hid (show Box W (w.heap.size + 1) 0 none 0 0 by
    rw [← hW]
    have := box_new (w.alloc (.cells #[.int .i64 s, .slice A n c] 32)) 0 none 0 0
    simpa using this)
  have HD := Lib.hid (show Exts W.drew A n c L from h.on (KW.out.drew))
  have HS := Lib.hid (show W.heap.size = w.heap.size + 2 by rw [← hW]; simp)
  clear h hW
  show Calls Tryz.prog 35 #[.agg #[.int .i64 s, .slice A n c]] w _
  go_enter Tryz.func35, Tryz.ntmps35
  go_wp2
  rw [HW.out]
  have c0 := B0.out.c0; have c1 := B0.out.c1
  go_region_law (refine step_join rfl (.const (.slice none 0 0)) (.tmp 6) rfl W.heap.size _ [] rfl (own_nil _ _) A n c L (by first | rfl | simp [Act.eval, Act.put]) HD.out (by simpa using hn) (Nat.le_refl _) ?_; intro v' w1 q1 q2; obtain ⟨A', c', hv, hm⟩ := q1.mut; subst hv; have X0 := Lib.hid (show Below W.heap.size W w1 from ((Below.refl _ _).drew).trans q2); have X1 := Lib.hid (B1.out.on X0.out); have HM := Lib.hid hm; have e0 := X1.out.c0; have e1 := X1.out.c1; have f0 := X1.out.f0; have f1 := X1.out.f1; have g0 := (B0.out.on X0.out).c0; have g1 := (B0.out.on X0.out).c1; clear q1 q2 hm)
  all_goals
    go_wp2
    have Y := X1.out.put s A' L.length c'
    refine res_box1 rfl (w.heap.size + 1) s A' L.length c' rfl Y rfl ?_
    exact ⟨A', c', rfl, HM.out.only (only_put _ _ _ _) (fun g hg hd => by have := HS.out; omega) (by have := HS.out; omega), below_put (KW.out.trans (X0.out.mono KW.out.size)) _ (by omega) _ _⟩

/-- What endOf says. -/
def eo (p n : Int) : Option Int := if Plain.spanB p n = true ∧ p + n ≤ 1099511627776 then some (p + n) else none
theorem eo_some {p n t : Int} (h : eo p n = some t) : 0 ≤ p ∧ 0 ≤ n ∧ t = p + n ∧ t ≤ 1099511627776 := by
  unfold eo at h
  split at h
  · rename_i hh
    injection h with h
    have := (Plain.span_iff p n).1 hh.1
    omega
  · cases h
theorem eo_none {p n : Int} (h : eo p n = none) : ¬ (0 ≤ p ∧ 0 ≤ n ∧ p + n ≤ 1099511627776) := by
  unfold eo at h
  split at h
  · cases h
  · rename_i hh
    intro hx
    exact hh ⟨(Plain.span_iff p n).2 (by omega), hx.2.2⟩

set_option maxHeartbeats 1000000 in
theorem end_any (p n : Int) (w : World) (d : Option Int) (hd : eo p n = d) : Calls Tryz.prog 119 #[.int .i64 p, .int .i64 n] w fun e w' => e = .returned (.tuple #[.int .i64 (d.getD 0), .bool d.isSome]) ∧ Below w.heap.size w w' := by
  have HD := Lib.hid hd
  have HV := Lib.hid (show Plain.addV [p, n] = if Plain.spanB p n = true then p + n else 0 by
    rw [Plain.addV, Plain.addFrom_two]
    by_cases h : Plain.spanB p n = true
    · rw [if_pos h, if_pos (by have := (Plain.span_iff p n).1 h; omega)]; rfl
    · rw [if_neg h, if_neg (fun hh => h ((Plain.span_iff p n).2 (by omega)))]; rfl)
  have HO := Lib.hid (Plain.addOk_two p n)
  have K0 := Lib.hid (show Below w.heap.size w (w.alloc (.cells #[.int .i64 p, .int .i64 n] 3)) from (Below.refl _ _).alloc (Nat.le_refl _) _)
  clear hd
  obtain ⟨v, hv⟩ : ∃ v, Plain.addV [p, n] = v := ⟨_, rfl⟩
  obtain ⟨z, hz⟩ : ∃ z, Plain.addOk [p, n] = z := ⟨_, rfl⟩
  rw [hv] at HV
  rw [hz] at HO
  have HVv := Lib.hid hv; have HZz := Lib.hid hz
  clear hv hz
  go_enter Tryz.func119, Tryz.ntmps119
  go_wp2_with fail
  refine (add_any _ _ _ [p, n] _ (by decide) (ints_two_at _ _ _ _ _ (by simp))).mono ?_
  rintro e w1 ⟨rfl, rfl⟩
  rw [HVv.out, HZz.out]
  cases z with
  | false =>
    have HF := Lib.hid (show d = none by rw [← HD.out, eo, if_neg (fun h => by have := h.1; rw [← HO.out] at this; cases this)])
    go_wp2
    go_ret2
    exact ⟨by rw [HF.out]; rfl, K0.out⟩
  | true =>
    have hsp := HO.out.symm
    have HX := Lib.hid (show v = p + n by rw [HV.out, if_pos hsp])
    by_cases ht : v ≤ 1099511627776
    · have HF := Lib.hid (show d = some v by rw [← HD.out, HX.out, eo, if_pos ⟨hsp, by rw [← HX.out]; exact ht⟩])
      clear hsp
      go_wp2
      go_ret2
      exact ⟨by rw [HF.out]; rfl, K0.out⟩
    · have HF := Lib.hid (show d = none by rw [← HD.out, eo, if_neg (fun h => ht (by rw [HX.out]; exact h.2))])
      clear hsp
      go_wp2
      go_ret2
      exact ⟨by rw [HF.out]; rfl, K0.out⟩
end Go.Proofs.YtgaaieipeiekiaaGreat

namespace Go.Proofs.YtgaaieipeiekiaaGreat
open Go.RowKit
set_option maxRecDepth 100000

theorem quiet_mine {P : Program} {f : FuncId} {args : Array Value} {w : World} {n : Nat} {v : Value}
    (h : Calls P f args (w.drewN n) fun e w' => e = .returned v ∧ w.drewN n = w') : Calls P f args (w.drewN n) fun e w'' => e = .returned v ∧ ∃ m, w'' = w.drewN m :=
  h.mono fun _ _ ⟨he, hm⟩ => ⟨he, n, hm.symm⟩
theorem cut8_lh (b o f t : Nat) (hf : f ≤ t) (ht : t ≤ 8) : ∃ o' c', (0 < t - f → o' = o + f) ∧ ∀ w', (Instr.sliceAt 73 (.pointer (some ⟨b, o, none⟩)) (some (.int .i64 (f : Int))) (some (.int .i64 (t : Int))) none).run Tryz.prog w' = .ok (.slice (some ⟨b, o', none⟩) (t - f) c') w' := by
  refine ⟨if f = 8 then o else o + f, 8 - f, fun h => if_neg (by omega), fun w' => ?_⟩
  simp only [Instr.sliceAt, Sem.run_bind, run_underlying Tryz.underlying73 w', Result.andThen_ok]
  have hb : (Instr.sliceBounds false 8 8 (some (.int .i64 (f : Int))) (some (.int .i64 (t : Int))) none).run Tryz.prog w' = .ok (f, t, 8) w' := by
    simp [Instr.sliceBounds, run_sliceBound, show (t : Int) ≤ 8 by omega, hf]
  simp [Instr.sureAddr, hb, Addr.add_mid]
  by_cases h8 : f = 8
  · subst h8; simp
  · have h8' : ¬ 8 = f := fun h => h8 h.symm
    simp [h8, h8']
/-- Bytes of a block made 0. -/
theorem run_clr {w : World} {b : Nat} {e : Ex} (hr : XRow w b e) (f t : Nat) (hf : f ≤ t) (ht : t ≤ 8) (o c : Nat) (ho : 0 < t - f → o = 1 + f) (ty : TypeId) :
    ∃ w', (Builtin.clear_ #[40] ty #[.slice (some ⟨b, o, none⟩) (t - f) c]).run Tryz.prog w = .ok (.tuple #[]) w' ∧ w'.rangeAt b 0 (ecl ⟨e.no, splice e.bs f (List.replicate (t - f) 0)⟩) ∧ Only (fun d => d = b) w w' := by
  rcases Nat.eq_zero_or_pos (t - f) with h0 | h0
  · refine ⟨w, ?_, ?_, Only.refl _ w⟩
    · rw [h0]
      have hz : ∀ w, (zeroValue 5).run Tryz.prog w = .ok (.int .u8 0) w := Tryz.zeroValue5
      simp [Builtin.clear_, run_underlying Tryz.underlying40]
    · rw [h0]
      have : splice e.bs f (List.replicate 0 (0 : Int)) = e.bs := by simp [splice]
      rw [this]
      exact hr.range
  · have hoo := ho h0
    subst hoo
    have hrun := Lib.run_clear_slice (P := Tryz.prog) w 40 5 ty (.int .u8 0) Tryz.underlying40 Tryz.zeroValue5 rfl rfl b (1 + f) (t - f) c h0
      (fun j hj => by rw [Nat.add_assoc, hr.byte (f + j) (by omega)]; rfl) (fun j hj => hr.free _)
    refine ⟨_, hrun, ?_, only_setCells _ _ _ _⟩
    have hp := (exts_one hr.1 hr.2).put 0 (1 + f) (List.replicate (t - f) (Value.int .u8 0)) ⟨e.no, splice e.bs f (List.replicate (t - f) 0)⟩ (by omega) (by simp; omega)
      (ok_splice hr.2 f _ (by simp; omega) (fun x hx => by rw [List.eq_of_mem_replicate hx]; exact ⟨by decide, by decide⟩)) (by rw [splice_bytes]; simp)
    obtain ⟨b', o', he, _, hc⟩ := hp.cells (by omega)
    injection he with he; injection he with e1 e2; subst e1 e2
    have := hc 0 (by omega)
    simpa using this
theorem st_clear {w : World} {ops : Array Oper} {rest : List Oper} {o : Oper} {a : Act} {Q : Exit → Act → World → Prop} (hgd : o.guard = none) (x : Operand) (hop : o.op = .call { callee := .builtin .clear, args := #[x], argTypes := #[40] })
    (b : Nat) (e : Ex) (hr : XRow w b e) (f t : Nat) (hf : f ≤ t) (ht : t ≤ 8) (o' c : Nat) (ho : 0 < t - f → o' = 1 + f) (hx : a.eval x = .slice (some ⟨b, o', none⟩) (t - f) c)
    (h : ∀ w', w'.rangeAt b 0 (ecl ⟨e.no, splice e.bs f (List.replicate (t - f) 0)⟩) → Only (fun d => d = b) w w' → wpList Tryz.prog ops Q rest (a.put o.dst (.tuple #[])) w') : wpList Tryz.prog ops Q (o :: rest) a w := by
  refine wpList_plain hgd fun K hK => ?_
  obtain ⟨w', hrun, q1, q2⟩ := run_clr hr f t hf ht o' c ho o.type
  unfold Oper.wp
  simp [execOp, hop, resolve, invoke, builtin, hx, hrun, Result.andThen]
  exact hK _ _ (h w' q1 q2)

theorem cutx_is {e : Ex} (he : e.ok) (p q : Int) (f t : Nat) (hf : min (p - e.no * 8).toNat 8 = f) (ht : min (q - e.no * 8).toNat 8 = t) (hft : f ≤ t) : cutx e p q = ⟨e.no, splice e.bs f (List.replicate (t - f) 0)⟩ := by
  unfold cutx
  congr 1
  apply List.ext_getElem?
  intro k
  have h8 := he.1
  by_cases hk : k < 8
  · rw [List.getElem?_map, List.getElem?_range hk, Option.map_some]
    unfold splice
    by_cases k1 : k < f
    · rw [if_neg (by omega), List.getElem?_append_left (by simp; omega), List.getElem?_take_of_lt k1, List.getD_eq_getElem?_getD, List.getElem?_eq_getElem (by omega)]; rfl
    · by_cases k2 : k < t
      · rw [if_pos (by omega), List.getElem?_append_right (by simp; omega), List.getElem?_append_left (by simp; omega), List.getElem?_replicate, if_pos (by simp; omega)]
      · rw [if_neg (by omega), List.getElem?_append_right (by simp; omega), List.getElem?_append_right (by simp; omega), List.getElem?_drop, List.getD_eq_getElem?_getD]
        simp only [List.length_take, List.length_replicate]
        rw [show f + (t - f) + (k - min f e.bs.length - (t - f)) = k by omega, List.getElem?_eq_getElem (by omega)]; rfl
  · rw [List.getElem?_eq_none (by simp; omega), List.getElem?_eq_none (by rw [length_splice _ _ _ (by simp; omega)]; omega)]
theorem whole_is (no p q : Int) (f t : Nat) (hf : min (p - no * 8).toNat 8 = f) (ht : min (q - no * 8).toNat 8 = t) : whole no p q = decide ((t : Int) - (f : Int) = 8) := by
  rw [Bool.eq_iff_iff, whole, Bool.and_eq_true, decide_eq_true_eq, decide_eq_true_eq, decide_eq_true_eq]
  omega

set_option maxRecDepth 100000 in
set_option maxHeartbeats 4000000 in
theorem without_any (A : Option Addr) (n c : Nat) (L : List Ex) (p q : Int) (w : World) (h : Exts w A n c L) (hn : n ≤ 1000000) (hr : ∀ e ∈ L, 0 ≤ e.no ∧ e.no < 137438953472) (p0 : 0 ≤ p) (pq : p ≤ q) (q1 : q ≤ 1099511627776) :
    Calls Tryz.prog 123 #[.slice A n c, .int .i64 p, .int .i64 q] w (ListPost (wo L p q) w) := by
  have H := Lib.hid h
  have hm := h.max
  have HR := Lib.hid hr
  clear h hr
  go_enter Tryz.func123, Tryz.ntmps123
  go_wp2
  go_loopw [7, 14] (fun v i wr => ∃ j : Nat, j ≤ n ∧ i = .int .i64 j ∧ Hid (Own w.heap.size wr v (wo (L.take j) p q)) ∧ Hid (Below w.heap.size w wr)) (fun _ i _ => n - (intOf i).toNat)
  case atStart => exact ⟨0, Nat.zero_le _, rfl, own_nil _ _, Below.refl _ _⟩
  case round =>
    obtain ⟨j, hj, rfl, HO, K1⟩ := hrel
    by_cases hlt : j < n
    · obtain ⟨b, o, rfl, hb, hc⟩ := H.out.cells (by omega)
      have HX := Lib.hid (show wr.rangeAt b (o + j * 9) (ecl (L.getD j default)) from fun i v hv => (K1.out.cell (p := ⟨b, o + j * 9 + i, none⟩) hb).trans (hc j hlt i v hv))
      have HE := Lib.hid (H.out.get j hlt)
      have HT := Lib.hid (show wo (L.take (j + 1)) p q = wo (L.take j) p q ++ (if whole (L.getD j default).no p q = true then [] else [cutx (L.getD j default) p q]) by
        rw [← wo_snoc]; congr 1
        have hl : j < L.length := by rw [H.out.len]; exact hlt
        rw [List.take_add_one, List.getD_eq_getElem?_getD, List.getElem?_eq_getElem hl]; rfl)
      have hrg := HR.out (L.getD j default) (by rw [List.getD_eq_getElem?_getD, List.getElem?_eq_getElem (by rw [H.out.len]; exact hlt)]; exact List.getElem_mem _)
      have HL := Lib.hid (show (wo (L.take j) p q).length ≤ j by
        have : (wo (L.take j) p q).length ≤ (L.take j).length := by unfold wo; rw [List.length_map]; exact List.length_filter_le _ _
        rw [List.length_take] at this; omega)
      have hji : (j : Int) < (n : Int) := by omega
      clear hc
      generalize L.getD j default = e at *
      obtain ⟨no, hno⟩ : ∃ no, e.no = no := ⟨_, rfl⟩
      obtain ⟨f, hf⟩ : ∃ f, min (p - no * 8).toNat 8 = f := ⟨_, rfl⟩
      obtain ⟨t, ht⟩ : ∃ t, min (q - no * 8).toNat 8 = t := ⟨_, rfl⟩
      have hft : f ≤ t := by omega
      have ht8 : t ≤ 8 := by omega
      have HW := Lib.hid (whole_is no p q f t hf ht)
      have HC := Lib.hid (show cutx e p q = ⟨e.no, splice e.bs f (List.replicate (t - f) 0)⟩ from cutx_is HE.out p q f t (by rw [hno]; exact hf) (by rw [hno]; exact ht) hft)
      rw [hno] at hrg HT
      obtain ⟨n0, n1⟩ := hrg
      have HN := Lib.hid hno; have HF := Lib.hid hf; have HTt := Lib.hid ht
      clear hno hf ht
      go_wp2_with (first | (refine st_loadx rfl _ rfl b (o + j * 9) rfl e HX.out HE.out ?_) | (refine st_allocx rfl rfl ?_; intro b1 w1 hb1 x1 k1; have X1 := Lib.hid x1; have K2 := Lib.hid k1; clear x1 k1) | (refine st_storev rfl _ _ rfl b1 rfl e rfl HE.out _ X1.out ?_; intro w2 x2 o2 s2; have X2 := Lib.hid x2; have K3 := Lib.hid (K2.out.trans (o2.below K2.out.size (fun d hd => by omega))); clear x2 o2 s2; have d0 := X2.out.no; rw [HN.out] at d0))
      go_quiet (first | (go_at_call 84; with_reducible exact quiet_mine (ahead_any no p _ n0 n1 p0 (by omega) f HF.out)) | (go_at_call 84; with_reducible exact quiet_mine (ahead_any no q _ n0 n1 (by omega) q1 t HTt.out)))
      have X3 := Lib.hid (X2.out.on (below_drewN (Below.refl _ _) nq))
      have K4 := Lib.hid (below_drewN K3.out nq)
      have HB1 := Lib.hid hb1
      have hlb := X3.out.lt
      by_cases g : (t : Int) - (f : Int) = 8
      · have HI := Lib.hid (show wo (L.take (j + 1)) p q = wo (L.take j) p q by rw [HT.out, HW.out]; simp [g])
        go_wp2
        go_roundw
        case rel => exact ⟨j + 1, by omega, by go_num, by have := HO.out.on K4.out; rw [← HI.out] at this; exact this, K1.out.trans (K4.out.mono K1.out.size)⟩
        case measure => simp [intOf]; omega
      · have HI := Lib.hid (show wo (L.take (j + 1)) p q = wo (L.take j) p q ++ [cutx e p q] by rw [HT.out, HW.out]; simp [g])
        obtain ⟨o', c', ho', hsl⟩ := cut8_lh b1 1 f t hft ht8
        have HO' := Lib.hid ho'
        clear ho'
        have hlen := HL.out
        generalize hW3 : w2.drewN nq = w3 at *
        go_wp2_with (first | (refine st_clear rfl _ rfl b1 e X3.out f t hft ht8 o' c' HO'.out rfl ?_; intro w4 r4 o4; have R4 := Lib.hid r4; have K5 := Lib.hid (K4.out.trans (o4.below K4.out.size (fun d hd => by have := HB1.out; omega))); clear r4 o4; rw [← HC.out] at R4) | (refine st_loadx rfl _ rfl b1 0 rfl (cutx e p q) R4.out (cutx_ok HE.out p q) ?_) | (refine st_one rfl _ rfl (cutx e p q) rfl (cutx_ok HE.out p q) ?_; intro b6 w6 hb6 r6 k6; have E6 := Lib.hid (exts_one r6 (cutx_ok HE.out p q)); have K6 := Lib.hid (K5.out.trans (k6.mono K5.out.size)); clear r6 k6) | (at_builtin; refine st_cat rfl _ _ rfl w.heap.size u7 (wo (L.take j) p q) rfl (HO.out.on K6.out) _ _ _ [cutx e p q] rfl E6.out (by omega) (Nat.le_trans K1.out.size K6.out.size) ?_; intro v' w7 q7 k7; have Q7 := Lib.hid q7; have K7 := Lib.hid ((K1.out.trans (K6.out.mono K1.out.size)).trans k7); clear q7 k7))
        go_roundw
        case rel => exact ⟨j + 1, by omega, by go_num, by have := Q7.out; rw [← HI.out] at this; exact this, K7.out⟩
        case measure => simp [intOf]; omega
    · obtain rfl : j = n := by omega
      have HF := Lib.hid (show wo (L.take j) p q = wo L p q by rw [List.take_of_length_le (Nat.le_of_eq H.out.len)])
      go_wp2
      go_ret
      have hO := HO.out
      rw [HF.out] at hO
      obtain ⟨A', c', hv, hmm⟩ := hO.mut
      subst hv
      exact ⟨A', c', rfl, hmm, K1.out⟩

def CtPost (z : Bool) (s : Int) (R : List Ex → Prop) (w : World) (e : Ending) (w' : World) : Prop := ∃ A n c L, e = .returned (.tuple #[ct s A n c, .bool z]) ∧ R L ∧ Mut w.heap.size w' A n c L ∧ Below w.heap.size w w'
/-- The variables of a content and of a result. -/
structure Duo (w W : World) (s : Int) (A : Option Addr) (n c : Nat) : Prop where
  b0 : Box W w.heap.size s A n c
  b1 : Box W (w.heap.size + 1) 0 none 0 0
  below : Below w.heap.size w W
  size : w.heap.size + 2 ≤ W.heap.size
theorem duo_new (w : World) (s : Int) (A : Option Addr) (n c : Nat) : Duo w ((w.alloc (.cells #[.int .i64 s, .slice A n c] 32)).alloc (.cells #[.int .i64 0, .slice none 0 0] 32)) s A n c := by
  refine ⟨(box_new w s A n c).on ((Below.refl _ _).alloc (Nat.le_refl _) _), ?_, ((Below.refl _ _).alloc (Nat.le_refl _) _).alloc (by simp) _, by simp⟩
  have := box_new (w.alloc (.cells #[.int .i64 s, .slice A n c] 32)) 0 none 0 0
  simpa using this
theorem Duo.on {w W W' : World} {s : Int} {A : Option Addr} {n c : Nat} (h : Duo w W s A n c) (k : Below W.heap.size W W') : Duo w W' s A n c :=
  ⟨h.b0.on k, h.b1.on k, h.below.trans (k.mono h.below.size), Nat.le_trans h.size k.size⟩
/-- What is answered is stored in the result's variable. -/
theorem Duo.done {w W : World} {s : Int} {A : Option Addr} {n c : Nat} (h : Duo w W s A n c) (s' : Int) {A' : Option Addr} {n' c' : Nat} {L : List Ex} {B : Nat} (hm : Mut B W A' n' c' L) (hB : w.heap.size + 2 ≤ B) :
    Box ((W.setCell ⟨w.heap.size + 1, 0, none⟩ (.int .i64 s')).setCell ⟨w.heap.size + 1, 1, none⟩ (.slice A' n' c')) (w.heap.size + 1) s' A' n' c' ∧ Mut w.heap.size ((W.setCell ⟨w.heap.size + 1, 0, none⟩ (.int .i64 s')).setCell ⟨w.heap.size + 1, 1, none⟩ (.slice A' n' c')) A' n' c' L ∧ Below w.heap.size w ((W.setCell ⟨w.heap.size + 1, 0, none⟩ (.int .i64 s')).setCell ⟨w.heap.size + 1, 1, none⟩ (.slice A' n' c')) :=
  ⟨h.b1.put _ _ _ _, hm.only (B' := w.heap.size) (only_put _ _ _ _) (fun g hg hd => by omega) (by omega), below_put h.below _ (by omega) _ _⟩
theorem Duo.none {w W : World} {s : Int} {A : Option Addr} {n c : Nat} (h : Duo w W s A n c) :
    Box ((W.setCell ⟨w.heap.size + 1, 0, none⟩ (.int .i64 0)).setCell ⟨w.heap.size + 1, 1, none⟩ (.slice none 0 0)) (w.heap.size + 1) 0 none 0 0 ∧ Mut w.heap.size ((W.setCell ⟨w.heap.size + 1, 0, none⟩ (.int .i64 0)).setCell ⟨w.heap.size + 1, 1, none⟩ (.slice none 0 0)) none 0 0 [] ∧ Below w.heap.size w ((W.setCell ⟨w.heap.size + 1, 0, none⟩ (.int .i64 0)).setCell ⟨w.heap.size + 1, 1, none⟩ (.slice none 0 0)) :=
  ⟨h.b1.put _ _ _ _, mut_nil _ _, below_put h.below _ (by omega) _ _⟩

set_option maxRecDepth 100000 in
set_option maxHeartbeats 4000000 in
theorem trunc_any (s : Int) (A : Option Addr) (n c : Nat) (L : List Ex) (t : Int) (w : World) (h : Exts w A n c L) (hn : n ≤ 1000000) (z : Bool) (hz : (decide (0 ≤ t) && decide (t ≤ 1099511627776) && may s L) = z) :
    Calls Tryz.prog 109 #[ct s A n c, .int .i64 t] w (CtPost z (if z = true then t else 0) (fun M => M = if z = true then wo L t 1099511627776 else []) w) := by
  have D0 := Lib.hid (duo_new w s A n c)
  have H := Lib.hid h
  have HZ := Lib.hid hz
  clear h hz
  show Calls Tryz.prog 109 #[.agg #[.int .i64 s, .slice A n c], .int .i64 t] w _
  go_enter Tryz.func109, Tryz.ntmps109
  by_cases t0 : 0 ≤ t
  · by_cases t1 : t ≤ 1099511627776
    · go_wp2_with fail
      obtain ⟨y, hy⟩ : ∃ y, may s L = y := ⟨_, rfl⟩
      have HY := Lib.hid hy
      have HZY := Lib.hid (show y = z by rw [← HZ.out, hy]; simp [t0, t1])
      clear hy
      refine (may_any s A n c L _ (H.out.on D0.out.below) y HY.out).mono ?_
      rintro e w1 ⟨rfl, k1⟩
      have D1 := Lib.hid (D0.out.on k1)
      clear k1 D0
      have c0 := D1.out.b0.c0; have c1 := D1.out.b0.c1; have d0 := D1.out.b1.c0; have d1 := D1.out.b1.c1; have f0 := D1.out.b1.f0; have f1 := D1.out.b1.f1
      have hzy := HZY.out
      subst hzy
      cases y with
      | false =>
        go_wp2
        refine res_box2 rfl (w.heap.size + 1) 0 none 0 0 rfl D1.out.none.1 rfl ?_
        exact ⟨none, 0, 0, [], rfl, rfl, D1.out.none.2.1, D1.out.none.2.2⟩
      | true =>
        have HG := Lib.hid ((may_iff s L).1 HY.out)
        go_wp2_with fail
        refine (without_any A n c L t 1099511627776 w1 (H.out.on D1.out.below) hn HG.out.rng t0 t1 (by omega)).mono ?_
        rintro e w2 ⟨A', c', rfl, hm, k2⟩
        have D2 := Lib.hid (D1.out.on k2)
        have HM := Lib.hid hm
        clear k2 hm c0 c1 d0 d1 f0 f1
        have c0 := D2.out.b0.c0; have c1 := D2.out.b0.c1; have d0 := D2.out.b1.c0; have d1 := D2.out.b1.c1; have f0 := D2.out.b1.f0; have f1 := D2.out.b1.f1
        go_wp2
        have X := D2.out.done t HM.out D1.out.size
        refine res_box2 rfl (w.heap.size + 1) t A' _ c' rfl X.1 rfl ?_
        exact ⟨A', _, c', wo L t 1099511627776, rfl, rfl, X.2.1, X.2.2⟩
    · have HF := Lib.hid (show false = z by rw [← HZ.out]; simp [t1])
      have hzy := HF.out
      subst hzy
      have d0 := D0.out.b1.c0; have d1 := D0.out.b1.c1; have f0 := D0.out.b1.f0; have f1 := D0.out.b1.f1
      go_wp2
      refine res_box2 rfl (w.heap.size + 1) 0 none 0 0 rfl D0.out.b1 rfl ?_
      exact ⟨none, 0, 0, [], rfl, rfl, mut_nil _ _, D0.out.below⟩
  · have HF := Lib.hid (show false = z by rw [← HZ.out]; simp [t0])
    have hzy := HF.out
    subst hzy
    have d0 := D0.out.b1.c0; have d1 := D0.out.b1.c1; have f0 := D0.out.b1.f0; have f1 := D0.out.b1.f1
    go_wp2
    refine res_box2 rfl (w.heap.size + 1) 0 none 0 0 rfl D0.out.b1 rfl ?_
    exact ⟨none, 0, 0, [], rfl, rfl, mut_nil _ _, D0.out.below⟩

end Go.Proofs.YtgaaieipeiekiaaGreat
