/- The plain mathematics of off.Parts: a span cut at all multiples; and a span in a variable of its own. -/
import Derived.Below
import Derived.WalkKit
import Derived.Test.YtamignakfliocaaPlain
namespace Go.Proofs.Ytamignakfliocaa
open Go.RowKit
namespace Plain

/-- The first part's length. -/
def partLen (u p l : Int) : Int := if l < u - p % u then l else u - p % u
/-- The parts of l places from p on, at most f of them. -/
def partsFrom (u : Int) : Nat → Int → Int → List (Int × Int)
  | 0, _, _ => []
  | f + 1, p, l => if 0 < l then (p, partLen u p l) :: partsFrom u f (p + partLen u p l) (l - partLen u p l) else []
def partsOf (u p l : Int) : List (Int × Int) := if spanB p l = true ∧ l ≤ 4096 ∧ 1 ≤ u then partsFrom u l.toNat p l else []
def spanCells : List (Int × Int) → List Value
  | [] => []
  | s :: r => .int .i64 s.1 :: .int .i64 s.2 :: spanCells r

theorem partLen_bounds (u p l : Int) (hu : 1 ≤ u) (hp : 0 ≤ p) (hl : 0 < l) : 1 ≤ partLen u p l ∧ partLen u p l ≤ l ∧ partLen u p l ≤ u := by
  obtain ⟨r0, r1, r2⟩ := rem_bounds p u hp hu
  unfold partLen
  split <;> omega
theorem partsFrom_zero (u : Int) (f : Nat) (p l : Int) (h : ¬ 0 < l) : partsFrom u f p l = [] := by
  cases f with
  | zero => rfl
  | succ f => rw [partsFrom, if_neg h]
theorem partsFrom_step (u : Int) (f : Nat) (p l : Int) (h : 0 < l) (hf : l.toNat ≤ f) :
    partsFrom u f p l = (p, partLen u p l) :: partsFrom u (f - 1) (p + partLen u p l) (l - partLen u p l) := by
  cases f with
  | zero => omega
  | succ f => rw [partsFrom, if_pos h]; rfl
theorem spanCells_append (a b : List (Int × Int)) : spanCells (a ++ b) = spanCells a ++ spanCells b := by
  induction a with
  | nil => rfl
  | cons s a ih => simp [spanCells, ih]
theorem spanCells_length (a : List (Int × Int)) : (spanCells a).length = a.length * 2 := by
  induction a with
  | nil => rfl
  | cons s a ih => simp [spanCells, ih]; omega
theorem spanCells_at (a : List (Int × Int)) (k : Nat) (h : k < a.length) : (spanCells a)[k * 2]? = some (.int .i64 (a.getD k (0, 0)).1) ∧ (spanCells a)[k * 2 + 1]? = some (.int .i64 (a.getD k (0, 0)).2) := by
  induction a generalizing k with
  | nil => simp at h
  | cons s a ih =>
    cases k with
    | zero => exact ⟨rfl, rfl⟩
    | succ k =>
      have := ih k (by simpa using h)
      rw [show (k + 1) * 2 = k * 2 + 2 by omega]
      exact this

end Plain

/-- A span in a variable: block b holds just its two numbers. -/
def BoxAt (w : World) (b : Nat) (t : TypeId) (p l : Int) : Prop := w.heap[b]? = some (.cells #[.int .i64 p, .int .i64 l] t (0, 0))

theorem BoxAt.one {w : World} {b : Nat} {t : TypeId} {p l : Int} (h : BoxAt w b t p l) : w.cell? ⟨b, 0, none⟩ = some (.int .i64 p) ∧ w.cell? ⟨b, 1, none⟩ = some (.int .i64 l) ∧ w.frozen? ⟨b, 0, none⟩ = false ∧ w.frozen? ⟨b, 1, none⟩ = false := by
  unfold BoxAt at h
  simp [World.cell?, World.frozen?, h]
theorem BoxAt.lt {w : World} {b : Nat} {t : TypeId} {p l : Int} (h : BoxAt w b t p l) : b < w.heap.size := by
  rcases Nat.lt_or_ge b w.heap.size with hlt | hge
  · exact hlt
  · unfold BoxAt at h; rw [Array.getElem?_eq_none hge] at h; cases h
theorem BoxAt.of_block {w w' : World} {b : Nat} {t : TypeId} {p l : Int} (h : BoxAt w b t p l) (he : w'.heap[b]? = w.heap[b]?) : BoxAt w' b t p l := by
  unfold BoxAt; rw [he]; exact h
theorem BoxAt.below {B : Nat} {w w' : World} {b : Nat} {t : TypeId} {p l : Int} (h : BoxAt w b t p l) (hb : Below B w w') (hB : b < B) : BoxAt w' b t p l := h.of_block (hb.block b hB)
theorem BoxAt.put {w : World} {b : Nat} {t : TypeId} {p l : Int} (h : BoxAt w b t p l) (x y : Int) : BoxAt ((w.setCell ⟨b, 0, none⟩ (.int .i64 x)).setCell ⟨b, 1, none⟩ (.int .i64 y)) b t x y := by
  unfold BoxAt at h ⊢
  simp [World.setCell, Array.getElem?_modify, h]
theorem BoxAt.new (w : World) (t : TypeId) (p l : Int) : BoxAt (w.alloc (.cells #[.int .i64 p, .int .i64 l] t)) w.heap.size t p l := by
  unfold BoxAt
  exact heap_alloc_new w _

end Go.Proofs.Ytamignakfliocaa
