/- The program's object and the reference's, made side by side. -/
import Derived.Test.YtemehobohgcpdaaRegionBy
import Derived.Test.YtemehobohgcpdaaWalksW
import Derived.Test.YtemehobohgcpdaaWalksS
import Derived.Test.YtemehobohgcpdaaLawPieces
namespace Go.Proofs.Ytemehobohgcpdaa
open Go.RowKit

theorem Rp.new (w : World) (K : Nat) (t : TypeId) (o : Nat) (ho : o = w.heap.size) : Rp o K ((0 : Nat) : Int) [] (w.alloc (.cells #[.int .i64 (K : Int), .int .i64 0, .slice none 0 0] t)) (fun d => d = o) := by
  subst ho
  have hb := heap_alloc_new w (.cells #[.int .i64 (K : Int), .int .i64 0, .slice none 0 0] t)
  refine ⟨rfl, fun d hd => by subst hd; simp, ?_, ?_, ⟨none, 0, 0, ?_, Buf.nil _, fun g o s he => by cases he⟩, frozen_of_row _ _ _ _ t hb, frozen_of_row _ _ _ _ t hb⟩
  · rw [cell_of_row _ _ _ _ t (0, 0) hb]; rfl
  · rw [cell_of_row _ _ _ _ t (0, 0) hb]; rfl
  · rw [cell_of_row _ _ _ _ t (0, 0) hb]; rfl
theorem Ru.new (w : World) (K : Nat) (t : TypeId) (o : Nat) (ho : o = w.heap.size) : Ru o K [] (w.alloc (.cells #[.int .i64 (K : Int), .slice none 0 0] t)) (fun d => d = o) := by
  subst ho
  have hb := heap_alloc_new w (.cells #[.int .i64 (K : Int), .slice none 0 0] t)
  refine ⟨rfl, fun d hd => by subst hd; simp, ?_, frozen_of_row _ _ _ _ t hb, none, 0, 0, ?_, Buf.nil _, fun g o s he => by cases he⟩
  · rw [cell_of_row _ _ _ _ t (0, 0) hb]; rfl
  · rw [cell_of_row _ _ _ _ t (0, 0) hb]; rfl

theorem hold1 {w w' : World} {lb p : Nat} {v : Value} (hb : lb < w.heap.size) (h1 : w.cell? ⟨lb, p, none⟩ = some v) (k : Below w.heap.size w w') : w'.cell? ⟨lb, p, none⟩ = some v ∧ Below w.heap.size w w' :=
  ⟨(k.cell (p := ⟨lb, p, none⟩) hb).trans h1, k⟩

end Go.Proofs.Ytemehobohgcpdaa
