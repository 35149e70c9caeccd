/- A struct inside a greater one, that holds bytes of its own. No Go of the program. -/
import Derived.Test.YtghihmmapignmaaThings
namespace Go.Proofs.Ytghihmmapignmaa
open Go.RowKit

theorem off_ne {b i j : Nat} (h : i ≠ j) : (⟨b, j, none⟩ : Addr) ≠ ⟨b, i, none⟩ := fun e => by injection e with _ e; exact h e.symm

/-- A struct of a value and bytes that it alone holds, inside a greater one: cells o and p of block b; X tells the others; S are its blocks. -/
structure Fo (o p : Nat) (X : Nat → Option Value) (w : World) (b : Nat) (S : Nat → Prop) (k : Value) (zs : List Int) : Prop where
  mine : S b
  lt : ∀ d, S d → d < w.heap.size
  tells : X o = some k
  ne : o ≠ p
  rest : ∀ i, i ≠ p → w.cell? ⟨b, i, none⟩ = X i
  frees : ∀ i, w.frozen? ⟨b, i, none⟩ = false
  held : ∃ A n c, w.cell? ⟨b, p, none⟩ = some (.slice A n c) ∧ Buf w A n c zs ∧ ∀ g o s, A = some ⟨g, o, s⟩ → S g ∧ g ≠ b

section
variable {o p : Nat} {X : Nat → Option Value} {S T : Nat → Prop} {w w' : World} {b : Nat} {k : Value} {zs : List Int}
theorem Fo.size (h : Fo o p X w b S k zs) : w.cell? ⟨b, o, none⟩ = some k := (h.rest o h.ne).trans h.tells
theorem Fo.free (h : Fo o p X w b S k zs) : w.frozen? ⟨b, p, none⟩ = false := h.frees p
theorem Fo.only (h : Fo o p X w b S k zs) (hk : Only T w w') (hS : ∀ d, S d → ¬ T d) : Fo o p X w' b S k zs := by
  have hb := h.lt b h.mine
  have hn := hS b h.mine
  obtain ⟨A, n, c, h1, h2, h3⟩ := h.held
  exact ⟨h.mine, fun d hd => Nat.lt_of_lt_of_le (h.lt d hd) hk.size, h.tells, h.ne, fun i hi => (hk.cell (p := ⟨b, i, none⟩) hb hn).trans (h.rest i hi), fun i => (hk.frozen (p := ⟨b, i, none⟩) hb hn).trans (h.frees i),
    A, n, c, (hk.cell (p := ⟨b, p, none⟩) hb hn).trans h1, h2.only hk (fun g o s he => hS g (h3 g o s he).1), h3⟩
theorem Fo.on (h : Fo o p X w b S k zs) (hk : Below w.heap.size w w') : Fo o p X w' b S k zs :=
  h.only (T := fun _ => False) (Only.of_below hk) (fun _ _ h => h)
/-- The bytes stored anew. -/
theorem Fo.stored {A : Option Addr} {n c : Nat} {u : Value} (hS : S b) (hl : ∀ d, S d → d < w.heap.size) (ht : X o = some k) (hne : o ≠ p) (hr : ∀ i, i ≠ p → w.cell? ⟨b, i, none⟩ = X i) (hz : ∀ i, w.frozen? ⟨b, i, none⟩ = false) (h1 : w.cell? ⟨b, p, none⟩ = some u)
    (hb : Buf w A n c zs) (hA : ∀ g o s, A = some ⟨g, o, s⟩ → S g ∧ g ≠ b) : Fo o p X (w.setCell ⟨b, p, none⟩ (.slice A n c)) b S k zs := by
  have ho : Only (fun d => d = b) w (w.setCell ⟨b, p, none⟩ (.slice A n c)) := (Only.refl (fun d => d = b) w).setCell ⟨b, p, none⟩ (fun _ => rfl) _
  refine ⟨hS, fun d hd => Nat.lt_of_lt_of_le (hl d hd) ho.size, ht, hne, fun i hi => ?_, fun i => by simpa using hz i, A, n, c, World.cell?_setCell_same _ _ _ h1, hb.only ho (fun g o s he => (hA g o s he).2), hA⟩
  rw [World.cell?_setCell_other _ _ _ _ (off_ne (b := b) hi)]; exact hr i hi
end

end Go.Proofs.Ytghihmmapignmaa
