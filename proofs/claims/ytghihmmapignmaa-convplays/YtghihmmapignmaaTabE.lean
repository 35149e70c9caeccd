/- Contract of whole, for any rows that fit. -/
import Derived.Test.YtghihmmapignmaaTabD
import Derived.WalkKit
import Derived.WalkSpells
import Derived.WalkLawsBesides
import Derived.Lib.Hide
namespace Go.Proofs.Ytghihmmapignmaa
open Go.RowKit

theorem len_yesL (t : List Bool) (f : Nat) : ∀ n, (yesL t f n).length = t.length
  | 0 => rfl
  | n + 1 => by rw [yesL, List.length_set]; exact len_yesL t f n
theorem len_fillTo (t : List Int) (g k : List Bool) : ∀ n, (fillTo t g k n).length = t.length
  | 0 => rfl
  | n + 1 => by
    rw [fillTo]
    split
    · exact len_fillTo t g k n
    · rw [List.length_set]; exact len_fillTo t g k n
/-- What the first free place is. -/
theorem skip_is (k : List Bool) : ∀ f n, skip k f n < n + f → n ≤ skip k f n ∧ (∀ x, n ≤ x → x < skip k f n → k.getD x false = true) ∧ k.getD (skip k f n) false = false
  | 0, n, h => by simp [skip] at h
  | f + 1, n, h => by
    rw [skip] at h ⊢
    by_cases hk : k.getD n false = true
    · rw [if_pos hk] at h ⊢
      obtain ⟨h1, h2, h3⟩ := skip_is k f (n + 1) (by omega)
      refine ⟨by omega, fun x hx hl => ?_, h3⟩
      by_cases e : x = n
      · rw [e]; exact hk
      · exact h2 x (by omega) hl
    · rw [if_neg hk]
      exact ⟨Nat.le_refl _, fun x hx hl => absurd hx (by omega), by simpa using hk⟩
theorem skip_le (k : List Bool) : ∀ f n, n ≤ skip k f n
  | 0, n => Nat.le_refl _
  | f + 1, n => by
    rw [skip]
    split
    · have := skip_le k f (n + 1); omega
    · exact Nat.le_refl _

def Full (s : St) : Prop := s.t.length = 256 ∧ s.g.length = 256 ∧ s.k.length = 256
theorem full0 : Full st0 := ⟨len_zeros, len_nos, len_nos⟩
theorem Full.row {s : St} (h : Full s) (r : Nat × Nat × Nat) : Full (stRow s r) := ⟨(len_layL _ _ _ _).trans h.1, (len_yesL _ _ _).trans h.2.1, (len_yesL _ _ _).trans h.2.2⟩

/-- The four variables of whole. -/
structure Wh (W w : World) (b4 b5 b6 b7 : Nat) (s : St) : Prop where
  below : Below W.heap.size W w
  r4 : Row w b4 50 (cs zeros)
  r5 : Row w b5 50 (cs s.t)
  r6 : Row w b6 88 (bc s.g)
  r7 : Row w b7 88 (bc s.k)

theorem Wh.on {W w w' : World} {b4 b5 b6 b7 : Nat} {s : St} (h : Wh W w b4 b5 b6 b7 s) (k : Below w.heap.size w w') : Wh W w' b4 b5 b6 b7 s :=
  ⟨h.below.trans (k.mono h.below.size), h.r4.on k, h.r5.on k, h.r6.on k, h.r7.on k⟩

theorem rowsC_at (L : List (Nat × Nat × Nat)) : ∀ j, j < L.length → (rowsC L)[j * 3]? = some (.int .u8 (L.getD j (0, 0, 0)).1) ∧ (rowsC L)[j * 3 + 1]? = some (.int .u8 (L.getD j (0, 0, 0)).2.1) ∧ (rowsC L)[j * 3 + 2]? = some (.int .i64 (L.getD j (0, 0, 0)).2.2) := by
  induction L with
  | nil => intro j hj; simp at hj
  | cons r L ih =>
    intro j hj
    cases j with
    | zero => simp [rowsC]
    | succ j =>
      have := ih j (by simpa using hj)
      simp only [rowsC, List.flatMap_cons, List.getElem?_toArray, List.getD_cons_succ] at this ⊢
      refine ⟨?_, ?_, ?_⟩
      · rw [List.getElem?_append_right (by simp; omega), ← this.1]; congr 1; simp; omega
      · rw [List.getElem?_append_right (by simp; omega), ← this.2.1]; congr 1; simp; omega
      · rw [List.getElem?_append_right (by simp; omega), ← this.2.2]; congr 1; simp; omega

def RowsPost (rows : List (Nat × Nat × Nat)) (w : World) (e : Ending) (w' : World) : Prop := ∃ b, e = .returned (.slice (some ⟨b, 0, none⟩) 44 44) ∧ Row w' b 87 (rowsC rows) ∧ w.heap.size ≤ b ∧ Below w.heap.size w w'

end Go.Proofs.Ytghihmmapignmaa
