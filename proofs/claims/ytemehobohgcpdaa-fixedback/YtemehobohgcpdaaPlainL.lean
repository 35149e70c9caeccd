/- Lines of one byte, again and again, as lists. No Go of the program. -/
import Derived.Test.YtemehobohgcpdaaPlainF
namespace Go.Proofs.Ytemehobohgcpdaa

/-- The lines, their records, how many are too long. -/
def lS (c : Int) (ks : List Nat) : List Int := ks.flatMap fun k => List.replicate k c ++ [10]
def lW (n : Nat) (c : Int) (ks : List Nat) : List Int := ks.flatMap fun k => rcd n (List.replicate k c)
def lC (n : Nat) : List Nat → Nat
  | [] => 0
  | k :: r => (if n < k then 1 else 0) + lC n r

theorem l_packs (n : Nat) (c : Int) (hc : c ≠ 10) : ∀ ks : List Nat, pOut n [] (lS c ks) = lW n c ks ∧ pLine [] (lS c ks) = [] ∧ pCut n [] (lS c ks) = lC n ks
  | [] => ⟨rfl, rfl, rfl⟩
  | k :: r => by
    have ih := l_packs n c hc r
    have e : lS c (k :: r) = List.replicate k c ++ 10 :: lS c r := by simp [lS]
    have h := p_some n (List.replicate k c) (lS c r) [] (fun z hz => by rw [List.eq_of_mem_replicate hz]; exact hc)
    rw [e, h.1, h.2.1, h.2.2, ih.1, ih.2.1, ih.2.2, List.nil_append]
    refine ⟨by simp [lW], rfl, ?_⟩
    simp [over, lC]
theorem lC_app (n : Nat) : ∀ a b : List Nat, lC n (a ++ b) = lC n a + lC n b
  | [], b => by simp [lC]
  | k :: r, b => by simp [lC, lC_app n r b]; omega
theorem lC_le (n : Nat) : ∀ a : List Nat, lC n a ≤ a.length
  | [] => by simp [lC]
  | k :: r => by have := lC_le n r; simp only [lC, List.length_cons]; split <;> omega
theorem lS_le (c : Int) : ∀ ks : List Nat, (∀ k ∈ ks, k < 100) → (lS c ks).length ≤ 100 * ks.length
  | [], _ => by simp [lS]
  | k :: r, h => by
    have := lS_le c r (fun x hx => h x (by simp [hx]))
    have := h k (by simp)
    simp [lS] at *
    omega
theorem lW_le (n : Nat) (c : Int) : ∀ ks : List Nat, (lW n c ks).length = n * ks.length
  | [] => by simp [lW]
  | k :: r => by
    have := lW_le n c r
    simp only [lW, List.flatMap_cons, List.length_append, rcd_len, List.length_cons, Nat.mul_add] at *
    omega
theorem snoc_take {ks : List Nat} {j : Nat} (h : j < ks.length) : ks.take (j + 1) = ks.take j ++ [ks.getD j 0] := by
  rw [List.take_add_one, List.getElem?_eq_getElem h, List.getD_eq_getElem?_getD, List.getElem?_eq_getElem h]; simp
theorem lS_snoc (c : Int) (ks : List Nat) (j : Nat) (h : j < ks.length) : lS c (ks.take (j + 1)) = lS c (ks.take j) ++ List.replicate (ks.getD j 0) c ++ [10] := by
  rw [snoc_take h, lS, List.flatMap_append]; simp [lS]
theorem lW_snoc (n : Nat) (c : Int) (ks : List Nat) (j : Nat) (h : j < ks.length) : lW n c (ks.take (j + 1)) = lW n c (ks.take j) ++ rcd n (List.replicate (ks.getD j 0) c) := by
  rw [snoc_take h, lW, List.flatMap_append]; simp [lW]
theorem lC_snoc (n : Nat) (ks : List Nat) (j : Nat) (h : j < ks.length) : lC n (ks.take (j + 1)) = lC n (ks.take j) + (if n < ks.getD j 0 then 1 else 0) := by
  rw [snoc_take h, lC_app]; simp [lC]
theorem lS_are {c : Int} (hc : 0 ≤ c ∧ c < 256) (ks : List Nat) : Are (lS c ks) := by
  intro z hz
  obtain ⟨k, _, hz⟩ := List.mem_flatMap.1 hz
  rcases List.mem_append.1 hz with h | h
  · rw [List.eq_of_mem_replicate h]; exact hc
  · rw [List.mem_singleton.1 h]; exact ⟨by decide, by decide⟩

/-- What stands at a place of a record of one byte's line. -/
theorem rcd_at (n k : Nat) (c : Int) (j : Nat) (hj : j < n) : (rcd n (List.replicate k c)).getD j 0 = if j < k then c else 32 := by
  rw [rcd, List.take_replicate, List.length_replicate, List.getD_eq_getElem?_getD]
  by_cases h : j < k
  · rw [List.getElem?_append_left (by simp; omega), List.getElem?_replicate, if_pos (show j < min n k by omega), if_pos h]
    rfl
  · rw [List.getElem?_append_right (by simp; omega), List.getElem?_replicate, List.length_replicate, if_pos (show j - min n k < n - k by omega), if_neg h]
    rfl
theorem rep_take (k j : Nat) (c : Int) (h : j < k) : (List.replicate k c).take (j + 1) = (List.replicate k c).take j ++ [c] := by
  have := take_snoc (zs := List.replicate k c) j (by simpa using h)
  rw [this, List.getD_eq_getElem?_getD, List.getElem?_replicate]
  simp [h]
theorem rcd_take (n k j : Nat) (c : Int) (h : j < n) : (rcd n (List.replicate k c)).take (j + 1) = (rcd n (List.replicate k c)).take j ++ [if j < k then c else 32] := by
  have := take_snoc (zs := rcd n (List.replicate k c)) j (by rw [rcd_len]; exact h)
  rw [this, rcd_at n k c j h]
theorem all_take {l : List Int} {j : Nat} (h : l.length ≤ j) : l.take (j + 1) = l.take j := by rw [List.take_of_length_le h, List.take_of_length_le (by omega)]

end Go.Proofs.Ytemehobohgcpdaa
