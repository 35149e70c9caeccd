/- A text of parts is the product of its numbers and suffixes: the plain mathematics. -/
import Derived.Test.YtheokjjkjigcfaaPlainB
namespace Go.Proofs.Ytheokjjkjigcfaa
namespace Plain

def sufL : List (List UInt8) := [[], [99], [119], [98], [107, 66], [107], [75], [77, 66], [77], [71, 66], [71]]
def sufN : List Nat := [1, 1, 2, 512, 1000, 1024, 1024, 1000000, 1048576, 1000000000, 1073741824]
theorem suf_unit : ∀ k, k < 11 → unitS (sufL.getD k []) = some (sufN.getD k 0) := by decide +kernel
theorem suf_dec : ∀ k, k < 11 → (sufL.getD k []).takeWhile isDec = [] ∧ (sufL.getD k []).dropWhile isDec = sufL.getD k [] := by decide +kernel
theorem suf_noX : ∀ k, k < 11 → ∀ c ∈ sufL.getD k [], c ≠ 120 := by decide +kernel
theorem suf_len : ∀ k, k < 11 → (sufL.getD k []).length ≤ 2 := by decide +kernel
theorem suf_le : ∀ k, k < 11 → 1 ≤ sufN.getD k 0 ∧ sufN.getD k 0 ≤ 1073741824 := by decide +kernel

theorem mul_two (x t : Nat) (hx : x ≤ 65535) (ht : t ≤ 1073741824) : mulS [(x : Int), (t : Int)] = some ((x * t : Nat) : Int) ∧ x * t ≤ 70367670435840 := by
  have h : x * t ≤ 65535 * 1073741824 := Nat.mul_le_mul hx ht
  refine ⟨?_, by omega⟩
  rw [mulS_is, if_pos]
  · simp [prodL]
  · refine ⟨?_, ?_⟩
    · simp only [allMay, Bool.and_true, Bool.and_eq_true, may_iff]; omega
    · have : prodL [(x : Int), (t : Int)] = ((x * t : Nat) : Int) := by simp [prodL]
      rw [this]; omega
def item (x k : Nat) : List UInt8 := digits 10 1 x ++ sufL.getD k []
theorem item_part (x k : Nat) (hx : x ≤ 65535) (hk : k < 11) : partS (item x k) = some ((x * sufN.getD k 0 : Nat) : Int) := by
  have hl := digits_least 10 1 x (by omega)
  have hl2 := digits_len 10 1 5 x (by omega) (by omega) (by omega)
  have hr := digits_read 10 1 x (by omega) (by omega) (by omega)
  have hd := digits_dec 1 x
  obtain ⟨s1, s2⟩ := suf_dec k hk
  rw [partS, item, List.takeWhile_append_of_pos hd, List.dropWhile_append_of_pos hd, s1, s2, List.append_nil, readS_of hl (by omega) hr, if_pos (by omega), suf_unit k hk, two?]
  exact (mul_two x _ hx (suf_le k hk).2).1
theorem item_noX (x k : Nat) (hk : k < 11) : ∀ c ∈ item x k, c ≠ 120 := by
  intro c hc
  rcases List.mem_append.1 hc with hc | hc
  · exact dec_ne_x (digits_dec 1 x c hc)
  · exact suf_noX k hk c hc
theorem item_len (x k : Nat) (hx : x ≤ 65535) (hk : k < 11) : (item x k).length ≤ 7 := by
  have hl2 := digits_len 10 1 5 x (by omega) (by omega) (by omega)
  have := suf_len k hk
  rw [item, List.length_append]; omega

def then? (b : List UInt8) : Option (List Int) → Option (List Int)
  | some qs => getGo qs [] b
  | none => none
theorem getGo_x (a b : List UInt8) : ∀ ps cur, getGo ps cur (a ++ 120 :: b) = then? b (getGo ps cur a) := by
  induction a with
  | nil =>
    intro ps cur
    rw [List.nil_append, getGo_nil, getGo, if_pos rfl]
    cases partS cur <;> rfl
  | cons c a ih =>
    intro ps cur
    rw [List.cons_append, getGo, getGo]
    by_cases hc : c = 120
    · rw [if_pos hc, if_pos hc]
      cases partS cur with
      | none => rfl
      | some p => exact ih _ _
    · rw [if_neg hc, if_neg hc]
      exact ih _ _

/-- What the loop has made: the text's parts come to the same product as the numbers. -/
def FacAt (i : Nat) (l : List UInt8) (fs : List Int) : Prop :=
  (i = 0 ∧ l = [] ∧ fs = []) ∨ (0 < i ∧ ∃ ps, getGo [] [] l = some ps ∧ allMay ps = true ∧ allMay fs = true ∧ prodL ps = prodL fs)
theorem FacAt.first {l : List UInt8} {fs : List Int} (h : FacAt 0 l fs) (x k : Nat) (hx : x ≤ 65535) (hk : k < 11) : FacAt 1 (l ++ item x k) (fs ++ [(x : Int), (sufN.getD k 0 : Nat)]) := by
  rcases h with ⟨_, rfl, rfl⟩ | ⟨h, _⟩
  · refine .inr ⟨by omega, [((x * sufN.getD k 0 : Nat) : Int)], ?_, ?_, ?_, ?_⟩
    · rw [List.nil_append, getGo_noX _ _ _ (item_noX x k hk), List.nil_append, item_part x k hx hk]; rfl
    · have := (mul_two x (sufN.getD k 0) hx (suf_le k hk).2).2
      simp only [allMay, Bool.and_true, may_iff]; omega
    · have := (suf_le k hk).2
      simp only [List.nil_append, allMay, Bool.and_true, Bool.and_eq_true, may_iff]; omega
    · simp [prodL]
  · omega
theorem FacAt.next {i : Nat} {l : List UInt8} {fs : List Int} (h : FacAt i l fs) (hi : 0 < i) (x k : Nat) (hx : x ≤ 65535) (hk : k < 11) : FacAt (i + 1) (l ++ 120 :: item x k) (fs ++ [(x : Int), (sufN.getD k 0 : Nat)]) := by
  rcases h with ⟨h, _⟩ | ⟨_, ps, h1, h2, h3, h4⟩
  · omega
  · refine .inr ⟨by omega, ps ++ [((x * sufN.getD k 0 : Nat) : Int)], ?_, ?_, ?_, ?_⟩
    · rw [getGo_x, h1, then?, getGo_noX _ _ _ (item_noX x k hk), List.nil_append, item_part x k hx hk]; rfl
    · have := (mul_two x (sufN.getD k 0) hx (suf_le k hk).2).2
      rw [allMay_append, h2]
      simp only [allMay, Bool.and_true, Bool.true_and, may_iff]; omega
    · have := (suf_le k hk).2
      rw [allMay_append, h3]
      simp only [allMay, Bool.and_true, Bool.true_and, Bool.and_eq_true, may_iff]; omega
    · rw [prodL_append, prodL_append, h4]
      simp [prodL]
theorem FacAt.ends {i : Nat} {l : List UInt8} {fs : List Int} (h : FacAt i l fs) (hi : 0 < i) : getS l = mulS fs := by
  rcases h with ⟨h, _⟩ | ⟨_, ps, h1, h2, h3, h4⟩
  · omega
  · rw [getS, h1, prod?, mulS_is, mulS_is, h2, h3, h4]

end Plain
end Go.Proofs.Ytheokjjkjigcfaa
