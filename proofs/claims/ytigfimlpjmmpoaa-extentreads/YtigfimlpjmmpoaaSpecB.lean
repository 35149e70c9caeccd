/- Data and holes, without any Go. -/
import Derived.Test.YtigfimlpjmmpoaaSpec
namespace Go.Proofs.Ytigfimlpjmmpoaa

def dat (s : Int) (L : List Ex) (p : Int) : Option Int :=
  if may s L = true ∧ 0 ≤ p ∧ idx L (p / 8) < L.length ∧ max p ((L.getD (idx L (p / 8)) default).no * 8) < s then some (max p ((L.getD (idx L (p / 8)) default).no * 8)) else none
/-- The first block number from k on that is not there. -/
def gap : List Ex → Int → Int
  | [], k => k
  | e :: r, k => if e.no < k then gap r k else if e.no = k then gap r (k + 1) else k
def hol (s : Int) (L : List Ex) (p : Int) : Option Int := if may s L = true ∧ 0 ≤ p ∧ p < s then some (min (max p (gap L (p / 8) * 8)) s) else none

theorem gap_ge : ∀ (L : List Ex) (k : Int), k ≤ gap L k
  | [], k => Int.le_refl _
  | e :: r, k => by
    rw [gap]
    have h1 := gap_ge r k
    have h2 := gap_ge r (k + 1)
    split
    · exact h1
    · split <;> omega
theorem gap_idx (L : List Ex) (k : Int) : gap L k = gap (L.drop (idx L k)) k := by
  induction L with
  | nil => rfl
  | cons e r ih =>
    rw [idx]
    by_cases h : e.no < k
    · rw [if_pos h, List.drop_succ_cons, gap, if_pos h, ih]
    · rw [if_neg h, List.drop_zero]
theorem gap_end (L : List Ex) (i : Nat) (k : Int) (h : L.length ≤ i) : gap (L.drop i) k = k := by rw [List.drop_of_length_le h]; rfl
theorem gap_step (L : List Ex) (i : Nat) (hi : i < L.length) (k : Int) (hk : (L.getD i default).no = k) : gap (L.drop i) k = gap (L.drop (i + 1)) (k + 1) := by
  rw [List.getD_eq_getElem?_getD, List.getElem?_eq_getElem hi, Option.getD_some] at hk
  rw [List.drop_eq_getElem_cons hi, gap, hk, if_neg (by omega), if_pos rfl]
theorem gap_stop (L : List Ex) (i : Nat) (hi : i < L.length) (k : Int) (hk : k < (L.getD i default).no) : gap (L.drop i) k = k := by
  rw [List.getD_eq_getElem?_getD, List.getElem?_eq_getElem hi, Option.getD_some] at hk
  rw [List.drop_eq_getElem_cons hi, gap, if_neg (by omega), if_neg (by omega)]
theorem gap_none {L : List Ex} (hu : Up L) {k : Int} (h : look L k = none) : gap L k = k := by
  induction L with
  | nil => rfl
  | cons e r ih =>
    rw [look] at h
    split at h
    · cases h
    · rename_i hne
      rw [gap]
      by_cases hlt : e.no < k
      · rw [if_pos hlt]; exact ih (up_tail hu) h
      · rw [if_neg hlt, if_neg hne]
theorem gap_some {L : List Ex} (hu : Up L) {k : Int} {bs : List Int} (h : look L k = some bs) : gap L k = gap L (k + 1) := by
  induction L with
  | nil => cases h
  | cons e r ih =>
    rw [look] at h
    split at h
    · rename_i he
      rw [gap, gap, if_neg (by omega), if_pos he, if_pos (by omega)]
    · rename_i hne
      have hm := look_some h
      have hlt := up_head hu _ hm
      simp only at hlt
      rw [gap, gap, if_pos hlt, if_pos (by omega)]
      exact ih (up_tail hu) h
/-- From the hole on: what lies between is there. -/
theorem gap_between {L : List Ex} (hu : Up L) : ∀ (m : Nat) (k : Int), (gap L k - k).toNat = m → look L (gap L k) = none ∧ ∀ j, k ≤ j → j < gap L k → look L j ≠ none := by
  intro m
  induction m with
  | zero =>
    intro k hm
    have h1 := gap_ge L k
    cases hl : look L k with
    | none => rw [gap_none hu hl]; exact ⟨hl, fun j h1 h2 => by omega⟩
    | some bs => have h2 := gap_some hu hl; have h3 := gap_ge L (k + 1); omega
  | succ m ih =>
    intro k hm
    have h1 := gap_ge L k
    cases hl : look L k with
    | none => rw [gap_none hu hl]; exact ⟨hl, fun j h1 h2 => by omega⟩
    | some bs =>
      have h2 := gap_some hu hl
      have h3 := gap_ge L (k + 1)
      have := ih (k + 1) (by omega)
      rw [h2]
      refine ⟨this.1, fun j hj1 hj2 => ?_⟩
      by_cases hjk : j = k
      · subst hjk; rw [hl]; simp
      · exact this.2 j (by omega) hj2
theorem gap_le {L : List Ex} (hr : ∀ e ∈ L, e.no < 137438953472) : ∀ (k : Int), k ≤ 137438953472 → gap L k ≤ 137438953472 := by
  induction L with
  | nil => intro k h; exact h
  | cons e r ih =>
    intro k h
    have ihr := ih (fun x hx => hr x (by simp [hx]))
    have he := hr e (by simp)
    rw [gap]
    split
    · exact ihr k h
    · split
      · exact ihr _ (by omega)
      · exact h

/-- Which block data is found in, place by place. -/
theorem dat_first {L : List Ex} (hu : Up L) (s p : Int) (i : Nat) (hi : i < L.length) (hb : ∀ j, j < i → ¬ (max ((L.getD j default).no * 8) p < ((L.getD j default).no + 1) * 8 ∧ max ((L.getD j default).no * 8) p < s)) (h : max ((L.getD i default).no * 8) p < ((L.getD i default).no + 1) * 8 ∧ max ((L.getD i default).no * 8) p < s) :
    idx L (p / 8) = i := by
  refine idx_unique (by omega) (fun j hj => ?_) (fun _ => by omega)
  have h1 := hb j hj
  have h2 := up_lt hu j i hj hi
  omega
theorem dat_none {L : List Ex} (hu : Up L) (s p : Int) (hb : ∀ j, j < L.length → ¬ (max ((L.getD j default).no * 8) p < ((L.getD j default).no + 1) * 8 ∧ max ((L.getD j default).no * 8) p < s)) : ¬ (idx L (p / 8) < L.length ∧ max p ((L.getD (idx L (p / 8)) default).no * 8) < s) := by
  rintro ⟨h1, h2⟩
  have h3 := idx_ge L (p / 8) hu _ (Nat.le_refl _) h1
  have := hb _ h1
  omega

end Go.Proofs.Ytigfimlpjmmpoaa
