/- Blocks filled in between, without any Go. -/
import Derived.Test.YtigfimlpjmmpoaaSpecC
namespace Go.Proofs.Ytigfimlpjmmpoaa

theorem getD_eq {L : List Ex} {i : Nat} (h : i < L.length) : L.getD i default = L[i] := by rw [List.getD_eq_getElem?_getD, List.getElem?_eq_getElem h]; rfl
/-- m blocks from f on, holding what D holds. -/
def blk (f : Int) (m : Nat) (D : List Ex) : List Ex := (List.range m).map fun (i : Nat) => ⟨f + (i : Int), (look D (f + (i : Int))).getD nul8⟩
/-- m blocks, the first j of them with their numbers. -/
def blk0 (f : Int) (m j : Nat) : List Ex := (List.range m).map fun (i : Nat) => if i < j then ⟨f + (i : Int), nul8⟩ else ⟨0, nul8⟩
theorem blk_len (f : Int) (m : Nat) (D : List Ex) : (blk f m D).length = m := by simp [blk]
theorem blk0_len (f : Int) (m j : Nat) : (blk0 f m j).length = m := by simp [blk0]
theorem blk0_zero (f : Int) (m : Nat) : blk0 f m 0 = List.replicate m ⟨0, nul8⟩ := by
  apply List.ext_getElem?
  intro i
  by_cases h : i < m
  · simp [blk0, h]
  · rw [List.getElem?_eq_none (by simp [blk0]; omega), List.getElem?_eq_none (by simp; omega)]
theorem blk0_full (f : Int) (m : Nat) : blk0 f m m = blk f m [] := by
  apply List.ext_getElem?
  intro i
  by_cases h : i < m
  · simp [blk0, blk, h, look]
  · rw [List.getElem?_eq_none (by simp [blk0]; omega), List.getElem?_eq_none (by simp [blk]; omega)]
theorem blk0_set (f : Int) (m j : Nat) : (blk0 f m j).set j ⟨f + (j : Int), nul8⟩ = blk0 f m (j + 1) := by
  apply List.ext_getElem?
  intro i
  by_cases h : i < m
  · by_cases hij : i = j
    · subst hij
      rw [List.getElem?_set_self (by simp [blk0]; exact h)]
      simp [blk0, h]
    · rw [List.getElem?_set_ne (fun h => hij h.symm)]
      simp only [blk0, List.getElem?_map, List.getElem?_range h, Option.map_some]
      by_cases h1 : i < j
      · rw [if_pos h1, if_pos (by omega)]
      · rw [if_neg h1, if_neg (by omega)]
  · rw [List.getElem?_eq_none (by simp [blk0]; omega), List.getElem?_eq_none (by simp [blk0]; omega)]
theorem look_snoc (D : List Ex) (e : Ex) (k : Int) : look (D ++ [e]) k = (match look D k with | some x => some x | none => if e.no = k then some e.bs else none) := by
  rw [look_append]; rfl
theorem blk_set {f : Int} {m : Nat} {D : List Ex} {e : Ex} (q : Nat) (hq : q < m) (he : e.no = f + (q : Int)) (hD : ∀ x ∈ D, x.no ≠ e.no) : (blk f m D).set q e = blk f m (D ++ [e]) := by
  apply List.ext_getElem?
  intro i
  by_cases h : i < m
  · by_cases hij : i = q
    · subst hij
      rw [List.getElem?_set_self (by simp [blk]; exact h)]
      have hn : look D (f + (i : Int)) = none := look_none fun x hx => by rw [← he]; exact hD x hx
      simp only [blk, List.getElem?_map, List.getElem?_range h, Option.map_some, look_snoc, hn, he, if_true, Option.getD_some]
      cases e
      simp only at he
      rw [he]
    · rw [List.getElem?_set_ne (fun h => hij h.symm)]
      simp only [blk, List.getElem?_map, List.getElem?_range h, Option.map_some, look_snoc]
      congr 2
      cases hl : look D (f + (i : Int)) with
      | some x => rfl
      | none => rw [if_neg (by omega)]
  · rw [List.getElem?_eq_none (by simp [blk]; omega), List.getElem?_eq_none (by simp [blk]; omega)]
theorem look_map_range (f : Int) (g : Int → List Int) (m : Nat) (k : Int) : look ((List.range m).map fun (i : Nat) => ⟨f + (i : Int), g (f + (i : Int))⟩) k = if f ≤ k ∧ k < f + (m : Int) then some (g k) else none := by
  induction m with
  | zero => rw [if_neg (by omega)]; rfl
  | succ m ih =>
    rw [List.range_succ, List.map_append, look_append, ih]
    by_cases h : f ≤ k ∧ k < f + (m : Int)
    · rw [if_pos h, if_pos (by omega)]
    · rw [if_neg h]
      show look [⟨f + (m : Int), g (f + (m : Int))⟩] k = _
      rw [look]
      by_cases hk : f + (m : Int) = k
      · rw [if_pos hk, if_pos (by omega), hk]
      · rw [if_neg hk, if_neg (by omega)]; rfl
theorem blk_look (f : Int) (m : Nat) (D : List Ex) (k : Int) : look (blk f m D) k = if f ≤ k ∧ k < f + (m : Int) then some ((look D k).getD nul8) else none :=
  look_map_range f (fun k => (look D k).getD nul8) m k
theorem blk_no {f : Int} {m : Nat} {D : List Ex} {x : Ex} (h : x ∈ blk f m D) : f ≤ x.no ∧ x.no < f + (m : Int) := by
  simp [blk] at h
  obtain ⟨i, hi, rfl⟩ := h
  simp only
  omega
theorem up_blk (f : Int) (m : Nat) (D : List Ex) : Up (blk f m D) := by
  unfold blk Up
  rw [List.pairwise_map]
  exact List.pairwise_lt_range.imp (fun h => by simp only; omega)
theorem idx_drop {L : List Ex} (hu : Up L) {f g : Int} (h : f ≤ g) : idx (L.drop (idx L f)) g = idx L g - idx L f := by
  have hm := idx_mono hu h
  have hl := idx_le L g
  refine idx_unique (by simp; omega) (fun j hj => ?_) (fun hj => ?_)
  · have := idx_lt L g (idx L f + j) (by omega)
    simpa [List.getD_eq_getElem?_getD] using this
  · rw [List.length_drop] at hj
    have := idx_ge L g hu (idx L f + (idx L g - idx L f)) (by omega) (by omega)
    simpa [List.getD_eq_getElem?_getD] using this
/-- The blocks from f to l. -/
def seg (L : List Ex) (f l : Int) : List Ex := (L.drop (idx L f)).take (idx L (l + 1) - idx L f)
theorem seg_look {L : List Ex} (hu : Up L) {f l : Int} (h : f ≤ l) (k : Int) : look (seg L f l) k = if f ≤ k ∧ k ≤ l then look L k else none := by
  have hx := idx_drop hu (show f ≤ l + 1 by omega)
  unfold seg
  rw [← hx, look_take (up_drop hu _), look_drop hu]
  by_cases h1 : k < f
  · rw [if_pos (by omega), if_pos h1, if_neg (by omega)]
  · by_cases h2 : k ≤ l
    · rw [if_pos (by omega), if_neg h1, if_pos (by omega)]
    · rw [if_neg (by omega), if_neg (by omega)]
theorem seg_no {L : List Ex} (hu : Up L) {f l : Int} (h : f ≤ l) {x : Ex} (hx : x ∈ seg L f l) : f ≤ x.no ∧ x.no ≤ l := by
  have hi := idx_drop hu (show f ≤ l + 1 by omega)
  unfold seg at hx
  rw [← hi] at hx
  have h1 := take_no hx
  have h2 := drop_no hu (List.mem_of_mem_take hx)
  omega
theorem up_seg {L : List Ex} (hu : Up L) (f l : Int) : Up (seg L f l) := up_take (up_drop hu _) _
/-- All of it. -/
def fil (L : List Ex) (f l : Int) (m : Nat) : List Ex := L.take (idx L f) ++ blk f m (seg L f l) ++ L.drop (idx L (l + 1))
theorem fil_look {L : List Ex} (hu : Up L) {f l : Int} {m : Nat} (hm : l = f + (m : Int) - 1) (h : f ≤ l) (k : Int) : look (fil L f l m) k = flook L f l k := by
  unfold fil flook
  rw [look_append, look_append, look_take hu, blk_look, look_drop hu, seg_look hu h]
  by_cases h1 : k < f
  · rw [if_pos h1, if_neg (by omega), if_pos (by omega), if_neg (by omega)]
    cases look L k <;> rfl
  · rw [if_neg h1]
    by_cases h2 : k ≤ l
    · rw [if_pos (by omega), if_pos (by omega), if_pos (by omega)]
      first | done | (rw [if_pos (show f ≤ k ∧ k ≤ l by omega)])
    · rw [if_neg (by omega), if_neg (by omega), if_neg (by omega)]
      first | done | (rw [if_neg (show ¬ (f ≤ k ∧ k ≤ l) by omega)])
theorem up_fil {L : List Ex} (hu : Up L) {f l : Int} {m : Nat} (hm : l = f + (m : Int) - 1) (h : f ≤ l) : Up (fil L f l m) := by
  unfold fil Up
  rw [List.pairwise_append, List.pairwise_append]
  refine ⟨⟨up_take hu _, up_blk f m _, fun a ha b hb => ?_⟩, up_drop hu _, fun a ha b hb => ?_⟩
  · have := take_no ha; have := blk_no hb; omega
  · have h2 := drop_no hu hb
    rcases List.mem_append.1 ha with ha | ha
    · have h1 := take_no ha; omega
    · have := blk_no ha; omega
end Go.Proofs.Ytigfimlpjmmpoaa
