/- Bytes written block by block, without any Go. -/
import Derived.Test.YtigfimlpjmmpoaaSpecD
namespace Go.Proofs.Ytigfimlpjmmpoaa

theorem ext8 {a b : List Int} (ha : a.length = 8) (hb : b.length = 8) (h : ∀ i, i < 8 → a.getD i 0 = b.getD i 0) : a = b := by
  apply List.ext_getElem?
  intro i
  by_cases hi : i < 8
  · have := h i hi
    rw [List.getD_eq_getElem?_getD, List.getD_eq_getElem?_getD, List.getElem?_eq_getElem (by omega), List.getElem?_eq_getElem (by omega)] at this
    rw [List.getElem?_eq_getElem (by omega), List.getElem?_eq_getElem (by omega)]
    simpa using this
  · rw [List.getElem?_eq_none (by omega), List.getElem?_eq_none (by omega)]
theorem wbytes_len (L : List Ex) (p : Int) (b : List Int) (k : Int) : (wbytes L p b k).length = 8 := by simp [wbytes]
theorem take_get (b : List Int) (d q : Nat) (h : q < d) : (b.take d).getD q 0 = b.getD q 0 := by
  rw [List.getD_eq_getElem?_getD, List.getD_eq_getElem?_getD, List.getElem?_take_of_lt h]
/-- b's first d bytes stand from p on; all its blocks are there. -/
def glook (L : List Ex) (p : Int) (b : List Int) (d : Nat) (k : Int) : Option (List Int) := if p / 8 ≤ k ∧ k ≤ (p + (b.length : Int) - 1) / 8 then some (wbytes L p (b.take d) k) else look L k
theorem glook_zero {L : List Ex} (hok : ∀ e ∈ L, e.ok) (p : Int) (b : List Int) (k : Int) : glook L p b 0 k = flook L (p / 8) ((p + (b.length : Int) - 1) / 8) k := by
  unfold glook flook
  by_cases h : p / 8 ≤ k ∧ k ≤ (p + (b.length : Int) - 1) / 8
  · rw [if_pos h, if_pos h]
    congr 1
    refine ext8 (wbytes_len _ _ _ _) ?_ (fun i hi => ?_)
    · cases hl : look L k with
      | none => rfl
      | some bs => exact (hok _ (look_some hl)).1
    · rw [wbytes_get _ _ _ _ _ hi, if_neg (by simp)]
      have h1 : (k * 8 + (i : Int)) / 8 = k := by omega
      have h2 : ((k * 8 + (i : Int)) % 8).toNat = i := by omega
      rw [at_, h1, h2]
      cases look L k with
      | none => exact (nul8_get i).symm
      | some bs => rfl
  · rw [if_neg h, if_neg h]
theorem glook_full (L : List Ex) (p : Int) (b : List Int) (k : Int) : glook L p b b.length k = wlook L p b k := by
  unfold glook wlook; rw [List.take_length]
theorem wbytes_other (L : List Ex) (p : Int) (b : List Int) (d t : Nat) (k k' : Int) (hdt : d + t ≤ b.length) (hk : (p + (d : Int)) / 8 = k) (ht : (p + (d : Int)) % 8 + (t : Int) ≤ 8) (hne : k' ≠ k) : wbytes L p (b.take (d + t)) k' = wbytes L p (b.take d) k' := by
  refine ext8 (wbytes_len _ _ _ _) (wbytes_len _ _ _ _) (fun i hi => ?_)
  rw [wbytes_get _ _ _ _ _ hi, wbytes_get _ _ _ _ _ hi]
  simp only [List.length_take, Nat.min_eq_left hdt, Nat.min_eq_left (show d ≤ b.length by omega)]
  by_cases h1 : p ≤ k' * 8 + (i : Int) ∧ k' * 8 + (i : Int) < p + (d : Int)
  · rw [if_pos (by omega), if_pos h1, take_get _ _ _ (by omega), take_get _ _ _ (by omega)]
  · rw [if_neg (by omega), if_neg h1]
theorem wbytes_same (L : List Ex) (p : Int) (b : List Int) (d t r : Nat) (k : Int) (hdt : d + t ≤ b.length) (hk : (p + (d : Int)) / 8 = k) (hr : (p + (d : Int)) % 8 = (r : Int)) (ht : r + t ≤ 8) : splice (wbytes L p (b.take d) k) r ((b.drop d).take t) = wbytes L p (b.take (d + t)) k := by
  have hl : ((b.drop d).take t).length = t := by simp; omega
  refine ext8 (by rw [length_splice _ _ _ (by rw [hl, wbytes_len]; omega), wbytes_len]) (wbytes_len _ _ _ _) (fun i hi => ?_)
  rw [wbytes_get _ _ _ _ _ hi]
  simp only [List.length_take, Nat.min_eq_left hdt]
  unfold splice
  rw [List.getD_eq_getElem?_getD]
  by_cases i1 : i < r
  · rw [List.getElem?_append_left (by rw [List.length_take, wbytes_len]; omega), List.getElem?_take_of_lt i1, ← List.getD_eq_getElem?_getD, wbytes_get _ _ _ _ _ hi]
    simp only [List.length_take, Nat.min_eq_left (show d ≤ b.length by omega)]
    by_cases h1 : p ≤ k * 8 + (i : Int) ∧ k * 8 + (i : Int) < p + (d : Int)
    · rw [if_pos h1, if_pos (by omega), take_get _ _ _ (by omega), take_get _ _ _ (by omega)]
    · rw [if_neg h1, if_neg (by omega)]
  · by_cases i2 : i < r + t
    · rw [if_pos (by omega), List.getElem?_append_right (by rw [List.length_take, wbytes_len]; omega), List.getElem?_append_left (by rw [hl, List.length_take, wbytes_len]; omega), List.length_take, wbytes_len, Nat.min_eq_left (by omega), List.getElem?_take_of_lt (by omega), List.getElem?_drop, take_get _ _ _ (by omega), List.getD_eq_getElem?_getD]
      congr 2
      omega
    · rw [List.getElem?_append_right (by rw [List.length_take, wbytes_len]; omega), List.getElem?_append_right (by rw [hl, List.length_take, wbytes_len]; omega), List.getElem?_drop, hl, List.length_take, wbytes_len, Nat.min_eq_left (by omega), show r + t + (i - r - t) = i by omega, ← List.getD_eq_getElem?_getD, wbytes_get _ _ _ _ _ hi]
      simp only [List.length_take, Nat.min_eq_left (show d ≤ b.length by omega)]
      rw [if_neg (by omega)]
      rw [if_neg (by omega)]
theorem look_set {M : List Ex} (hu : Up M) (j : Nat) (e : Ex) (hj : j < M.length) (hn : (M.getD j default).no = e.no) (k : Int) : look (M.set j e) k = if e.no = k then some e.bs else look M k := by
  induction M generalizing j with
  | nil => simp at hj
  | cons a M ih =>
    cases j with
    | zero =>
      have h0 : a.no = e.no := by simpa using hn
      rw [List.set_cons_zero, look, look, h0]
      by_cases hk : e.no = k
      · rw [if_pos hk, if_pos hk]
      · rw [if_neg hk, if_neg hk, if_neg hk]
    | succ j =>
      have hn' : (M.getD j default).no = e.no := by simpa using hn
      have hj' : j < M.length := by simpa using hj
      have hlt := up_head hu (M.getD j default) (by rw [getD_eq hj']; exact List.getElem_mem hj')
      rw [List.set_cons_succ, look, look, ih (up_tail hu) j hj' hn']
      by_cases hk : e.no = k
      · rw [if_neg (by omega), if_pos hk, if_pos hk]
      · rw [if_neg hk, if_neg hk]
theorem set_nos (M : List Ex) (j : Nat) (e : Ex) (hn : (M.getD j default).no = e.no) : (M.set j e).map (·.no) = M.map (·.no) := by
  apply List.ext_getElem?
  intro i
  rw [List.map_set]
  by_cases hij : i = j
  · subst hij
    by_cases hi : i < M.length
    · rw [List.getElem?_set_self (by simpa using hi), List.getElem?_map, List.getElem?_eq_getElem hi, Option.map_some, ← hn, getD_eq hi]
    · rw [List.getElem?_eq_none (by simp; omega), List.getElem?_eq_none (by simp; omega)]
  · rw [List.getElem?_set_ne (fun h => hij h.symm)]
theorem up_set {M : List Ex} (hu : Up M) (j : Nat) (e : Ex) (hn : (M.getD j default).no = e.no) : Up (M.set j e) := by
  unfold Up at *
  rw [← List.pairwise_map (f := fun (e : Ex) => e.no) (R := fun a b => a < b)] at hu ⊢
  rw [set_nos M j e hn]
  exact hu
theorem idx_nos : ∀ (L M : List Ex) (k : Int), L.map (·.no) = M.map (·.no) → idx L k = idx M k
  | [], [], _, _ => rfl
  | [], _ :: _, _, h => by cases h
  | _ :: _, [], _, h => by cases h
  | a :: L, b :: M, k, h => by
    simp only [List.map_cons, List.cons.injEq] at h
    rw [idx, idx, h.1, idx_nos L M k h.2]
theorem idx_succ {M : List Ex} (hu : Up M) {k : Int} (h : look M k ≠ none) : idx M (k + 1) = idx M k + 1 ∧ idx M k < M.length ∧ (M.getD (idx M k) default).no = k := by
  have h1 := look_idx hu k
  by_cases hc : idx M k < M.length ∧ (M.getD (idx M k) default).no = k
  · refine ⟨idx_unique (by omega) (fun j hj => ?_) (fun hj => ?_), hc⟩
    · by_cases hjk : j = idx M k
      · rw [hjk, hc.2]; omega
      · have := idx_lt M k j (by omega); omega
    · have := up_lt hu (idx M k) (idx M k + 1) (by omega) hj; omega
  · rw [if_neg hc] at h1; exact absurd h1 h
theorem run_pos {M : List Ex} (hu : Up M) {f : Int} {m : Nat} (h : ∀ i : Nat, i < m → look M (f + (i : Int)) ≠ none) (i : Nat) (hi : i < m) : idx M f + i < M.length ∧ (M.getD (idx M f + i) default).no = f + (i : Int) := by
  have key : ∀ i : Nat, i < m → idx M (f + (i : Int)) = idx M f + i := by
    intro i
    induction i with
    | zero => intro _; simp
    | succ i ih =>
      intro hi
      have h1 := (idx_succ hu (h i (by omega))).1
      rw [show f + ((i + 1 : Nat) : Int) = f + (i : Int) + 1 by omega, h1, ih (by omega)]
      omega
  have h2 := idx_succ hu (h i hi)
  rw [key i hi] at h2
  exact ⟨h2.2.1, h2.2.2⟩
end Go.Proofs.Ytigfimlpjmmpoaa
