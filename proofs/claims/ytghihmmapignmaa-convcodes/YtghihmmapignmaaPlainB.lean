/- Lines that come back from their records, as lists; texts as bytes. No Go of the program. -/
import Derived.Test.YtghihmmapignmaaPlainF
import Derived.WalkKit
namespace Go.Proofs.Ytghihmmapignmaa

/-- A line that comes back. -/
structure Fine (n : Nat) (t : List Int) : Prop where
  len : t.length ≤ n
  no : ∀ z ∈ t, z ≠ 10
  last : 0 < t.length → ¬ t.getD (t.length - 1) 0 = 32

def bS (ls : List (List Int)) : List Int := ls.flatMap fun t => t ++ [10]
def bR (n : Nat) (ls : List (List Int)) : List Int := ls.flatMap fun t => rcd n t

theorem b_packs (n : Nat) : ∀ ls : List (List Int), (∀ t ∈ ls, Fine n t) → pOut n [] (bS ls) = bR n ls ∧ pLine [] (bS ls) = [] ∧ pCut n [] (bS ls) = 0
  | [], _ => ⟨rfl, rfl, rfl⟩
  | t :: r, hf => by
    have ih := b_packs n r (fun x hx => hf x (by simp [hx]))
    have ht := hf t (by simp)
    have e : bS (t :: r) = t ++ 10 :: bS r := by simp [bS]
    have h := p_some n t (bS r) [] ht.no
    rw [e, h.1, h.2.1, h.2.2, ih.1, ih.2.1, ih.2.2, List.nil_append]
    refine ⟨by simp [bR], rfl, ?_⟩
    have := ht.len
    simp [over]; omega

theorem rcd_fine {n : Nat} {t : List Int} (h : t.length ≤ n) : rcd n t = t ++ List.replicate (n - t.length) 32 := by rw [rcd, List.take_of_length_le h]
theorem tl_pad (t r : List Int) (hr : ∀ m, t.length ≤ m → m < r.length → r.getD m 0 = 32) : ∀ d, t.length + d ≤ r.length → tl r (t.length + d) = tl r t.length
  | 0, _ => rfl
  | d + 1, h => by
    rw [← tl_pad t r hr d (by omega), ← Nat.add_assoc]
    simp only [tl]
    rw [if_pos (hr _ (by omega) (by omega))]
theorem lin_rcd {n : Nat} {t : List Int} (h : Fine n t) : lin (rcd n t) = t ++ [10] := by
  have e := rcd_fine h.len
  have hl := rcd_len n t
  have h1 := tl_pad t (rcd n t) (fun m hm hm2 => by
    rw [e, List.getD_eq_getElem?_getD, List.getElem?_append_right hm, List.getElem?_replicate, if_pos (by rw [hl] at hm2; omega)]; rfl) (n - t.length) (by rw [hl]; have := h.len; omega)
  rw [show t.length + (n - t.length) = n by have := h.len; omega] at h1
  have h2 : tl (rcd n t) t.length = t.length := by
    rcases Nat.eq_zero_or_pos t.length with h0 | h0
    · rw [h0]; rfl
    · obtain ⟨p, hp⟩ : ∃ p, t.length = p + 1 := ⟨t.length - 1, by omega⟩
      have hz := h.last h0
      rw [hp] at hz ⊢
      simp only [tl]
      rw [if_neg]
      rw [e, List.getD_eq_getElem?_getD, List.getElem?_append_left (by omega), ← List.getD_eq_getElem?_getD]
      exact hz
  rw [lin, hl, h1, h2]
  congr 1
  rw [e, List.take_append_of_le_length (Nat.le_refl _), List.take_length]
theorem u_full (K : Nat) (r : List Int) : ∀ (xs b : List Int), xs ≠ [] → b.length + xs.length = K → uOut K b (xs ++ r) = lin (b ++ xs) ++ uOut K [] r ∧ uRest K b (xs ++ r) = uRest K [] r
  | [], b, h, _ => absurd rfl h
  | [z], b, _, h => by
    have hk : K ≤ b.length + 1 := by simp at h; omega
    simp [uOut, uRest, hk]
  | z :: y :: q, b, _, h => by
    have hk : ¬ K ≤ b.length + 1 := by simp at h; omega
    have ih := u_full K r (y :: q) (b ++ [z]) (by simp) (by simp at h ⊢; omega)
    rw [List.cons_append]
    simp only [uOut, uRest, hk, if_false]
    rw [ih.1, ih.2]
    simp
theorem b_unpacks (n : Nat) (hn : 1 ≤ n) : ∀ ls : List (List Int), (∀ t ∈ ls, Fine n t) → uOut n [] (bR n ls) = bS ls ∧ uRest n [] (bR n ls) = []
  | [], _ => ⟨rfl, rfl⟩
  | t :: r, hf => by
    have ih := b_unpacks n hn r (fun x hx => hf x (by simp [hx]))
    have ht := hf t (by simp)
    have e : bR n (t :: r) = rcd n t ++ bR n r := by simp [bR]
    have h := u_full n (bR n r) (rcd n t) [] (fun h => by have := rcd_len n t; rw [h] at this; simp at this; omega) (by simp [rcd_len])
    rw [e, h.1, h.2, ih.1, ih.2, List.nil_append, lin_rcd ht]
    exact ⟨by simp [bS], rfl⟩
theorem bS_snoc (ls : List (List Int)) (j : Nat) (h : j < ls.length) : bS (ls.take (j + 1)) = bS (ls.take j) ++ ls.getD j [] ++ [10] := by
  rw [List.take_add_one, bS, List.flatMap_append, List.getElem?_eq_getElem h, List.getD_eq_getElem?_getD, List.getElem?_eq_getElem h]
  simp [bS]
theorem bS_le (n : Nat) : ∀ ls : List (List Int), (∀ t ∈ ls, t.length ≤ n) → (bS ls).length ≤ (n + 1) * ls.length
  | [], _ => by simp [bS]
  | t :: r, h => by
    have := bS_le n r (fun x hx => h x (by simp [hx]))
    have := h t (by simp)
    simp only [bS, List.flatMap_cons, List.length_append, List.length_cons, List.length_nil, Nat.mul_add] at *
    omega
theorem bR_len (n : Nat) : ∀ ls : List (List Int), (bR n ls).length = n * ls.length
  | [] => by simp [bR]
  | t :: r => by
    have := bR_len n r
    simp only [bR, List.flatMap_cons, List.length_append, rcd_len, List.length_cons, Nat.mul_add] at *
    omega
theorem bS_are {ls : List (List Int)} (h : ∀ t ∈ ls, Are t) : Are (bS ls) := by
  intro z hz
  obtain ⟨t, ht, hz⟩ := List.mem_flatMap.1 hz
  rcases List.mem_append.1 hz with h2 | h2
  · exact h t ht z h2
  · rw [List.mem_singleton.1 h2]; exact ⟨by decide, by decide⟩
theorem bR_are {n : Nat} {ls : List (List Int)} (h : ∀ t ∈ ls, Are t) : Are (bR n ls) := by
  intro z hz
  obtain ⟨t, ht, hz⟩ := List.mem_flatMap.1 hz
  rcases List.mem_append.1 hz with h2 | h2
  · exact h t ht z (List.mem_of_mem_take h2)
  · rw [List.eq_of_mem_replicate h2]; exact ⟨by decide, by decide⟩

/-- A text's bytes. -/
def ofs (s : ByteArray) : List Int := s.data.toList.map fun u => (u.toNat : Int)
theorem ofs_len (s : ByteArray) : (ofs s).length = s.size := by rw [ofs, List.length_map, Array.length_toList]; rfl
theorem ofs_are (s : ByteArray) : Are (ofs s) := by
  intro z hz
  obtain ⟨u, _, rfl⟩ := List.mem_map.1 hz
  have := u.toNat_lt
  omega
theorem str_ofs (s : ByteArray) : strOfNums (ofs s) = s := by
  apply ByteArray.ext
  show ((s.data.toList.map fun u => (u.toNat : Int)).map fun n => UInt8.ofNat n.toNat).toArray = s.data
  rw [List.map_map]
  have e : ((fun n : Int => UInt8.ofNat n.toNat) ∘ fun u : UInt8 => (u.toNat : Int)) = id := by
    funext u
    simp
  rw [e, List.map_id, Array.toArray_toList]
theorem ofs_at (s : ByteArray) (k : Nat) (hk : k < s.size) : ((s[k]'hk).toNat : Int) = (ofs s).getD k 0 := by
  rw [ofs, List.getD_eq_getElem?_getD, List.getElem?_map, List.getElem?_eq_getElem (by rw [Array.length_toList]; exact hk)]
  rfl
theorem ofs_first (s : ByteArray) (k : Nat) : ofs (s.extract 0 k) = (ofs s).take k := by
  simp [ofs, ByteArray.data_extract, List.map_take]

end Go.Proofs.Ytghihmmapignmaa
