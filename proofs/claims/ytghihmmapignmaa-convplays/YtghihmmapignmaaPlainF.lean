/- Lines and records, as lists. No Go of the program. -/
import Derived.Lib.IndexLaws
import Derived.Lib.Bytes
namespace Go.Proofs.Ytghihmmapignmaa

/-- Bytes. -/
def Are (l : List Int) : Prop := ∀ z ∈ l, 0 ≤ z ∧ z < 256
theorem Are.nil : Are [] := fun z h => by cases h
theorem Are.take {l : List Int} (h : Are l) (k : Nat) : Are (l.take k) := fun z hz => h z (List.mem_of_mem_take hz)
theorem Are.drop {l : List Int} (h : Are l) (k : Nat) : Are (l.drop k) := fun z hz => h z (List.mem_of_mem_drop hz)
theorem Are.append {l r : List Int} (h : Are l) (k : Are r) : Are (l ++ r) := fun z hz => (List.mem_append.1 hz).elim (h z) (k z)
theorem Are.at {l : List Int} (h : Are l) (i : Nat) : 0 ≤ l.getD i 0 ∧ l.getD i 0 < 256 := by
  rw [List.getD_eq_getElem?_getD]
  by_cases hi : i < l.length
  · rw [List.getElem?_eq_getElem hi]; exact h _ (List.getElem_mem hi)
  · rw [List.getElem?_eq_none (by omega)]; simp

/-- How long records are. -/
def kOf (s : Int) : Nat := if s < 1 then 1 else if 4096 < s then 4096 else s.toNat
theorem kOf_pos (s : Int) : 1 ≤ kOf s ∧ kOf s ≤ 4096 := by unfold kOf; split <;> (try split) <;> omega
theorem kOf_le (s : Int) (h : s ≤ 600) : kOf s ≤ 600 := by unfold kOf; split <;> (try split) <;> omega

/-- The record of a line; whether the line is longer. -/
def rcd (K : Nat) (l : List Int) : List Int := l.take K ++ List.replicate (K - l.length) 32
def over (K : Nat) (l : List Int) : Nat := if K < l.length then 1 else 0
theorem rcd_len (K : Nat) (l : List Int) : (rcd K l).length = K := by simp [rcd]; omega
theorem over_le (K : Nat) (l : List Int) : over K l ≤ 1 := by unfold over; split <;> omega
theorem over_nil (K : Nat) : over K [] = 0 := by simp [over]

/-- What comes out, which line is left, how many were cut. -/
def pOut (K : Nat) : List Int → List Int → List Int
  | _, [] => []
  | l, z :: r => if z = 10 then rcd K l ++ pOut K [] r else pOut K (l ++ [z]) r
def pLine : List Int → List Int → List Int
  | l, [] => l
  | l, z :: r => if z = 10 then pLine [] r else pLine (l ++ [z]) r
def pCut (K : Nat) : List Int → List Int → Nat
  | _, [] => 0
  | l, z :: r => if z = 10 then over K l + pCut K [] r else pCut K (l ++ [z]) r
def pEnd (K : Nat) (l : List Int) : List Int := if l = [] then [] else rcd K l

theorem pOut_app (K : Nat) : ∀ (a : List Int) (l b : List Int), pOut K l (a ++ b) = pOut K l a ++ pOut K (pLine l a) b
  | [], l, b => by simp [pOut, pLine]
  | z :: r, l, b => by
    simp only [List.cons_append, pOut, pLine]
    split
    · rw [pOut_app K r [] b, List.append_assoc]
    · exact pOut_app K r _ b
theorem pLine_app : ∀ (a : List Int) (l b : List Int), pLine l (a ++ b) = pLine (pLine l a) b
  | [], l, b => by simp [pLine]
  | z :: r, l, b => by
    simp only [List.cons_append, pLine]
    split
    · exact pLine_app r [] b
    · exact pLine_app r _ b
theorem pCut_app (K : Nat) : ∀ (a : List Int) (l b : List Int), pCut K l (a ++ b) = pCut K l a + pCut K (pLine l a) b
  | [], l, b => by simp [pCut, pLine]
  | z :: r, l, b => by
    simp only [List.cons_append, pCut, pLine]
    split
    · rw [pCut_app K r [] b]; omega
    · exact pCut_app K r _ b
/-- No line ends. -/
theorem p_none (K : Nat) : ∀ (a : List Int) (l : List Int), (∀ z ∈ a, z ≠ 10) → pOut K l a = [] ∧ pLine l a = l ++ a ∧ pCut K l a = 0
  | [], l, _ => by simp [pOut, pLine, pCut]
  | z :: r, l, h => by
    have hz : z ≠ 10 := h z (by simp)
    have := p_none K r (l ++ [z]) (fun y hy => h y (by simp [hy]))
    simp only [pOut, pLine, pCut, hz, if_false]
    rw [this.1, this.2.1, this.2.2]
    simp
/-- A line ends. -/
theorem p_some (K : Nat) (a b l : List Int) (h : ∀ z ∈ a, z ≠ 10) : pOut K l (a ++ 10 :: b) = rcd K (l ++ a) ++ pOut K [] b ∧ pLine l (a ++ 10 :: b) = pLine [] b ∧ pCut K l (a ++ 10 :: b) = over K (l ++ a) + pCut K [] b := by
  have h1 := p_none K a l h
  rw [pOut_app, pLine_app, pCut_app, h1.1, h1.2.1, h1.2.2]
  simp [pOut, pLine, pCut]
theorem pLine_le : ∀ (a l : List Int), (pLine l a).length ≤ l.length + a.length
  | [], l => by simp [pLine]
  | z :: r, l => by
    simp only [pLine]
    split
    · have := pLine_le r []; simp at this ⊢; omega
    · have := pLine_le r (l ++ [z]); simp at this ⊢; omega
theorem pOut_le (K : Nat) : ∀ (a l : List Int), (pOut K l a).length ≤ K * a.length
  | [], l => by simp [pOut]
  | z :: r, l => by
    simp only [pOut]
    split
    · have := pOut_le K r []; simp [rcd_len, Nat.mul_add]; omega
    · have := pOut_le K r (l ++ [z]); simp [Nat.mul_add]; omega
theorem pCut_le (K : Nat) : ∀ (a l : List Int), pCut K l a ≤ a.length
  | [], l => by simp [pCut]
  | z :: r, l => by
    simp only [pCut]
    split
    · have := pCut_le K r []; have := over_le K l; simp; omega
    · have := pCut_le K r (l ++ [z]); simp; omega
theorem pEnd_le (K : Nat) (l : List Int) : (pEnd K l).length ≤ K := by unfold pEnd; split <;> simp [rcd_len]

/-- One byte more. -/
theorem take_snoc {zs : List Int} (j : Nat) (h : j < zs.length) : zs.take (j + 1) = zs.take j ++ [zs.getD j 0] := by
  rw [List.take_add_one, List.getElem?_eq_getElem h, List.getD_eq_getElem?_getD, List.getElem?_eq_getElem h]; simp
theorem pOut_one (K : Nat) (a l : List Int) (z : Int) : pOut K l (a ++ [z]) = if z = 10 then pOut K l a ++ rcd K (pLine l a) else pOut K l a := by
  rw [pOut_app]; simp only [pOut]; split <;> simp
theorem pLine_one (a l : List Int) (z : Int) : pLine l (a ++ [z]) = if z = 10 then [] else pLine l a ++ [z] := by
  rw [pLine_app]; simp only [pLine]
theorem pCut_one (K : Nat) (a l : List Int) (z : Int) : pCut K l (a ++ [z]) = if z = 10 then pCut K l a + over K (pLine l a) else pCut K l a := by
  rw [pCut_app]; simp only [pCut]; split <;> simp

/-- What is held of a line. -/
theorem kept_app (K : Nat) (l a : List Int) : (l ++ a).take K = l.take K ++ a.take (K - l.length) := by rw [List.take_append]

/-- How long a record is without the bytes 32 at its end. -/
def tl (l : List Int) : Nat → Nat
  | 0 => 0
  | m + 1 => if l.getD m 0 = 32 then tl l m else m + 1
theorem tl_le (l : List Int) : ∀ m, tl l m ≤ m
  | 0 => Nat.le_refl _
  | m + 1 => by
    simp only [tl]
    split
    · have := tl_le l m; omega
    · exact Nat.le_refl _
/-- The line of a record. -/
def lin (l : List Int) : List Int := l.take (tl l l.length) ++ [10]
theorem lin_le (l : List Int) : (lin l).length ≤ l.length + 1 := by simp [lin]; omega

def uOut (K : Nat) : List Int → List Int → List Int
  | _, [] => []
  | l, z :: r => if K ≤ l.length + 1 then lin (l ++ [z]) ++ uOut K [] r else uOut K (l ++ [z]) r
def uRest (K : Nat) : List Int → List Int → List Int
  | l, [] => l
  | l, z :: r => if K ≤ l.length + 1 then uRest K [] r else uRest K (l ++ [z]) r
def uEnd (l : List Int) : List Int := if l = [] then [] else lin l

theorem uOut_app (K : Nat) : ∀ (a : List Int) (l b : List Int), uOut K l (a ++ b) = uOut K l a ++ uOut K (uRest K l a) b
  | [], l, b => by simp [uOut, uRest]
  | z :: r, l, b => by
    simp only [List.cons_append, uOut, uRest]
    split
    · rw [uOut_app K r [] b, List.append_assoc]
    · exact uOut_app K r _ b
theorem uRest_app (K : Nat) : ∀ (a : List Int) (l b : List Int), uRest K l (a ++ b) = uRest K (uRest K l a) b
  | [], l, b => by simp [uRest]
  | z :: r, l, b => by
    simp only [List.cons_append, uRest]
    split
    · exact uRest_app K r [] b
    · exact uRest_app K r _ b
theorem uOut_one (K : Nat) (a l : List Int) (z : Int) : uOut K l (a ++ [z]) = if K ≤ (uRest K l a).length + 1 then uOut K l a ++ lin (uRest K l a ++ [z]) else uOut K l a := by
  rw [uOut_app]; simp only [uOut]; split <;> simp
theorem uRest_one (K : Nat) (a l : List Int) (z : Int) : uRest K l (a ++ [z]) = if K ≤ (uRest K l a).length + 1 then [] else uRest K l a ++ [z] := by
  rw [uRest_app]; simp only [uRest]
theorem uRest_lt (K : Nat) (hK : 1 ≤ K) : ∀ (a l : List Int), l.length < K → (uRest K l a).length < K
  | [], l, h => h
  | z :: r, l, h => by
    simp only [uRest]
    split
    · exact uRest_lt K hK r [] (by simp; omega)
    · exact uRest_lt K hK r _ (by simp; omega)
theorem u_le (K : Nat) : ∀ (a l : List Int), (uOut K l a).length + (uRest K l a).length ≤ l.length + 2 * a.length
  | [], l => by simp [uOut, uRest]
  | z :: r, l => by
    simp only [uOut, uRest]
    split
    · have := u_le K r []; have := lin_le (l ++ [z]); simp at *; omega
    · have := u_le K r (l ++ [z]); simp at *; omega
theorem uEnd_le (l : List Int) : (uEnd l).length ≤ l.length + 1 := by
  unfold uEnd
  split
  · simp
  · exact lin_le l

/-- Where the first byte 10 is. -/
theorem ten_iff {z : Int} (h : 0 ≤ z ∧ z < 256) : (UInt8.ofNat z.toNat == 10) = decide (z = 10) := by
  obtain ⟨k, rfl⟩ := Int.eq_ofNat_of_zero_le h.1
  have hk : k < 256 := by omega
  simp only [Int.toNat_natCast]
  rw [Bool.eq_iff_iff]
  simp only [beq_iff_eq, decide_eq_true_eq]
  constructor
  · intro he
    have := congrArg UInt8.toNat he
    simp at this
    omega
  · intro he
    have : k = 10 := by omega
    subst this
    rfl
theorem index_is : ∀ (zs : List Int), Are zs → (Lib.indexByte (Lib.bytesOf zs) 10 = -1 ∧ ∀ z ∈ zs, z ≠ 10) ∨ ∃ k : Nat, Lib.indexByte (Lib.bytesOf zs) 10 = k ∧ k < zs.length ∧ zs = zs.take k ++ 10 :: zs.drop (k + 1) ∧ ∀ z ∈ zs.take k, z ≠ 10
  | [], _ => .inl ⟨rfl, fun z h => by cases h⟩
  | z :: r, h => by
    have hz := ten_iff (h z (by simp))
    have e : Lib.indexByte (Lib.bytesOf (z :: r)) 10 = if UInt8.ofNat z.toNat == 10 then 0 else if Lib.indexByte (Lib.bytesOf r) 10 == -1 then -1 else Lib.indexByte (Lib.bytesOf r) 10 + 1 := rfl
    by_cases h1 : z = 10
    · refine .inr ⟨0, ?_, by simp, by simp [h1], fun y hy => by simp at hy⟩
      rw [e, hz]; simp [h1]
    · have ih := index_is r (fun y hy => h y (by simp [hy]))
      rcases ih with ⟨i1, i2⟩ | ⟨k, i1, i2, i3, i4⟩
      · refine .inl ⟨by rw [e, hz, i1]; simp [h1], fun y hy => ?_⟩
        rcases List.mem_cons.1 hy with rfl | hy
        · exact h1
        · exact i2 y hy
      · refine .inr ⟨k + 1, ?_, by simp; omega, ?_, fun y hy => ?_⟩
        · rw [e, hz, i1]
          have : ¬ (k : Int) = -1 := by omega
          simp [h1, this]
        · simp only [List.take_succ_cons, List.drop_succ_cons, List.cons_append]
          rw [← i3]
        · rw [List.take_succ_cons] at hy
          rcases List.mem_cons.1 hy with rfl | hy
          · exact h1
          · exact i4 y hy

end Go.Proofs.Ytghihmmapignmaa
