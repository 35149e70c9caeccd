/- The plain mathematics of package arg: texts taken apart, without any Go. -/
import Derived.Below
import Derived.WalkKit
import Derived.Lib.Strings
namespace Go.Proofs.Ytnmekmifdmlogaa
namespace Plain

/-- The text of these bytes, and the bytes of a text. -/
def bs (l : List UInt8) : ByteArray := ⟨l.toArray⟩
def tx (s : ByteArray) : List UInt8 := s.data.toList
theorem tx_bs (l : List UInt8) : tx (bs l) = l := by simp [tx, bs]
theorem bs_tx (s : ByteArray) : bs (tx s) = s := by
  apply ByteArray.ext
  simp [tx, bs]
theorem tx_inj {s t : ByteArray} (h : tx s = tx t) : s = t := by rw [← bs_tx s, ← bs_tx t, h]
theorem bs_inj {s t : List UInt8} (h : bs s = bs t) : s = t := by rw [← tx_bs s, ← tx_bs t, h]
theorem tx_len (s : ByteArray) : (tx s).length = s.size := Array.length_toList
theorem tx_extract (s : ByteArray) (a b : Nat) : tx (s.extract a b) = ((tx s).drop a).take (b - a) := Lib.extract_data s a b
theorem tx_append (s t : ByteArray) : tx (s ++ t) = tx s ++ tx t := by
  simp [tx]
theorem tx_at (s : ByteArray) (k : Nat) (h : k < s.size) : (tx s).drop k = s[k] :: (tx s).drop (k + 1) := by
  have hl : k < (tx s).length := by rw [tx_len]; exact h
  rw [List.drop_eq_getElem_cons hl]
  rfl
theorem tx_get (s : ByteArray) (k : Nat) (h : k < s.size) : (tx s).getD k 0 = s[k] := by
  have hl : k < (tx s).length := by rw [tx_len]; exact h
  rw [List.getD_eq_getElem?_getD, List.getElem?_eq_getElem hl]
  rfl
theorem ext_all (s : ByteArray) : s.extract 0 s.size = s := by
  apply tx_inj
  rw [tx_extract, List.drop_zero, Nat.sub_zero, ← tx_len, List.take_length]
theorem ext_over (s : ByteArray) (k : Nat) (h : s.size ≤ k) : s.extract k s.size = bs [] := by
  apply tx_inj
  rw [tx_extract, tx_bs, show s.size - k = 0 by omega, List.take_zero]
theorem ext_to (s : ByteArray) (k : Nat) : s.extract 0 k = bs ((tx s).take k) := by
  apply tx_inj
  rw [tx_extract, tx_bs]; simp
theorem ext_from (s : ByteArray) (k : Nat) : s.extract k s.size = bs ((tx s).drop k) := by
  apply tx_inj
  rw [tx_extract, tx_bs, List.take_of_length_le (by rw [List.length_drop, tx_len]; omega)]
theorem ext_one (s : ByteArray) (k : Nat) (h : k < s.size) : s.extract k (k + 1) = bs [s[k]] := by
  apply tx_inj
  rw [tx_extract, tx_bs, tx_at s k h, show k + 1 - k = 1 by omega]
  rfl

/-- How many bytes stand ahead of the first one that is c. -/
def aheadL (c : UInt8) : List UInt8 → Nat
  | [] => 0
  | x :: l => if x = c then 0 else aheadL c l + 1
def ahead (s : ByteArray) (c : UInt8) : Nat := aheadL c (tx s)
theorem aheadL_le (c : UInt8) (l : List UInt8) : aheadL c l ≤ l.length := by
  induction l with
  | nil => exact Nat.le_refl _
  | cons x l ih => rw [aheadL]; split <;> simp; omega
theorem ahead_le (s : ByteArray) (c : UInt8) : ahead s c ≤ s.size := by rw [← tx_len]; exact aheadL_le _ _
theorem aheadL_mem (c : UInt8) (l : List UInt8) : aheadL c l < l.length ↔ c ∈ l := by
  induction l with
  | nil => simp [aheadL]
  | cons x l ih =>
    rw [aheadL]
    by_cases h : x = c
    · simp [h]
    · simp [h, ih, Ne.symm h]
theorem aheadL_none (c : UInt8) (l : List UInt8) : ∀ x ∈ l.take (aheadL c l), x ≠ c := by
  induction l with
  | nil => simp
  | cons x l ih =>
    rw [aheadL]
    by_cases h : x = c
    · simp [h]
    · rw [if_neg h]
      simp
      exact ⟨h, fun y hy => ih y hy⟩
theorem aheadL_is (c : UInt8) (l : List UInt8) (h : aheadL c l < l.length) : l.drop (aheadL c l) = c :: l.drop (aheadL c l + 1) := by
  induction l with
  | nil => simp [aheadL] at h
  | cons x l ih =>
    rw [aheadL] at h ⊢
    by_cases hx : x = c
    · simp [hx]
    · rw [if_neg hx] at h ⊢
      simp at h
      simpa using ih h
theorem aheadL_app (c : UInt8) (l r : List UInt8) (h : c ∉ l) : aheadL c (l ++ c :: r) = l.length := by
  induction l with
  | nil => simp [aheadL]
  | cons x l ih =>
    simp at h
    rw [List.cons_append, aheadL, if_neg (fun e => h.1 e.symm), ih h.2]
    simp
/-- .. so far. -/
def AheadTo (c : UInt8) (l : List UInt8) (k : Nat) : Prop := aheadL c l = k + aheadL c (l.drop k)
theorem AheadTo.zero (c : UInt8) (l : List UInt8) : AheadTo c l 0 := by simp [AheadTo]
theorem AheadTo.next {c x : UInt8} {l : List UInt8} {k : Nat} (h : AheadTo c l k) (hd : l.drop k = x :: l.drop (k + 1)) (hx : x ≠ c) : AheadTo c l (k + 1) := by
  rw [AheadTo, hd, aheadL, if_neg hx] at h
  rw [AheadTo, h]; omega
theorem AheadTo.stop {c : UInt8} {l : List UInt8} {k : Nat} (h : AheadTo c l k) (hd : l.drop k = c :: l.drop (k + 1)) : aheadL c l = k := by
  rw [AheadTo, hd, aheadL, if_pos rfl] at h; exact h
theorem AheadTo.ends {c : UInt8} {l : List UInt8} {k : Nat} (h : AheadTo c l k) (hk : l.length ≤ k) : aheadL c l = k := by
  rw [AheadTo, List.drop_of_length_le hk, aheadL] at h; exact h

def small (c : UInt8) : Bool := decide (97 ≤ c.toNat) && decide (c.toNat ≤ 122)
def great (c : UInt8) : Bool := decide (65 ≤ c.toNat) && decide (c.toNat ≤ 90)
theorem small_iff (c : UInt8) : small c = true ↔ 97 ≤ c.toNat ∧ c.toNat ≤ 122 := by simp [small]
theorem great_iff (c : UInt8) : great c = true ↔ 65 ≤ c.toNat ∧ c.toNat ≤ 90 := by simp [great]
theorem small_not (c : UInt8) : small c = false ↔ ¬ (97 ≤ c.toNat ∧ c.toNat ≤ 122) := by rw [← small_iff]; simp
theorem great_not (c : UInt8) : great c = false ↔ ¬ (65 ≤ c.toNat ∧ c.toNat ≤ 90) := by rw [← great_iff]; simp

/-- 1 to 10 letters. -/
def keyL (l : List UInt8) : Bool := decide (1 ≤ l.length) && decide (l.length ≤ 10) && l.all small
def isKey (s : ByteArray) : Bool := keyL (tx s)
def AllTo (l : List UInt8) (k : Nat) : Prop := l.all small = (l.drop k).all small
theorem AllTo.zero (l : List UInt8) : AllTo l 0 := by simp [AllTo]
theorem AllTo.next {l : List UInt8} {x : UInt8} {k : Nat} (h : AllTo l k) (hd : l.drop k = x :: l.drop (k + 1)) (hx : small x = true) : AllTo l (k + 1) := by
  rw [AllTo, hd, List.all_cons, hx, Bool.true_and] at h; exact h
theorem AllTo.no {l : List UInt8} {x : UInt8} {k : Nat} (h : AllTo l k) (hd : l.drop k = x :: l.drop (k + 1)) (hx : small x = false) : keyL l = false := by
  rw [AllTo, hd, List.all_cons, hx, Bool.false_and] at h
  simp [keyL, h]
theorem AllTo.ends {l : List UInt8} {k : Nat} (h : AllTo l k) (hk : l.length ≤ k) : keyL l = (decide (1 ≤ l.length) && decide (l.length ≤ 10)) := by
  rw [AllTo, List.drop_of_length_le hk] at h
  simp [keyL, h]

abbrev Pr := ByteArray × ByteArray
/-- The key ahead of the first =, and what is behind it. -/
def keyed (s : ByteArray) : Option Pr := if isKey (s.extract 0 (ahead s 61)) = true then some (s.extract 0 (ahead s 61), s.extract (ahead s 61 + 1) s.size) else none
def operand (s : ByteArray) : Option Pr := if ahead s 61 = s.size then none else keyed s

/-- The last one of a key. -/
def findTo (os : List Pr) (key : ByteArray) : Nat → Option ByteArray
  | 0 => none
  | k + 1 => if (os.getD k default).1 = key then some (os.getD k default).2 else findTo os key k
def find (os : List Pr) (key : ByteArray) : Option ByteArray := findTo os key os.length
def has (os : List Pr) (key : ByteArray) : Bool := (find os key).isSome
def rep (key : ByteArray) : Bool := (tx key == [99, 111, 110, 118]) || (tx key == [105, 102, 108, 97, 103])
theorem tx_toList (s : ByteArray) : s.toList = tx s := Lib.toList_data s
def opsGo : List Pr → List ByteArray → Option (List Pr)
  | out, [] => some out
  | out, s :: l => match operand s with
    | none => none
    | some o => if rep o.1 = false ∧ has out o.1 = true then none else opsGo (out ++ [o]) l
def operands (l : List ByteArray) : Option (List Pr) := if 40 < l.length then none else opsGo [] l

/-- What letters there are. -/
def specOk (l : List UInt8) (i : Nat) : Bool :=
  if l.getD i 0 = 58 then !(i == 0) && !(l.getD (i - 1) 0 == 58) else (small (l.getD i 0) || great (l.getD i 0)) && !(decide (aheadL (l.getD i 0) (l.take i) < i))
def isSpecL (l : List UInt8) : Bool := (List.range l.length).all (specOk l)
def isSpec (s : ByteArray) : Bool := isSpecL (tx s)
theorem spec_no {l : List UInt8} {i : Nat} (hi : i < l.length) (h : specOk l i = false) : isSpecL l = false := by
  rw [isSpecL, List.all_eq_false]
  exact ⟨i, by simpa using hi, by simp [h]⟩
theorem spec_yes {l : List UInt8} (h : ∀ i, i < l.length → specOk l i = true) : isSpecL l = true := by
  rw [isSpecL, List.all_eq_true]
  intro i hi
  exact h i (by simpa using hi)
def known (sp : List UInt8) (b : UInt8) : Bool := !(b == 58) && decide (aheadL b sp < sp.length)
def valued (sp : List UInt8) (b : UInt8) : Bool := !(b == 58) && (decide (aheadL b sp + 1 < sp.length) && (sp.getD (aheadL b sp + 1) 0 == 58))
theorem valued_known {sp : List UInt8} {b : UInt8} (h : valued sp b = true) : known sp b = true := by
  simp [valued, known] at h ⊢
  exact ⟨h.1, by omega⟩
def kind (sp : List UInt8) (b : UInt8) : Nat := if valued sp b = true then 2 else if known sp b = true then 1 else 0

/-- The letters of one argument: onto what is there; how many of those behind it go with it. -/
def letEnd (nx : Option ByteArray) (c : UInt8) (out : List Pr) : List UInt8 → Option (List Pr × Nat)
  | x :: r => some (out ++ [(bs [c], bs (x :: r))], 0)
  | [] => match nx with
    | some v => some (out ++ [(bs [c], v)], 1)
    | none => none
def lets (sp : List UInt8) (nx : Option ByteArray) : List UInt8 → List Pr → Option (List Pr × Nat)
  | [], out => some (out, 0)
  | c :: r, out => if known sp c = true then
      (if valued sp c = true then letEnd nx c out r
      else lets sp nx r (out ++ [(bs [c], bs [])])) else none
/-- .. of one that begins with two signs, too; out is what is there. -/
def optsOf (sp : List UInt8) (nx : Option ByteArray) (a : List UInt8) (out : List Pr) : Option (List Pr × Nat) :=
  if a.getD 0 0 = 45 then (match keyed (bs (a.drop 1)) with | none => none | some o => some (out ++ [o], 0)) else lets sp nx a out
def isOpt (s : ByteArray) : Bool := decide (1 < s.size) && ((tx s).getD 0 0 == 45)
def flagsGo (sp : List UInt8) : Nat → List ByteArray → List Pr → List ByteArray → Option (List Pr × List ByteArray)
  | _, [], os, rs => some (os, rs)
  | 0, _ :: _, _, _ => none
  | f + 1, s :: l, os, rs => if tx s = [45, 45] then some (os, rs ++ l) else
      if isOpt s = false then flagsGo sp f l os (rs ++ [s]) else
        match optsOf sp l.head? ((tx s).drop 1) os with
        | none => none
        | some (os', n) => flagsGo sp f (l.drop n) os' rs
def flags (sp : ByteArray) (l : List ByteArray) : Option (List Pr × List ByteArray) :=
  if 40 < l.length ∨ isSpec sp = false then none else flagsGo (tx sp) l.length l [] []

/-- Words. -/
def wordsF (c : UInt8) : Nat → ByteArray → List ByteArray
  | 0, s => [s.extract 0 (ahead s c)]
  | f + 1, s => if ahead s c = s.size then [s.extract 0 (ahead s c)] else s.extract 0 (ahead s c) :: wordsF c f (s.extract (ahead s c + 1) s.size)
def words (s : ByteArray) (c : UInt8) : List ByteArray := wordsF c s.size s

def only (os : List Pr) (keys : List ByteArray) : Bool := os.all fun o => keys.any fun k => decide (k = o.1)

theorem lets_acc (sp : List UInt8) (nx : Option ByteArray) (l : List UInt8) (out : List Pr) : lets sp nx l out = (lets sp nx l []).map fun x => (out ++ x.1, x.2) := by
  induction l generalizing out with
  | nil => simp [lets]
  | cons c r ih =>
    rw [lets, lets]
    by_cases hk : known sp c = true
    · by_cases hv : valued sp c = true
      · rw [if_pos hk, if_pos hk, if_pos hv, if_pos hv]
        cases r with
        | nil => cases nx <;> simp [letEnd]
        | cons => simp [letEnd]
      · rw [if_pos hk, if_pos hk, if_neg hv, if_neg hv, ih, ih ([] ++ _)]
        cases lets sp nx r [] <;> simp
    · rw [if_neg hk, if_neg hk]; rfl
theorem lets_le (sp : List UInt8) (nx : Option ByteArray) (l : List UInt8) (out os : List Pr) (n : Nat) (h : lets sp nx l out = some (os, n)) : os.length ≤ out.length + l.length ∧ n ≤ 1 ∧ (n = 1 → nx.isSome = true) ∧ (l ≠ [] → out.length < os.length) := by
  induction l generalizing out with
  | nil => simp [lets] at h; obtain ⟨rfl, rfl⟩ := h; simp
  | cons c r ih =>
    rw [lets] at h
    by_cases hk : known sp c = true
    · by_cases hv : valued sp c = true
      · rw [if_pos hk, if_pos hv] at h
        cases r with
        | nil =>
          cases nx with
          | none => simp [letEnd] at h
          | some v => simp [letEnd] at h; obtain ⟨rfl, rfl⟩ := h; simp
        | cons => simp [letEnd] at h; obtain ⟨rfl, rfl⟩ := h; simp
      · rw [if_pos hk, if_neg hv] at h
        have := ih _ h
        simp at this ⊢
        refine ⟨by omega, this.2.1, this.2.2.1, ?_⟩
        rcases r with _ | ⟨x, r⟩
        · simp [lets] at h; rw [← h.1]; simp
        · have := this.2.2.2 (by simp); omega
    · rw [if_neg hk] at h; cases h

end Plain
end Go.Proofs.Ytnmekmifdmlogaa
