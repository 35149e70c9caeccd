/- The plain mathematics of package off: sums and products that can be told, without any Go. -/
import Derived.Below
import Derived.WalkKit
namespace Go.Proofs.Ytheokjjkjigcfaa
namespace Plain

/-- A place: 0 to 2^62. -/
def mayB (n : Int) : Bool := decide (0 ≤ n) && decide (n ≤ 4611686018427387904)
theorem may_iff (n : Int) : mayB n = true ↔ 0 ≤ n ∧ n ≤ 4611686018427387904 := by simp [mayB]
theorem may_not (n : Int) : mayB n = false ↔ ¬ (0 ≤ n ∧ n ≤ 4611686018427387904) := by rw [← may_iff]; simp

/-- The sum so far, and what is left to add. -/
def addFrom : Int → List Int → Option Int
  | s, [] => some s
  | s, n :: l => if 0 ≤ n ∧ n ≤ 4611686018427387904 - s then addFrom (s + n) l else none

def addV (l : List Int) : Int := (addFrom 0 l).getD 0
def addOk (l : List Int) : Bool := (addFrom 0 l).isSome

theorem addFrom_nil (s : Int) : addFrom s [] = some s := rfl
theorem addFrom_yes (s n : Int) (l : List Int) (h0 : 0 ≤ n) (h1 : n ≤ 4611686018427387904 - s) : addFrom s (n :: l) = addFrom (s + n) l := by
  rw [addFrom, if_pos ⟨h0, h1⟩]
theorem addFrom_no (s n : Int) (l : List Int) (h : ¬ (0 ≤ n ∧ n ≤ 4611686018427387904 - s)) : addFrom s (n :: l) = none := by
  rw [addFrom, if_neg h]
theorem drop_cons (l : List Int) (k : Nat) (h : k < l.length) : l.drop k = l.getD k 0 :: l.drop (k + 1) := by
  rw [List.drop_eq_getElem_cons h, List.getD_eq_getElem?_getD, List.getElem?_eq_getElem h]; rfl

/-- The product so far, and what is left to multiply; all of it above 0. -/
def mulFrom : Int → List Int → Option Int
  | p, [] => some p
  | p, n :: l => if n ≤ 4611686018427387904 / p then mulFrom (p * n) l else none
def allMay : List Int → Bool
  | [] => true
  | n :: l => mayB n && allMay l
def anyNought : List Int → Bool
  | [] => false
  | n :: l => (n == 0) || anyNought l
def mulS (l : List Int) : Option Int := if allMay l = true then (if anyNought l = true then some 0 else mulFrom 1 l) else none
def mulV (l : List Int) : Int := (mulS l).getD 0
def mulOk (l : List Int) : Bool := (mulS l).isSome

theorem mulFrom_yes (p n : Int) (l : List Int) (h : n ≤ 4611686018427387904 / p) : mulFrom p (n :: l) = mulFrom (p * n) l := by rw [mulFrom, if_pos h]
theorem mulFrom_no (p n : Int) (l : List Int) (h : ¬ n ≤ 4611686018427387904 / p) : mulFrom p (n :: l) = none := by rw [mulFrom, if_neg h]
theorem mul_le_top (p n : Int) (hp : 1 ≤ p) (h : n ≤ 4611686018427387904 / p) : p * n ≤ 4611686018427387904 := by
  have h1 : p * n ≤ p * (4611686018427387904 / p) := Int.mul_le_mul_of_nonneg_left h (by omega)
  have h2 : p * (4611686018427387904 / p) ≤ 4611686018427387904 := Int.mul_ediv_self_le (by omega)
  omega
theorem one_le_mul (p n : Int) (hp : 1 ≤ p) (hn : 1 ≤ n) : 1 ≤ p * n := by
  have := Int.mul_le_mul hp hn (by omega) (by omega)
  omega
theorem allMay_drop (l : List Int) (k : Nat) (h : k < l.length) (ha : allMay l = true) : mayB (l.getD k 0) = true := by
  induction l generalizing k with
  | nil => simp at h
  | cons n l ih =>
    simp only [allMay, Bool.and_eq_true] at ha
    cases k with
    | zero => simpa using ha.1
    | succ k => simpa using ih k (by simpa using h) ha.2
theorem nought_drop (l : List Int) (k : Nat) (h : k < l.length) (ha : anyNought l = false) : l.getD k 0 ≠ 0 := by
  induction l generalizing k with
  | nil => simp at h
  | cons n l ih =>
    simp only [anyNought, Bool.or_eq_false_iff] at ha
    cases k with
    | zero => simpa using ha.1
    | succ k => simpa using ih k (by simpa using h) ha.2
theorem allMay_cons (n : Int) (l : List Int) : allMay (n :: l) = (mayB n && allMay l) := rfl
theorem anyNought_cons (n : Int) (l : List Int) : anyNought (n :: l) = ((n == 0) || anyNought l) := rfl

/-! Multiples, spans -/
def downV (n u : Int) : Int := if (0 ≤ n ∧ n ≤ 4611686018427387904) ∧ 1 ≤ u then n - n % u else 0
def upS (n u : Int) : Option Int :=
  if (0 ≤ n ∧ n ≤ 4611686018427387904) ∧ 1 ≤ u then (if n % u = 0 then some n else if u - n % u ≤ 4611686018427387904 - n then some (n + (u - n % u)) else none) else none
def upV (n u : Int) : Int := (upS n u).getD 0
def upOk (n u : Int) : Bool := (upS n u).isSome
def spanB (p l : Int) : Bool := decide (0 ≤ p) && decide (p ≤ 4611686018427387904) && decide (0 ≤ l) && decide (l ≤ 4611686018427387904 - p)
theorem span_iff (p l : Int) : spanB p l = true ↔ 0 ≤ p ∧ p ≤ 4611686018427387904 ∧ 0 ≤ l ∧ l ≤ 4611686018427387904 - p := by simp [spanB, and_assoc]
theorem addFrom_two (a b : Int) : addFrom 0 [a, b] = if 0 ≤ a ∧ a ≤ 4611686018427387904 ∧ 0 ≤ b ∧ b ≤ 4611686018427387904 - a then some (a + b) else none := by
  by_cases ha : 0 ≤ a ∧ a ≤ 4611686018427387904
  · by_cases hb : 0 ≤ b ∧ b ≤ 4611686018427387904 - a
    · rw [addFrom_yes _ _ _ ha.1 (by omega), addFrom_yes _ _ _ hb.1 (by omega), addFrom_nil, if_pos ⟨ha.1, ha.2, hb.1, hb.2⟩]; simp
    · rw [addFrom_yes _ _ _ ha.1 (by omega), addFrom_no _ _ _ (by omega), if_neg (by omega)]
  · rw [addFrom_no _ _ _ (by omega), if_neg (by omega)]
theorem addOk_two (a b : Int) : addOk [a, b] = spanB a b := by
  rw [Bool.eq_iff_iff, span_iff, addOk, addFrom_two]
  by_cases h : 0 ≤ a ∧ a ≤ 4611686018427387904 ∧ 0 ≤ b ∧ b ≤ 4611686018427387904 - a <;> simp [h]
theorem rem_bounds (n u : Int) (hn : 0 ≤ n) (hu : 1 ≤ u) : 0 ≤ n % u ∧ n % u < u ∧ n % u ≤ n := by
  have h1 := Int.mul_ediv_add_emod n u
  have h2 := Int.mul_nonneg (show 0 ≤ u by omega) (Int.ediv_nonneg hn (show 0 ≤ u by omega))
  exact ⟨Int.emod_nonneg _ (by omega), Int.emod_lt_of_pos _ (by omega), by omega⟩

/-- What two spans have together, place and length. -/
def meetP (ap al bp bl : Int) : Int × Int :=
  if spanB ap al = true ∧ spanB bp bl = true then (if (if bp + bl < ap + al then bp + bl else ap + al) ≤ (if ap < bp then bp else ap) then (0, 0) else ((if ap < bp then bp else ap), (if bp + bl < ap + al then bp + bl else ap + al) - (if ap < bp then bp else ap))) else (0, 0)

/-- Both are spans, and each place of the first lies in the second. -/
def withinB (ap al bp bl : Int) : Bool := spanB ap al && spanB bp bl && (decide (al = 0) || (decide (bp ≤ ap) && decide (ap + al ≤ bp + bl)))
theorem meet_is (ap al bp bl : Int) (ha : spanB ap al = true) (hb : spanB bp bl = true) (h : al ≠ 0) :
    ((meetP ap al bp bl).1 = ap ∧ (meetP ap al bp bl).2 = al) ↔ (bp ≤ ap ∧ ap + al ≤ bp + bl) := by
  rw [meetP, if_pos ⟨ha, hb⟩]
  rw [span_iff] at ha hb
  by_cases h1 : ap < bp <;> by_cases h2 : bp + bl < ap + al <;> simp only [h1, h2, if_true, if_false] <;> split <;> simp <;> omega

theorem within_is (ap al bp bl : Int) (ha : spanB ap al = true) (hb : spanB bp bl = true) (h : al ≠ 0) :
    withinB ap al bp bl = ((meetP ap al bp bl).1 == ap && (meetP ap al bp bl).2 == al) := by
  have hm := meet_is ap al bp bl ha hb h
  rw [Bool.eq_iff_iff, withinB, ha, hb]
  simp [h, hm]

end Plain

/-- A slice of ints that reads as a list: nil let in. -/
def Ints (w : World) (A : Option Addr) (n : Nat) (zs : List Int) : Prop :=
  zs.length = n ∧ (0 < n → ∃ b o, A = some ⟨b, o, none⟩ ∧ ∀ k, k < n → w.cell? ⟨b, o + k, none⟩ = some (.int .i64 (zs.getD k 0)))

theorem ints_two (w : World) (a b : Int) (t : TypeId) : Ints (w.alloc (.cells #[.int .i64 a, .int .i64 b] t)) (some ⟨w.heap.size, 0, none⟩) 2 [a, b] := by
  refine ⟨rfl, fun _ => ⟨_, _, rfl, fun k hk => ?_⟩⟩
  match k, hk with
  | 0, _ => simp [go_sem]
  | 1, _ => simp [go_sem]
theorem ints_two_at (w : World) (a b : Int) (t : TypeId) (s : Nat) (hs : s = w.heap.size) : Ints (w.alloc (.cells #[.int .i64 a, .int .i64 b] t)) (some ⟨s, 0, none⟩) 2 [a, b] := by
  subst hs
  exact ints_two w a b t

end Go.Proofs.Ytheokjjkjigcfaa
