/- Pairs turned about, as lists. No Go of the program. -/
import Derived.Test.YtghihmmapignmaaPlainF
namespace Go.Proofs.Ytghihmmapignmaa

/-- All whole pairs, turned about. -/
def turn : List Int → List Int
  | a :: b :: r => b :: a :: turn r
  | _ => []
/-- What is left behind the whole pairs. -/
def odd : List Int → List Int
  | _ :: _ :: r => odd r
  | l => l
/-- All of it. -/
def sw : List Int → List Int
  | a :: b :: r => b :: a :: sw r
  | l => l

theorem turn_app : ∀ l x : List Int, turn (l ++ x) = turn l ++ turn (odd l ++ x)
  | [], x => by simp [turn, odd]
  | [a], x => by simp [turn, odd]
  | a :: b :: r, x => by simp [turn, odd, turn_app r x]
theorem odd_app : ∀ l x : List Int, odd (l ++ x) = odd (odd l ++ x)
  | [], x => by simp [odd]
  | [a], x => by simp [odd]
  | a :: b :: r, x => by simp [odd, odd_app r x]
theorem odd_len : ∀ l : List Int, (odd l).length ≤ 1
  | [] => by simp [odd]
  | [a] => by simp [odd]
  | a :: b :: r => by simpa [odd] using odd_len r
theorem turn_odd : ∀ l : List Int, turn l ++ odd l = sw l
  | [] => rfl
  | [a] => rfl
  | a :: b :: r => by simp [turn, odd, sw, turn_odd r]
theorem sw_len : ∀ l : List Int, (sw l).length = l.length
  | [] => rfl
  | [a] => rfl
  | a :: b :: r => by simp [sw, sw_len r]
theorem sw_sw : ∀ l : List Int, sw (sw l) = l
  | [] => rfl
  | [a] => rfl
  | a :: b :: r => by simp [sw, sw_sw r]
theorem turn_le (l : List Int) : (turn l).length ≤ l.length := by
  have h := sw_len l
  rw [← turn_odd, List.length_append] at h
  omega

/-- Where a byte goes: its pair's other place. -/
def mate (i : Nat) : Nat := if i % 2 = 0 then i + 1 else i - 1
theorem mate_two (i : Nat) : mate (i + 2) = mate i + 2 := by unfold mate; split <;> split <;> omega
theorem sw_at : ∀ (l : List Int) (i : Nat), i < l.length → mate i < l.length → (sw l).getD (mate i) 0 = l.getD i 0
  | [], i, _, h => by simp at h
  | [a], i, hi, h => by
    have h1 : i = 0 := by simpa using hi
    subst h1
    simp [mate] at h
  | a :: b :: r, 0, _, h => by simp [mate, sw]
  | a :: b :: r, 1, _, h => by simp [mate, sw]
  | a :: b :: r, i + 2, hi, h => by
    rw [mate_two] at h ⊢
    have := sw_at r i (by simpa using hi) (by simpa using h)
    simpa [sw] using this
theorem sw_last : ∀ (l : List Int) (i : Nat), i < l.length → l.length ≤ mate i → (sw l).getD i 0 = l.getD i 0
  | [], i, _, h => by simp [sw]
  | [a], i, hi, h => by simp [sw]
  | a :: b :: r, 0, _, h => by simp [mate] at h
  | a :: b :: r, 1, _, h => by simp [mate] at h
  | a :: b :: r, i + 2, hi, h => by
    rw [mate_two] at h
    have := sw_last r i (by simpa using hi) (by simpa using h)
    simpa [sw] using this

/-- What comes out, and what is kept back; not on, nothing is turned about. -/
def tn (on : Bool) (l : List Int) : List Int := if on then turn l else l
def od (on : Bool) (l : List Int) : List Int := if on then odd l else []
def sn (on : Bool) (l : List Int) : List Int := if on then sw l else l
theorem tn_app (on : Bool) (l x : List Int) : tn on (l ++ x) = tn on l ++ tn on (od on l ++ x) := by cases on <;> simp [tn, od, ← turn_app]
theorem od_app (on : Bool) (l x : List Int) : od on (l ++ x) = od on (od on l ++ x) := by cases on <;> simp [od, ← odd_app]
theorem tn_od (on : Bool) (l : List Int) : tn on l ++ od on l = sn on l := by cases on <;> simp [tn, od, sn, turn_odd]
theorem tn_le (on : Bool) (l : List Int) : (tn on l).length ≤ l.length := by cases on <;> simp [tn, turn_le]
theorem sn_len (on : Bool) (l : List Int) : (sn on l).length = l.length := by cases on <;> simp [sn, sw_len]
theorem od_len (on : Bool) (l : List Int) : (od on l).length ≤ 1 := by cases on <;> simp [od, odd_len]

/-- One byte more, none kept back; one kept back. -/
theorem turn_none {l : List Int} (h : odd l = []) (z : Int) : turn (l ++ [z]) = turn l ∧ odd (l ++ [z]) = [z] := by
  rw [turn_app, odd_app, h]; simp [turn, odd]
theorem turn_some {l : List Int} {a : Int} (h : odd l = [a]) (z : Int) : turn (l ++ [z]) = turn l ++ [z, a] ∧ odd (l ++ [z]) = [] := by
  rw [turn_app, odd_app, h]; simp [turn, odd]
theorem turn_take {zs : List Int} (ks : List Int) (j : Nat) (h : j < zs.length) : ks ++ zs.take (j + 1) = (ks ++ zs.take j) ++ [zs.getD j 0] := by
  rw [List.take_add_one, List.getElem?_eq_getElem h, List.getD_eq_getElem?_getD, List.getElem?_eq_getElem h]; simp

theorem sw_mem : ∀ (l : List Int) (z : Int), z ∈ sw l → z ∈ l
  | [], z, h => h
  | [a], z, h => h
  | a :: b :: r, z, h => by
    simp only [sw, List.mem_cons] at h ⊢
    rcases h with h | h | h
    · exact .inr (.inl h)
    · exact .inl h
    · exact .inr (.inr (sw_mem r z h))
theorem Are.sw {l : List Int} (h : Are l) : Are (sw l) := fun z hz => h z (sw_mem l z hz)
end Go.Proofs.Ytghihmmapignmaa
