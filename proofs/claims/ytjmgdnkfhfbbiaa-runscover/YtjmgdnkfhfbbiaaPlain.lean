/- The plain mathematics of package runs: noughts in lists, without any Go. -/
import Derived.Below
import Derived.WalkKit
namespace Go.Proofs.Ytjmgdnkfhfbbiaa
namespace Plain

/-- How many noughts stand at the front. -/
def lead : List Int → Nat
  | [] => 0
  | z :: l => if z = 0 then lead l + 1 else 0
/-- How many noughts stand at the end. -/
def trail (l : List Int) : Nat := lead l.reverse
/-- All of them are noughts. -/
def zeros (l : List Int) : Bool := l.all fun z => z == 0

theorem lead_nil : lead [] = 0 := rfl
theorem lead_yes (l : List Int) : lead (0 :: l) = lead l + 1 := by rw [lead, if_pos rfl]
theorem lead_no (z : Int) (l : List Int) (h : z ≠ 0) : lead (z :: l) = 0 := by rw [lead, if_neg h]
theorem lead_le : ∀ l : List Int, lead l ≤ l.length
  | [] => Nat.le_refl _
  | z :: l => by
    rw [lead]
    have := lead_le l
    split <;> simp <;> omega
theorem lead_full : ∀ l : List Int, lead l = l.length ↔ zeros l = true
  | [] => by simp [lead, zeros]
  | z :: l => by
    have h := lead_full l
    have h2 := lead_le l
    by_cases hz : z = 0
    · subst hz
      rw [lead_yes]
      rw [show zeros (0 :: l) = zeros l by simp [zeros], ← h, List.length_cons]
      omega
    · rw [lead_no z l hz]
      simp [zeros, hz]
theorem zeros_reverse (l : List Int) : zeros l.reverse = zeros l := by simp [zeros]
theorem zeros_append (a b : List Int) : zeros (a ++ b) = (zeros a && zeros b) := by simp [zeros]
theorem trail_le (l : List Int) : trail l ≤ l.length := by have := lead_le l.reverse; simpa [trail] using this
theorem trail_full (l : List Int) : trail l = l.length ↔ zeros l = true := by
  rw [← zeros_reverse, ← lead_full, trail, List.length_reverse]
theorem lead_append (a b : List Int) : lead (a ++ b) = if lead a = a.length then a.length + lead b else lead a := by
  induction a with
  | nil => simp [lead]
  | cons z a ih =>
    have h2 := lead_le a
    by_cases hz : z = 0
    · subst hz
      rw [List.cons_append, lead_yes, lead_yes, ih]
      by_cases h : lead a = a.length
      · rw [if_pos h, if_pos (by simp [h])]; simp; omega
      · rw [if_neg h, if_neg (by simp; omega)]
    · rw [List.cons_append, lead_no _ _ hz, lead_no _ _ hz, if_neg (by simp)]
theorem trail_append (a b : List Int) : trail (a ++ b) = if trail b = b.length then b.length + trail a else trail b := by
  rw [trail, List.reverse_append, lead_append, List.length_reverse]; rfl
theorem drop_cons (l : List Int) (k : Nat) (h : k < l.length) : l.drop k = l.getD k 0 :: l.drop (k + 1) := by
  rw [List.drop_eq_getElem_cons h, List.getD_eq_getElem?_getD, List.getElem?_eq_getElem h]; rfl
theorem rev_at (l : List Int) (k : Nat) (h : k < l.length) : l.reverse.getD k 0 = l.getD (l.length - 1 - k) 0 := by
  rw [List.getD_eq_getElem?_getD, List.getD_eq_getElem?_getD, List.getElem?_reverse h]

/-- One run: where it begins, how long it is, whether it is of noughts. -/
structure Run where
  p : Int
  l : Int
  z : Bool
deriving DecidableEq, Inhabited

/-- One more piece behind the runs so far. -/
def joinS (acc : List Run) (r : Run) : List Run :=
  match acc.getLast? with
  | none => acc ++ [r]
  | some q => if q.z = r.z then acc.dropLast ++ [⟨q.p, q.l + r.l, q.z⟩] else acc ++ [r]
theorem joinS_nil (r : Run) : joinS [] r = [r] := rfl
theorem joinS_same (i : List Run) (q r : Run) (h : q.z = r.z) : joinS (i ++ [q]) r = i ++ [⟨q.p, q.l + r.l, q.z⟩] := by
  simp [joinS, h]
theorem joinS_other (i : List Run) (q r : Run) (h : q.z ≠ r.z) : joinS (i ++ [q]) r = i ++ [q] ++ [r] := by
  simp [joinS, h]

/-- The runs, from place pos on: rest is what is left, acc what was found. -/
def runsGo (u : Nat) : Nat → Nat → List Int → List Run → List Run
  | 0, _, _, acc => acc
  | f + 1, pos, rest, acc => if rest.length = 0 then acc else runsGo u f (pos + min u rest.length) (rest.drop u) (joinS acc ⟨(pos : Int), ((min u rest.length : Nat) : Int), zeros (rest.take u)⟩)
def runsOf (u : Int) (l : List Int) : List Run := if u < 1 then [] else runsGo u.toNat l.length 0 l []

/-- The cells of runs. -/
def runCells (l : List Run) : List Value := l.flatMap fun r => [.int .i64 r.p, .int .i64 r.l, .bool r.z]
theorem runCells_nil : runCells [] = [] := rfl
theorem runCells_append (a b : List Run) : runCells (a ++ b) = runCells a ++ runCells b := by simp [runCells]
theorem runCells_one (r : Run) : runCells [r] = [.int .i64 r.p, .int .i64 r.l, .bool r.z] := rfl
theorem runCells_len : ∀ l : List Run, (runCells l).length = l.length * 3
  | [] => rfl
  | r :: l => by
    have := runCells_len l
    simp only [runCells, List.flatMap_cons, List.length_append, List.length_cons, List.length_nil] at this ⊢
    omega
theorem runCells_at (l : List Run) (k : Nat) (h : k < l.length) :
    (runCells l)[k * 3]? = some (.int .i64 (l.getD k default).p) ∧ (runCells l)[k * 3 + 1]? = some (.int .i64 (l.getD k default).l) ∧ (runCells l)[k * 3 + 2]? = some (.bool (l.getD k default).z) := by
  induction l generalizing k with
  | nil => simp at h
  | cons r l ih =>
    cases k with
    | zero => simp [runCells]
    | succ k =>
      have := ih k (by simpa using h)
      rw [show (k + 1) * 3 = k * 3 + 3 by omega]
      have e : runCells (r :: l) = [.int .i64 r.p, .int .i64 r.l, .bool r.z] ++ runCells l := rfl
      rw [e]
      refine ⟨?_, ?_, ?_⟩
      · rw [List.getElem?_append_right (by simp)]; simpa using this.1
      · rw [List.getElem?_append_right (by simp)]; simpa using this.2.1
      · rw [List.getElem?_append_right (by simp)]; simpa using this.2.2
/-- The last run's length, turned. -/
theorem runCells_set (i : List Run) (q : Run) (n : Int) : (runCells (i ++ [q])).set (i.length * 3 + 1) (.int .i64 n) = runCells (i ++ [⟨q.p, n, q.z⟩]) := by
  rw [runCells_append, runCells_append, List.set_append_right _ _ (by rw [runCells_len]; omega), runCells_len]
  simp [runCells]
theorem last_run (l : List Run) (h : l ≠ []) : ∃ i q, l = i ++ [q] := ⟨l.dropLast, l.getLast h, (List.dropLast_concat_getLast h).symm⟩

end Plain
open Go.RowKit

/-- A slice of bytes that reads as a list: nil let in. -/
def Bytes (w : World) (A : Option Addr) (n c : Nat) (zs : List Int) : Prop :=
  zs.length = n ∧ n ≤ c ∧ c ≤ maxLen ∧ (0 < n → ∃ b o, A = some ⟨b, o, none⟩ ∧ b < w.heap.size ∧ ∀ k, k < n → w.cell? ⟨b, o + k, none⟩ = some (.int .u8 (zs.getD k 0)))

/-- One list of bytes as a value. -/
structure El where
  a : Option Addr
  n : Nat
  c : Nat
  zs : List Int
deriving Inhabited

/-- A slice of such lists. -/
def Lists (w : World) (A : Option Addr) (n : Nat) (L : List El) : Prop :=
  L.length = n ∧ (0 < n → ∃ b o, A = some ⟨b, o, none⟩ ∧ b < w.heap.size ∧ ∀ k, k < n → w.cell? ⟨b, o + k, none⟩ = some (.slice (L.getD k default).a (L.getD k default).n (L.getD k default).c)) ∧ ∀ k, k < n → Bytes w (L.getD k default).a (L.getD k default).n (L.getD k default).c (L.getD k default).zs

def allZeros (L : List El) : Bool := L.all fun x => Plain.zeros x.zs

theorem drop_el (l : List El) (k : Nat) (h : k < l.length) : l.drop k = l.getD k default :: l.drop (k + 1) := by
  rw [List.drop_eq_getElem_cons h, List.getD_eq_getElem?_getD, List.getElem?_eq_getElem h]; rfl

theorem Bytes.below {w w' : World} {B : Nat} {A : Option Addr} {n c : Nat} {zs : List Int} (h : Bytes w A n c zs) (hb : Below B w w') (hB : ∀ b o, A = some ⟨b, o, none⟩ → 0 < n → b < B) : Bytes w' A n c zs := by
  refine ⟨h.1, h.2.1, h.2.2.1, fun hn => ?_⟩
  obtain ⟨b, o, rfl, hl, hc⟩ := h.2.2.2 hn
  exact ⟨b, o, rfl, Nat.lt_of_lt_of_le hl hb.size, fun k hk => (hb.cell (p := ⟨b, o + k, none⟩) (hB b o rfl hn)).trans (hc k hk)⟩
/-- Behind a call that leaves all that is there as it is. -/
theorem Bytes.on {w w' : World} {A : Option Addr} {n c : Nat} {zs : List Int} (h : Bytes w A n c zs) (hb : Below w.heap.size w w') : Bytes w' A n c zs := by
  refine ⟨h.1, h.2.1, h.2.2.1, fun hn => ?_⟩
  obtain ⟨b, o, rfl, hl, hc⟩ := h.2.2.2 hn
  exact ⟨b, o, rfl, Nat.lt_of_lt_of_le hl hb.size, fun k hk => (hb.cell (p := ⟨b, o + k, none⟩) hl).trans (hc k hk)⟩
theorem Lists.on {w w' : World} {A : Option Addr} {n : Nat} {L : List El} (h : Lists w A n L) (hb : Below w.heap.size w w') : Lists w' A n L := by
  refine ⟨h.1, fun hn => ?_, fun k hk => (h.2.2 k hk).on hb⟩
  obtain ⟨b, o, rfl, hl, hc⟩ := h.2.1 hn
  exact ⟨b, o, rfl, Nat.lt_of_lt_of_le hl hb.size, fun k hk => (hb.cell (p := ⟨b, o + k, none⟩) hl).trans (hc k hk)⟩

/-- A piece of it. -/
theorem Bytes.piece {w : World} {b o n c : Nat} {zs : List Int} (h : Bytes w (some ⟨b, o, none⟩) n c zs) (i m : Nat) (hm : i + m ≤ n) : Bytes w (some ⟨b, o + i, none⟩) m (c - i) ((zs.drop i).take m) := by
  obtain ⟨h1, h2, h3, h4⟩ := h
  refine ⟨by simp; omega, by omega, by omega, fun hp => ?_⟩
  obtain ⟨b', o', he, hl, hc⟩ := h4 (by omega)
  injection he with he
  injection he with e1 e2
  subst e1 e2
  refine ⟨b, o + i, rfl, hl, fun k hk => ?_⟩
  rw [show o + i + k = o + (i + k) by omega, hc (i + k) (by omega)]
  simp [List.getD_eq_getElem?_getD, hk]

end Go.Proofs.Ytjmgdnkfhfbbiaa
