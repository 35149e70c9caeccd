/- Contracts of package off: May, Add, MaySpan, Parts (carried over from stage 1). -/
import Derived.Test.YtigfimlpjmmpoaaRows
import Derived.Test.YtigfimlpjmmpoaaPlain
import Derived.WalkKit
import Derived.WalkSpells
import Derived.WalkLawsBesides
import Derived.Lib.Hide
import Derived.Deep.QuietTactic
import Derived.BigQuiet
namespace Go.Proofs.Ytigfimlpjmmpoaa
open Go.RowKit

namespace Plain

/-- A place: 0 to 2^62. -/
def mayB (n : Int) : Bool := decide (0 ≤ n) && decide (n ≤ 4611686018427387904)
theorem may_iff (n : Int) : mayB n = true ↔ 0 ≤ n ∧ n ≤ 4611686018427387904 := by simp [mayB]
theorem may_not (n : Int) : mayB n = false ↔ ¬ (0 ≤ n ∧ n ≤ 4611686018427387904) := by rw [← may_iff]; simp

/-- The sum so far, and what is left to add. -/
def addFrom : Int → List Int → Option Int
  | s, [] => some s
  | s, n :: l => if 0 ≤ n ∧ n ≤ 4611686018427387904 - s then addFrom (s + n) l else none

def addV (l : List Int) : Int := (addFrom 0 l).getD 0
def addOk (l : List Int) : Bool := (addFrom 0 l).isSome

theorem addFrom_nil (s : Int) : addFrom s [] = some s := rfl
theorem addFrom_yes (s n : Int) (l : List Int) (h0 : 0 ≤ n) (h1 : n ≤ 4611686018427387904 - s) : addFrom s (n :: l) = addFrom (s + n) l := by
  rw [addFrom, if_pos ⟨h0, h1⟩]
theorem addFrom_no (s n : Int) (l : List Int) (h : ¬ (0 ≤ n ∧ n ≤ 4611686018427387904 - s)) : addFrom s (n :: l) = none := by
  rw [addFrom, if_neg h]
theorem drop_cons (l : List Int) (k : Nat) (h : k < l.length) : l.drop k = l.getD k 0 :: l.drop (k + 1) := by
  rw [List.drop_eq_getElem_cons h, List.getD_eq_getElem?_getD, List.getElem?_eq_getElem h]; rfl

/-- The product so far, and what is left to multiply; all of it above 0. -/
def mulFrom : Int → List Int → Option Int
  | p, [] => some p
  | p, n :: l => if n ≤ 4611686018427387904 / p then mulFrom (p * n) l else none
def allMay : List Int → Bool
  | [] => true
  | n :: l => mayB n && allMay l
def anyNought : List Int → Bool
  | [] => false
  | n :: l => (n == 0) || anyNought l
def mulS (l : List Int) : Option Int := if allMay l = true then (if anyNought l = true then some 0 else mulFrom 1 l) else none
def mulV (l : List Int) : Int := (mulS l).getD 0
def mulOk (l : List Int) : Bool := (mulS l).isSome

theorem mulFrom_yes (p n : Int) (l : List Int) (h : n ≤ 4611686018427387904 / p) : mulFrom p (n :: l) = mulFrom (p * n) l := by rw [mulFrom, if_pos h]
theorem mulFrom_no (p n : Int) (l : List Int) (h : ¬ n ≤ 4611686018427387904 / p) : mulFrom p (n :: l) = none := by rw [mulFrom, if_neg h]
theorem mul_le_top (p n : Int) (hp : 1 ≤ p) (h : n ≤ 4611686018427387904 / p) : p * n ≤ 4611686018427387904 := by
  have h1 : p * n ≤ p * (4611686018427387904 / p) := Int.mul_le_mul_of_nonneg_left h (by omega)
  have h2 : p * (4611686018427387904 / p) ≤ 4611686018427387904 := Int.mul_ediv_self_le (by omega)
  omega
theorem one_le_mul (p n : Int) (hp : 1 ≤ p) (hn : 1 ≤ n) : 1 ≤ p * n := by
  have := Int.mul_le_mul hp hn (by omega) (by omega)
  omega
theorem allMay_drop (l : List Int) (k : Nat) (h : k < l.length) (ha : allMay l = true) : mayB (l.getD k 0) = true := by
  induction l generalizing k with
  | nil => simp at h
  | cons n l ih =>
    simp only [allMay, Bool.and_eq_true] at ha
    cases k with
    | zero => simpa using ha.1
    | succ k => simpa using ih k (by simpa using h) ha.2
theorem nought_drop (l : List Int) (k : Nat) (h : k < l.length) (ha : anyNought l = false) : l.getD k 0 ≠ 0 := by
  induction l generalizing k with
  | nil => simp at h
  | cons n l ih =>
    simp only [anyNought, Bool.or_eq_false_iff] at ha
    cases k with
    | zero => simpa using ha.1
    | succ k => simpa using ih k (by simpa using h) ha.2
theorem allMay_cons (n : Int) (l : List Int) : allMay (n :: l) = (mayB n && allMay l) := rfl
theorem anyNought_cons (n : Int) (l : List Int) : anyNought (n :: l) = ((n == 0) || anyNought l) := rfl

/-! Multiples, spans -/
def downV (n u : Int) : Int := if (0 ≤ n ∧ n ≤ 4611686018427387904) ∧ 1 ≤ u then n - n % u else 0
def upS (n u : Int) : Option Int :=
  if (0 ≤ n ∧ n ≤ 4611686018427387904) ∧ 1 ≤ u then (if n % u = 0 then some n else if u - n % u ≤ 4611686018427387904 - n then some (n + (u - n % u)) else none) else none
def upV (n u : Int) : Int := (upS n u).getD 0
def upOk (n u : Int) : Bool := (upS n u).isSome
def spanB (p l : Int) : Bool := decide (0 ≤ p) && decide (p ≤ 4611686018427387904) && decide (0 ≤ l) && decide (l ≤ 4611686018427387904 - p)
theorem span_iff (p l : Int) : spanB p l = true ↔ 0 ≤ p ∧ p ≤ 4611686018427387904 ∧ 0 ≤ l ∧ l ≤ 4611686018427387904 - p := by simp [spanB, and_assoc]
theorem addFrom_two (a b : Int) : addFrom 0 [a, b] = if 0 ≤ a ∧ a ≤ 4611686018427387904 ∧ 0 ≤ b ∧ b ≤ 4611686018427387904 - a then some (a + b) else none := by
  by_cases ha : 0 ≤ a ∧ a ≤ 4611686018427387904
  · by_cases hb : 0 ≤ b ∧ b ≤ 4611686018427387904 - a
    · rw [addFrom_yes _ _ _ ha.1 (by omega), addFrom_yes _ _ _ hb.1 (by omega), addFrom_nil, if_pos ⟨ha.1, ha.2, hb.1, hb.2⟩]; simp
    · rw [addFrom_yes _ _ _ ha.1 (by omega), addFrom_no _ _ _ (by omega), if_neg (by omega)]
  · rw [addFrom_no _ _ _ (by omega), if_neg (by omega)]
theorem addOk_two (a b : Int) : addOk [a, b] = spanB a b := by
  rw [Bool.eq_iff_iff, span_iff, addOk, addFrom_two]
  by_cases h : 0 ≤ a ∧ a ≤ 4611686018427387904 ∧ 0 ≤ b ∧ b ≤ 4611686018427387904 - a <;> simp [h]
theorem rem_bounds (n u : Int) (hn : 0 ≤ n) (hu : 1 ≤ u) : 0 ≤ n % u ∧ n % u < u ∧ n % u ≤ n := by
  have h1 := Int.mul_ediv_add_emod n u
  have h2 := Int.mul_nonneg (show 0 ≤ u by omega) (Int.ediv_nonneg hn (show 0 ≤ u by omega))
  exact ⟨Int.emod_nonneg _ (by omega), Int.emod_lt_of_pos _ (by omega), by omega⟩

end Plain

/-- A slice of ints that reads as a list: nil let in. -/
def Ints (w : World) (A : Option Addr) (n : Nat) (zs : List Int) : Prop :=
  zs.length = n ∧ (0 < n → ∃ b o, A = some ⟨b, o, none⟩ ∧ ∀ k, k < n → w.cell? ⟨b, o + k, none⟩ = some (.int .i64 (zs.getD k 0)))

theorem ints_two (w : World) (a b : Int) (t : TypeId) : Ints (w.alloc (.cells #[.int .i64 a, .int .i64 b] t)) (some ⟨w.heap.size, 0, none⟩) 2 [a, b] := by
  refine ⟨rfl, fun _ => ⟨_, _, rfl, fun k hk => ?_⟩⟩
  match k, hk with
  | 0, _ => simp [go_sem]
  | 1, _ => simp [go_sem]
theorem ints_two_at (w : World) (a b : Int) (t : TypeId) (s : Nat) (hs : s = w.heap.size) : Ints (w.alloc (.cells #[.int .i64 a, .int .i64 b] t)) (some ⟨s, 0, none⟩) 2 [a, b] := by
  subst hs
  exact ints_two w a b t


namespace Plain

/-- The first part's length. -/
def partLen (u p l : Int) : Int := if l < u - p % u then l else u - p % u
/-- The parts of l places from p on, at most f of them. -/
def partsFrom (u : Int) : Nat → Int → Int → List (Int × Int)
  | 0, _, _ => []
  | f + 1, p, l => if 0 < l then (p, partLen u p l) :: partsFrom u f (p + partLen u p l) (l - partLen u p l) else []
def partsOf (u p l : Int) : List (Int × Int) := if spanB p l = true ∧ l ≤ 4096 ∧ 1 ≤ u then partsFrom u l.toNat p l else []
def spanCells : List (Int × Int) → List Value
  | [] => []
  | s :: r => .int .i64 s.1 :: .int .i64 s.2 :: spanCells r

theorem partLen_bounds (u p l : Int) (hu : 1 ≤ u) (hp : 0 ≤ p) (hl : 0 < l) : 1 ≤ partLen u p l ∧ partLen u p l ≤ l ∧ partLen u p l ≤ u := by
  obtain ⟨r0, r1, r2⟩ := rem_bounds p u hp hu
  unfold partLen
  split <;> omega
theorem partsFrom_zero (u : Int) (f : Nat) (p l : Int) (h : ¬ 0 < l) : partsFrom u f p l = [] := by
  cases f with
  | zero => rfl
  | succ f => rw [partsFrom, if_neg h]
theorem partsFrom_step (u : Int) (f : Nat) (p l : Int) (h : 0 < l) (hf : l.toNat ≤ f) :
    partsFrom u f p l = (p, partLen u p l) :: partsFrom u (f - 1) (p + partLen u p l) (l - partLen u p l) := by
  cases f with
  | zero => omega
  | succ f => rw [partsFrom, if_pos h]; rfl
theorem spanCells_append (a b : List (Int × Int)) : spanCells (a ++ b) = spanCells a ++ spanCells b := by
  induction a with
  | nil => rfl
  | cons s a ih => simp [spanCells, ih]
theorem spanCells_length (a : List (Int × Int)) : (spanCells a).length = a.length * 2 := by
  induction a with
  | nil => rfl
  | cons s a ih => simp [spanCells, ih]; omega
theorem spanCells_at (a : List (Int × Int)) (k : Nat) (h : k < a.length) : (spanCells a)[k * 2]? = some (.int .i64 (a.getD k (0, 0)).1) ∧ (spanCells a)[k * 2 + 1]? = some (.int .i64 (a.getD k (0, 0)).2) := by
  induction a generalizing k with
  | nil => simp at h
  | cons s a ih =>
    cases k with
    | zero => exact ⟨rfl, rfl⟩
    | succ k =>
      have := ih k (by simpa using h)
      rw [show (k + 1) * 2 = k * 2 + 2 by omega]
      exact this

end Plain

/-- A span in a variable: block b holds just its two numbers. -/
def BoxAt (w : World) (b : Nat) (t : TypeId) (p l : Int) : Prop := w.heap[b]? = some (.cells #[.int .i64 p, .int .i64 l] t (0, 0))

theorem BoxAt.one {w : World} {b : Nat} {t : TypeId} {p l : Int} (h : BoxAt w b t p l) : w.cell? ⟨b, 0, none⟩ = some (.int .i64 p) ∧ w.cell? ⟨b, 1, none⟩ = some (.int .i64 l) ∧ w.frozen? ⟨b, 0, none⟩ = false ∧ w.frozen? ⟨b, 1, none⟩ = false := by
  unfold BoxAt at h
  simp [World.cell?, World.frozen?, h]
theorem BoxAt.lt {w : World} {b : Nat} {t : TypeId} {p l : Int} (h : BoxAt w b t p l) : b < w.heap.size := by
  rcases Nat.lt_or_ge b w.heap.size with hlt | hge
  · exact hlt
  · unfold BoxAt at h; rw [Array.getElem?_eq_none hge] at h; cases h
theorem BoxAt.of_block {w w' : World} {b : Nat} {t : TypeId} {p l : Int} (h : BoxAt w b t p l) (he : w'.heap[b]? = w.heap[b]?) : BoxAt w' b t p l := by
  unfold BoxAt; rw [he]; exact h
theorem BoxAt.below {B : Nat} {w w' : World} {b : Nat} {t : TypeId} {p l : Int} (h : BoxAt w b t p l) (hb : Below B w w') (hB : b < B) : BoxAt w' b t p l := h.of_block (hb.block b hB)
theorem BoxAt.put {w : World} {b : Nat} {t : TypeId} {p l : Int} (h : BoxAt w b t p l) (x y : Int) : BoxAt ((w.setCell ⟨b, 0, none⟩ (.int .i64 x)).setCell ⟨b, 1, none⟩ (.int .i64 y)) b t x y := by
  unfold BoxAt at h ⊢
  simp [World.setCell, Array.getElem?_modify, h]
theorem BoxAt.new (w : World) (t : TypeId) (p l : Int) : BoxAt (w.alloc (.cells #[.int .i64 p, .int .i64 l] t)) w.heap.size t p l := by
  unfold BoxAt
  exact heap_alloc_new w _



set_option maxHeartbeats 400000 in
theorem may_yes (n : Int) (w : World) (h0 : 0 ≤ n) (h1 : n ≤ 4611686018427387904) :
    Calls Try.prog 53 #[.int .i64 n] w fun e w' => e = .returned (.bool true) ∧ w = w' := by
  go_enter Try.func53, Try.ntmps53
  go_wp2
  go_ret
  exact ⟨rfl, rfl⟩

set_option maxHeartbeats 400000 in
theorem may_no (n : Int) (w : World) (h : ¬ (0 ≤ n ∧ n ≤ 4611686018427387904)) :
    Calls Try.prog 53 #[.int .i64 n] w fun e w' => e = .returned (.bool false) ∧ w = w' := by
  by_cases h0 : 0 ≤ n
  · have h1 : ¬ n ≤ 4611686018427387904 := fun h1 => h ⟨h0, h1⟩
    clear h
    go_enter Try.func53, Try.ntmps53
    go_wp2
    go_ret
    exact ⟨rfl, rfl⟩
  · clear h
    go_enter Try.func53, Try.ntmps53
    go_wp2
    go_ret
    exact ⟨rfl, rfl⟩

set_option maxHeartbeats 400000 in
theorem add_any (A : Option Addr) (n c : Nat) (zs : List Int) (w : World) (hn : n ≤ maxLen) (hr : Ints w A n zs) :
    Calls Try.prog 44 #[.slice A n c] w fun e w' => e = .returned (.tuple #[.int .i64 (Plain.addV zs), .bool (Plain.addOk zs)]) ∧ w = w' := by
  unfold maxLen at hn
  obtain ⟨hl, hr⟩ := hr
  have HR := Lib.hid hr; clear hr
  have HL := Lib.hid hl; clear hl
  go_enter Try.func44, Try.ntmps44
  go_wp2
  go_loop [4, 9] (fun s i => ∃ (k : Nat) (t : Int), k ≤ n ∧ i = .int .i64 k ∧ s = .int .i64 t ∧ 0 ≤ t ∧ t ≤ 4611686018427387904 ∧ Hid (Plain.addFrom 0 zs = Plain.addFrom t (zs.drop k))) (fun _ i => n - (intOf i).toNat)
  case atStart => exact ⟨0, 0, Nat.zero_le _, rfl, rfl, by omega, by omega, by simp [Hid]⟩
  case round =>
    obtain ⟨k, t, hk, rfl, rfl, ht0, ht1, HE⟩ := hrel
    by_cases hlt : k < n
    · obtain ⟨b, o, rfl, hc⟩ := HR.out (by omega)
      have hck := hc k hlt
      clear hc
      have hd := Plain.drop_cons zs k (by have := HL.out; omega)
      have HD := Lib.hid hd; clear hd
      generalize zs.getD k 0 = x at *
      by_cases hx : 0 ≤ x ∧ x ≤ 4611686018427387904
      · obtain ⟨hx0, hx1⟩ := hx
        by_cases hs : x ≤ 4611686018427387904 - t
        · go_wp2_with (go_at_call 53; refine (may_yes _ _ hx0 hx1).mono ?_; rintro e w' ⟨rfl, rfl⟩)
          go_round
          case rel => exact ⟨k + 1, t + x, by omega, by go_num, by go_num, by omega, by omega, by unfold Hid; rw [HE.out, HD.out, Plain.addFrom_yes _ _ _ hx0 hs]⟩
          case measure => simp [intOf]; omega
        · have hv : Plain.addFrom 0 zs = none := by rw [HE.out, HD.out, Plain.addFrom_no _ _ _ (fun h => hs h.2)]
          have HV := Lib.hid hv; clear hv
          go_wp2_with (go_at_call 53; refine (may_yes _ _ hx0 hx1).mono ?_; rintro e w' ⟨rfl, rfl⟩)
          go_ret2
          exact ⟨by simp [Plain.addV, Plain.addOk, HV.out], rfl⟩
      · have hv : Plain.addFrom 0 zs = none := by rw [HE.out, HD.out, Plain.addFrom_no _ _ _ (fun h => hx ⟨h.1, by omega⟩)]
        have HV := Lib.hid hv; clear hv
        go_wp2_with (go_at_call 53; refine (may_no _ _ hx).mono ?_; rintro e w' ⟨rfl, rfl⟩)
        go_ret2
        exact ⟨by simp [Plain.addV, Plain.addOk, HV.out], rfl⟩
    · have hv : Plain.addFrom 0 zs = some t := by rw [HE.out, List.drop_of_length_le (by have := HL.out; omega), Plain.addFrom_nil]
      have HV := Lib.hid hv; clear hv
      go_wp2
      go_ret2
      exact ⟨by simp [Plain.addV, Plain.addOk, HV.out], rfl⟩

set_option maxHeartbeats 400000 in
theorem span_any (p l : Int) (w : World) :
    Calls Try.prog 49 #[.agg #[.int .i64 p, .int .i64 l]] w fun e w' => e = .returned (.bool (Plain.spanB p l)) ∧ Below w.heap.size w w' := by
  have hv := Plain.addOk_two p l
  have HV := Lib.hid hv; clear hv
  go_enter Try.func49, Try.ntmps49
  go_wp2_with (go_at_call 44; refine (add_any _ _ _ [p, l] _ (by decide) (ints_two_at _ _ _ _ _ (by simp))).mono ?_; rintro e w' ⟨rfl, rfl⟩)
  go_ret
  exact ⟨by simp [HV.out], ((Below.refl _ _).alloc (Nat.le_refl _) _).alloc (by simp) _⟩
theorem below_set2 {B b : Nat} {w w' : World} (h : Below B w w') (hb : B ≤ b) (x y : Value) : Below B w ((w'.setCell ⟨b, 0, none⟩ x).setCell ⟨b, 1, none⟩ y) :=
  (h.setCell (p := ⟨b, 0, none⟩) hb x).setCell (p := ⟨b, 1, none⟩) hb y


theorem info27 : (Try.prog.info? 56).map (fun i => (i.zero, i.size, i.bytes)) = some (some (.agg #[.int .i64 0, .int .i64 0]), 2, 16) := by kernel_rfl

/-- What Parts leaves: a row of its own, with the parts; nothing else has turned. -/
def PartsPost (u p l : Int) (w : World) (e : Ending) (w' : World) : Prop :=
  ∃ v, e = .returned v ∧ w'.ownsRow (w.heap.size + 1) 56 2 v (Plain.partsOf u p l).length (Plain.spanCells (Plain.partsOf u p l)) ∧ Below w.heap.size w w'

def boxLen (w : World) (b : Nat) : Nat := (intOf ((w.cell? ⟨b, 1, none⟩).getD undef)).toNat

theorem boxLen_of {w : World} {b : Nat} {t : TypeId} {p l : Int} (h : BoxAt w b t p l) : boxLen w b = l.toNat := by
  unfold boxLen
  rw [h.one.2.1]
  rfl

set_option maxHeartbeats 400000 in
theorem parts_noA (p l u : Int) (w : World) (hs : Plain.spanB p l = false) :
    Calls Try.prog 36 #[.agg #[.int .i64 p, .int .i64 l], .int .i64 u] w (PartsPost u p l w) := by
  have hv : Plain.partsOf u p l = [] := by rw [Plain.partsOf, if_neg (by simp [hs])]
  have HV := Lib.hid hv; clear hv
  have HS := Lib.hid hs; clear hs
  go_enter Try.func36, Try.ntmps36
  go_wp2_with fail
  refine (span_any _ _ _).mono ?_
  rintro e w1 ⟨rfl, k1⟩
  rw [HS.out]
  have k4 : Below w.heap.size w w1 := ((Below.refl w.heap.size w).alloc (Nat.le_refl _) _).trans (k1.mono (by simp))
  go_wp2
  go_ret
  exact ⟨_, rfl, by rw [HV.out]; exact World.ownsRow_nil _ _ _ _, k4⟩

set_option maxHeartbeats 400000 in
theorem parts_yes (p l u : Int) (w : World) (hs : Plain.spanB p l = true) (hl : l ≤ 4096) (hu : 1 ≤ u) (hu2 : u ≤ 9223372036854775807) :
    Calls Try.prog 36 #[.agg #[.int .i64 p, .int .i64 l], .int .i64 u] w (PartsPost u p l w) := by
  obtain ⟨i0, hi, hz0, hz1, hz2⟩ := info_parts info27
  have hv : Plain.partsOf u p l = Plain.partsFrom u l.toNat p l := by rw [Plain.partsOf, if_pos ⟨hs, hl, hu⟩]
  have HV := Lib.hid hv; clear hv
  have HS := Lib.hid hs
  rw [Plain.span_iff] at hs
  obtain ⟨hp0, hp1, hl0, hl1⟩ := hs
  go_enter Try.func36, Try.ntmps36
  go_wp2_with fail
  refine (span_any _ _ _).mono ?_
  rintro e w1 ⟨rfl, k1⟩
  rw [HS.out]
  have s1 : w.heap.size + 1 ≤ w1.heap.size := by have := k1.size; simpa using this
  have b1 : BoxAt w1 w.heap.size 56 p l := (BoxAt.new w 56 p l).below k1 (by simp)
  obtain ⟨c0, c1, f0, f1⟩ := b1.one
  have k4 : Below w.heap.size w w1 := ((Below.refl w.heap.size w).alloc (Nat.le_refl _) _).trans (k1.mono (by simp))
  go_wp2
  go_loopw [5] (fun v wr => ∃ (f : Nat) (p' l' : Int) (acc : List (Int × Int)), BoxAt wr w.heap.size 56 p' l' ∧ wr.ownsRow (w.heap.size + 1) 56 2 v acc.length (Plain.spanCells acc) ∧ Below w.heap.size w wr ∧ 0 ≤ p' ∧ 0 ≤ l' ∧ l' ≤ 4611686018427387904 - p' ∧ acc.length + l'.toNat ≤ 4096 ∧ l'.toNat ≤ f ∧ Hid (Plain.partsFrom u l.toNat p l = acc ++ Plain.partsFrom u f p' l'))
    (fun _ wr => boxLen wr w.heap.size)
  case atStart => exact ⟨l.toNat, p, l, [], b1, World.ownsRow_nil _ _ _ _, k4, hp0, hl0, hl1, by simp; omega, Nat.le_refl _, by simp [Hid]⟩
  case round =>
    clear c0 c1 f0 f1 b1 k4 k1 s1
    obtain ⟨f, p', l', acc, hbox, hown, hbel, hp', hl', hpl, hacc, hf, HE⟩ := hrel
    obtain ⟨c0, c1, f0, f1⟩ := hbox.one
    have hlt := hbox.lt
    by_cases hpos : 0 < l'
    · obtain ⟨r0, r1, r2⟩ := Plain.rem_bounds p' u hp' hu
      obtain ⟨n0, n1, n2⟩ := Plain.partLen_bounds u p' l' hu hp' hpos
      have hst := Plain.partsFrom_step u f p' l' hpos hf
      have HST := Lib.hid hst; clear hst
      have hn : Plain.partLen u p' l' = if l' < u - p' % u then l' else u - p' % u := rfl
      have HN := Lib.hid hn; clear hn
      have hownD : ∀ m, (wr.drewN m).ownsRow (w.heap.size + 1) 56 2 u5 acc.length (Plain.spanCells acc) := fun _ => hown
      have hln := hown.lt
      rcases Int.lt_or_le l' (u - p' % u) with hmin | hmin
      · rw [show Plain.partLen u p' l' = l' from HN.out.trans (if_pos hmin)] at HST n0 n1 n2
        go_wp2
        go_quiet (fail)
        go_wp2_with (at_builtin; refine wpList_append_own _ rfl _ _ 53 rfl (w.heap.size + 1) 56 i0 (.agg #[.int .i64 0, .int .i64 0]) 2 16 Try.underlying53 hi hz0 hz1 hz2 rfl (by decide) _ _ _ rfl ((hownD nq).alloc _) ⟨wr.heap.size, 0, none⟩ 1 1 [.int .i64 p', .int .i64 (l')] rfl rfl (cell_two_new _ _ _ _) ?_ ?_ ?_ ?_ ?_)
        · intro x hx
          simp at hx
          rcases hx with rfl | rfl <;> rfl
        · unfold maxLen; omega
        · omega
        · simp; omega
        · intro v' w3 hown3 hgrow hnil
          clear hnil
          have hblk : w3.heap[w.heap.size]? = wr.heap[w.heap.size]? := by
            rw [hgrow.block w.heap.size (by simp; omega) (fun h => by have := (hln _ h.symm).1; omega)]
            exact Below.heap_alloc (wr.drewN nq) _ _ hlt
          have hbox3 := hbox.of_block hblk
          have hbel3 : Below w.heap.size w w3 := Below.grown ((below_drewN hbel nq).alloc (by simp; omega) _) hgrow (by simp; omega) (fun j hj => by have := (hln _ hj).1; omega)
          have hlt3 := hbox3.lt
          have hput := hbox3.put (p' + (l')) 0
          have hown4 := ownsRow_setCell_below (ownsRow_setCell_below hown3 (a := ⟨w.heap.size, 0, none⟩) (by simp) (.int .i64 (p' + (l')))) (a := ⟨w.heap.size, 1, none⟩) (by simp) (.int .i64 0)
          have hbel4 := below_set2 hbel3 (b := w.heap.size) (Nat.le_refl _) (.int .i64 (p' + (l'))) (.int .i64 0)
          obtain ⟨e0, e1, g0, g1⟩ := hbox3.one
          clear c0 c1 f0 f1 hownD hown
          have X := Lib.hid hput
          have Y := Lib.hid hown4
          have Z := Lib.hid hbel4
          clear hput hown4 hbel4 hown3 hblk hgrow
          go_wp2
          go_roundw
          case rel => exact ⟨f - 1, p' + (l'), 0, acc ++ [(p', l')], X.out, by rw [List.length_append, Plain.spanCells_append]; exact Y.out, Z.out, by omega, by omega, by omega, by simp; omega, by omega, by unfold Hid; rw [HE.out, HST.out]; simp⟩
          case measure => rw [boxLen_of X.out, boxLen_of hbox]; omega
      · rw [show Plain.partLen u p' l' = u - p' % u from HN.out.trans (if_neg (by omega))] at HST n0 n1 n2
        go_wp2
        go_quiet (fail)
        go_wp2_with (at_builtin; refine wpList_append_own _ rfl _ _ 53 rfl (w.heap.size + 1) 56 i0 (.agg #[.int .i64 0, .int .i64 0]) 2 16 Try.underlying53 hi hz0 hz1 hz2 rfl (by decide) _ _ _ rfl ((hownD nq).alloc _) ⟨wr.heap.size, 0, none⟩ 1 1 [.int .i64 p', .int .i64 (u - p' % u)] rfl rfl (cell_two_new _ _ _ _) ?_ ?_ ?_ ?_ ?_)
        · intro x hx
          simp at hx
          rcases hx with rfl | rfl <;> rfl
        · unfold maxLen; omega
        · omega
        · simp; omega
        · intro v' w3 hown3 hgrow hnil
          clear hnil
          have hblk : w3.heap[w.heap.size]? = wr.heap[w.heap.size]? := by
            rw [hgrow.block w.heap.size (by simp; omega) (fun h => by have := (hln _ h.symm).1; omega)]
            exact Below.heap_alloc (wr.drewN nq) _ _ hlt
          have hbox3 := hbox.of_block hblk
          have hbel3 : Below w.heap.size w w3 := Below.grown ((below_drewN hbel nq).alloc (by simp; omega) _) hgrow (by simp; omega) (fun j hj => by have := (hln _ hj).1; omega)
          have hlt3 := hbox3.lt
          have hput := hbox3.put (p' + (u - p' % u)) (l' - (u - p' % u))
          have hown4 := ownsRow_setCell_below (ownsRow_setCell_below hown3 (a := ⟨w.heap.size, 0, none⟩) (by simp) (.int .i64 (p' + (u - p' % u)))) (a := ⟨w.heap.size, 1, none⟩) (by simp) (.int .i64 (l' - (u - p' % u)))
          have hbel4 := below_set2 hbel3 (b := w.heap.size) (Nat.le_refl _) (.int .i64 (p' + (u - p' % u))) (.int .i64 (l' - (u - p' % u)))
          obtain ⟨e0, e1, g0, g1⟩ := hbox3.one
          clear c0 c1 f0 f1 hownD hown
          have X := Lib.hid hput
          have Y := Lib.hid hown4
          have Z := Lib.hid hbel4
          clear hput hown4 hbel4 hown3 hblk hgrow
          go_wp2
          go_roundw
          case rel => exact ⟨f - 1, p' + (u - p' % u), l' - (u - p' % u), acc ++ [(p', u - p' % u)], X.out, by rw [List.length_append, Plain.spanCells_append]; exact Y.out, Z.out, by omega, by omega, by omega, by simp; omega, by omega, by unfold Hid; rw [HE.out, HST.out]; simp⟩
          case measure => rw [boxLen_of X.out, boxLen_of hbox]; omega
    · have hq : Plain.partsFrom u l.toNat p l = acc := by rw [HE.out, Plain.partsFrom_zero _ _ _ _ hpos, List.append_nil]
      have HQ := Lib.hid hq; clear hq
      go_wp2
      go_ret
      exact ⟨_, rfl, by rw [HV.out, HQ.out]; exact hown, hbel⟩

set_option maxHeartbeats 400000 in
theorem parts_noB (p l u : Int) (w : World) (hs : Plain.spanB p l = true) (hl : ¬ (l ≤ 4096 ∧ 1 ≤ u)) :
    Calls Try.prog 36 #[.agg #[.int .i64 p, .int .i64 l], .int .i64 u] w (PartsPost u p l w) := by
  have hv : Plain.partsOf u p l = [] := by rw [Plain.partsOf, if_neg (fun h => hl h.2)]
  have HV := Lib.hid hv; clear hv
  have HS := Lib.hid hs; clear hs
  by_cases h1 : l ≤ 4096
  · have h2 : u < 1 := by omega
    clear hl
    go_enter Try.func36, Try.ntmps36
    go_wp2_with fail
    refine (span_any _ _ _).mono ?_
    rintro e w1 ⟨rfl, k1⟩
    rw [HS.out]
    have b1 : BoxAt w1 w.heap.size 56 p l := (BoxAt.new w 56 p l).below k1 (by simp)
    obtain ⟨c0, c1, f0, f1⟩ := b1.one
    have k4 : Below w.heap.size w w1 := ((Below.refl w.heap.size w).alloc (Nat.le_refl _) _).trans (k1.mono (by simp))
    go_wp2
    go_ret
    exact ⟨_, rfl, by rw [HV.out]; exact World.ownsRow_nil _ _ _ _, k4⟩
  · clear hl
    go_enter Try.func36, Try.ntmps36
    go_wp2_with fail
    refine (span_any _ _ _).mono ?_
    rintro e w1 ⟨rfl, k1⟩
    rw [HS.out]
    have b1 : BoxAt w1 w.heap.size 56 p l := (BoxAt.new w 56 p l).below k1 (by simp)
    obtain ⟨c0, c1, f0, f1⟩ := b1.one
    have k4 : Below w.heap.size w w1 := ((Below.refl w.heap.size w).alloc (Nat.le_refl _) _).trans (k1.mono (by simp))
    go_wp2
    go_ret
    exact ⟨_, rfl, by rw [HV.out]; exact World.ownsRow_nil _ _ _ _, k4⟩

theorem parts_any (p l u : Int) (w : World) (hu2 : u ≤ 9223372036854775807) :
    Calls Try.prog 36 #[.agg #[.int .i64 p, .int .i64 l], .int .i64 u] w (PartsPost u p l w) := by
  cases hs : Plain.spanB p l
  · exact parts_noA p l u w hs
  · by_cases h : l ≤ 4096 ∧ 1 ≤ u
    · exact parts_yes p l u w hs h.1 h.2 hu2
    · exact parts_noB p l u w hs h

end Go.Proofs.Ytigfimlpjmmpoaa
