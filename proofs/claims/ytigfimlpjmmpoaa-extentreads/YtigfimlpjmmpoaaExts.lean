/- Blocks of a file in memory: as values, in rows, in rows of one's own; how one is loaded, stored, boxed, built, compared. -/
import Derived.Test.YtigfimlpjmmpoaaRows
import Derived.Test.YtigfimlpjmmpoaaPlain
import Derived.WalkKit
import Derived.OpenShut
import Derived.Laws.OwnMore
import Derived.Laws.AppendOwnNone
import Derived.Deep.AppendLies
import Derived.Deep.AppendSrc
import Derived.Deep.WholeRow
import Derived.Deep.MidRow
import Derived.Laws.CopyOwn
import Derived.Laws.BytesArg
import Derived.Lib.SliceRun
import Derived.Lib.AppendZeros
import Derived.ChangeKeysEq
import Derived.WalkSpells
import Derived.WalkLawsBesides
import Derived.Lib.Hide
namespace Go.Proofs.Ytigfimlpjmmpoaa
open Go.RowKit

/-- A block: its number, its bytes. -/
structure Ex where
  no : Int
  bs : List Int
deriving DecidableEq, Inhabited

def Ex.ok (e : Ex) : Prop := e.bs.length = 8 ∧ ∀ x ∈ e.bs, 0 ≤ x ∧ x ≤ 255
def ecl (e : Ex) : List Value := .int .i64 e.no :: e.bs.map (Value.int .u8)
def ev (e : Ex) : Value := .agg (ecl e).toArray
def nul8 : List Int := [0, 0, 0, 0, 0, 0, 0, 0]
theorem ecl_len {e : Ex} (h : e.ok) : (ecl e).length = 9 := by simp [ecl, h.1]
theorem ecl_size {e : Ex} (h : e.ok) : (ecl e).toArray.size = 9 := by simp [ecl, h.1]
theorem ecl_one (e : Ex) : ∀ v ∈ ecl e, v.oneCell' = true := by
  intro v hv
  simp [ecl] at hv
  rcases hv with rfl | ⟨n, _, rfl⟩ <;> rfl
theorem ok_nul (n : Int) : (Ex.mk n nul8).ok := ⟨rfl, by intro x hx; simp [nul8] at hx; omega⟩
theorem ecl_no (e : Ex) : (ecl e)[0]? = some (.int .i64 e.no) := rfl
theorem ecl_byte {e : Ex} (h : e.ok) (k : Nat) (hk : k < 8) : (ecl e)[1 + k]? = some (.int .u8 (e.bs.getD k 0)) := by
  have := h.1
  simp [ecl, Nat.add_comm 1 k, List.getD_eq_getElem?_getD, List.getElem?_eq_getElem (show k < e.bs.length by omega)]
theorem Ex.at_ok {e : Ex} (h : e.ok) (k : Nat) : 0 ≤ e.bs.getD k 0 ∧ e.bs.getD k 0 ≤ 255 := by
  rw [List.getD_eq_getElem?_getD]
  by_cases hk : k < e.bs.length
  · rw [List.getElem?_eq_getElem hk]; exact h.2 _ (List.getElem_mem hk)
  · rw [List.getElem?_eq_none (by omega)]; exact ⟨by decide, by decide⟩

def exCells (L : List Ex) : List Value := L.flatMap ecl
theorem exCells_append (a b : List Ex) : exCells (a ++ b) = exCells a ++ exCells b := by simp [exCells]
theorem exCells_one (e : Ex) : exCells [e] = ecl e := by simp [exCells]
theorem exCells_len : ∀ L : List Ex, (∀ e ∈ L, e.ok) → (exCells L).length = L.length * 9
  | [], _ => rfl
  | e :: L, h => by
    have := exCells_len L (fun x hx => h x (by simp [hx]))
    have h1 := ecl_len (h e (by simp))
    simp only [exCells, List.flatMap_cons, List.length_append, List.length_cons] at this ⊢
    omega
theorem exCells_ones (L : List Ex) : ∀ v ∈ exCells L, v.oneCell' = true := by
  intro v hv
  simp [exCells] at hv
  obtain ⟨e, _, h⟩ := hv
  exact ecl_one e v h
theorem exCells_at (L : List Ex) (h : ∀ e ∈ L, e.ok) (j : Nat) (hj : j < L.length) (q : Nat) (hq : q < 9) : (exCells L)[j * 9 + q]? = (ecl (L.getD j default))[q]? := by
  induction L generalizing j with
  | nil => simp at hj
  | cons e L ih =>
    have h1 := ecl_len (h e (by simp))
    have e0 : exCells (e :: L) = ecl e ++ exCells L := rfl
    rw [e0]
    cases j with
    | zero => rw [List.getElem?_append_left (by omega)]; simp
    | succ j =>
      rw [List.getElem?_append_right (by omega), h1, show (j + 1) * 9 + q - 9 = j * 9 + q by omega, ih (fun x hx => h x (by simp [hx])) j (by simpa using hj)]
      rfl

/-- A slice of blocks: nil let in. -/
structure Exts (w : World) (A : Option Addr) (n c : Nat) (L : List Ex) : Prop where
  len : L.length = n
  ok : ∀ e ∈ L, e.ok
  le : n ≤ c
  mx : c ≤ maxLen
  nil : A = none → n = 0 ∧ c = 0
  cells : 0 < n → ∃ b o, A = some ⟨b, o, none⟩ ∧ b < w.heap.size ∧ ∀ j, j < n → w.rangeAt b (o + j * 9) (ecl (L.getD j default))
theorem exts_nil (w : World) : Exts w none 0 0 [] := ⟨rfl, by simp, Nat.le_refl _, Nat.zero_le _, fun _ => ⟨rfl, rfl⟩, fun h => absurd h (by omega)⟩
theorem Exts.only {S : Nat → Prop} {w w' : World} {A : Option Addr} {n c : Nat} {L : List Ex} (h : Exts w A n c L) (hb : Only S w w') (hS : ∀ g o, A = some ⟨g, o, none⟩ → 0 < n → ¬ S g) : Exts w' A n c L := by
  refine ⟨h.len, h.ok, h.le, h.mx, h.nil, fun hn => ?_⟩
  obtain ⟨b, o, rfl, hl, hc⟩ := h.cells hn
  exact ⟨b, o, rfl, Nat.lt_of_lt_of_le hl hb.size, fun j hj i v hv => (hb.cell (p := ⟨b, o + j * 9 + i, none⟩) hl (hS b o rfl hn)).trans (hc j hj i v hv)⟩
theorem Exts.on {w w' : World} {A : Option Addr} {n c : Nat} {L : List Ex} (h : Exts w A n c L) (hb : Below w.heap.size w w') : Exts w' A n c L :=
  h.only (S := fun _ => False) (Only.of_below hb) (fun _ _ _ _ h => h)
theorem Exts.drewN {w : World} {A : Option Addr} {n c : Nat} {L : List Ex} (h : Exts w A n c L) (m : Nat) : Exts (w.drewN m) A n c L := h.on (below_drewN (Below.refl _ _) m)
theorem Exts.max {w : World} {A : Option Addr} {n c : Nat} {L : List Ex} (h : Exts w A n c L) : n ≤ 9223372036854775807 := by have := h.le; have := h.mx; unfold maxLen at this; omega
theorem Exts.get {w : World} {A : Option Addr} {n c : Nat} {L : List Ex} (h : Exts w A n c L) (j : Nat) (hj : j < n) : (L.getD j default).ok := by
  have := h.len
  rw [List.getD_eq_getElem?_getD, List.getElem?_eq_getElem (by omega)]
  exact h.ok _ (List.getElem_mem (by omega))
/-- A piece of it, the address as Go leaves it. -/
theorem Exts.piece {w : World} {A : Option Addr} {n c : Nat} {L : List Ex} (h : Exts w A n c L) (i m : Nat) (hm : i + m ≤ n) : Exts w (if c = i then A else A.map (·.add (i * 9))) m (c - i) ((L.drop i).take m) := by
  have h1 := h.len; have h2 := h.le; have h3 := h.mx
  refine ⟨by simp; omega, fun e he => h.ok e (List.mem_of_mem_drop (List.mem_of_mem_take he)), by omega, by omega, fun ha => ?_, fun hp => ?_⟩
  · split at ha
    · have := h.nil ha; omega
    · cases A with
      | none => have := h.nil rfl; omega
      | some a => simp at ha
  · obtain ⟨b, o, rfl, hl, hc⟩ := h.cells (by omega)
    rw [if_neg (by omega)]
    refine ⟨b, o + i * 9, by simp [Addr.add_mid], hl, fun k hk => ?_⟩
    have e : ((L.drop i).take m).getD k default = L.getD (i + k) default := by simp [List.getD_eq_getElem?_getD, hk]
    rw [e, show o + i * 9 + k * 9 = o + (i + k) * 9 by omega]
    exact hc (i + k) (by omega)
theorem Exts.src {w : World} {A : Option Addr} {n c : Nat} {L : List Ex} (h : Exts w A n c L) : ∀ ad, A = some ad → ∀ j u, (exCells L)[j]? = some u → w.cell? (ad.add j) = some u := by
  intro ad ha j u hu
  have hl : j < (exCells L).length := (List.getElem?_eq_some_iff.1 hu).1
  rw [exCells_len L h.ok, h.len] at hl
  obtain ⟨b, o, rfl, _, hc⟩ := h.cells (by omega)
  injection ha with ha; subst ha
  have hq := exCells_at L h.ok (j / 9) (by rw [h.len]; omega) (j % 9) (by omega)
  rw [show j / 9 * 9 + j % 9 = j by omega, hu] at hq
  rw [Addr.add_mid, show o + j = o + j / 9 * 9 + j % 9 by omega]
  exact hc (j / 9) (by omega) _ _ hq.symm
theorem Exts.no {w : World} {b o n c : Nat} {L : List Ex} (h : Exts w (some ⟨b, o, none⟩) n c L) (j : Nat) (hj : j < n) : w.cell? ⟨b, o + j * 9, none⟩ = some (.int .i64 (L.getD j default).no) := by
  obtain ⟨b', o', he, _, hc⟩ := h.cells (by omega)
  injection he with he; injection he with e1 e2; subst e1 e2
  exact hc j hj 0 _ (ecl_no _)
theorem Exts.byte {w : World} {b o n c : Nat} {L : List Ex} (h : Exts w (some ⟨b, o, none⟩) n c L) (j : Nat) (hj : j < n) (k : Nat) (hk : k < 8) : w.cell? ⟨b, o + j * 9 + 1 + k, none⟩ = some (.int .u8 ((L.getD j default).bs.getD k 0)) := by
  obtain ⟨b', o', he, _, hc⟩ := h.cells (by omega)
  injection he with he; injection he with e1 e2; subst e1 e2
  rw [Nat.add_assoc]
  exact hc j hj (1 + k) _ (ecl_byte (h.get j hj) k hk)

/-- Cells put into one of the blocks. -/
theorem Exts.put {w : World} {g o n c : Nat} {L : List Ex} (h : Exts w (some ⟨g, o, none⟩) n c L) (j p : Nat) (vs : List Value) (e' : Ex) (hj : j < n) (hp : p + vs.length ≤ 9) (ho : e'.ok) (he : ecl e' = splice (ecl (L.getD j default)) p vs) :
    Exts (w.setCells g (o + j * 9 + p) vs) (some ⟨g, o, none⟩) n c (L.set j e') := by
  have h1 := h.len
  obtain ⟨g', o', ha, hl, hc⟩ := h.cells (by omega)
  injection ha with ha; injection ha with e1 e2; subst e1 e2
  have hoz : ∀ i, i < n → (L.getD i default).ok := h.get
  refine ⟨by simpa using h1, fun e hm => ?_, h.le, h.mx, (fun h => by cases h), fun _ => ⟨g, o, rfl, ?_, fun i hi => ?_⟩⟩
  · rcases List.mem_or_eq_of_mem_set hm with hm | rfl
    · exact h.ok e hm
    · exact ho
  · have : ∀ (vs : List Value) (q : Nat) (w : World), g < w.heap.size → g < (w.setCells g q vs).heap.size := by
      intro vs
      induction vs with
      | nil => intro q w h; exact h
      | cons v r ih => intro q w h; exact ih _ _ (by simpa [World.setCell] using h)
    exact this _ _ _ hl
  · by_cases hij : i = j
    · subst hij
      have hE : (L.set i e').getD i default = e' := by rw [List.getD_eq_getElem?_getD, List.getElem?_set_self (by omega)]; rfl
      rw [hE]
      have hold := hc i hi
      have hlen := ecl_len (hoz i hi)
      generalize L.getD i default = e0 at he hold hlen
      intro q v hv
      have hq : q < 9 := by have := (List.getElem?_eq_some_iff.1 hv).1; rw [ecl_len ho] at this; exact this
      rw [he] at hv
      unfold splice at hv
      by_cases q1 : q < p
      · rw [World.cell?_setCells_out _ _ _ _ ⟨g, o + i * 9 + q, none⟩ (fun _ _ => by left; show o + i * 9 + q < o + i * 9 + p; omega)]
        rw [List.getElem?_append_left (by simp; omega), List.getElem?_take_of_lt q1] at hv
        exact hold q v hv
      · by_cases q2 : q < p + vs.length
        · have hin := World.cell?_setCells_in g vs (o + i * 9 + p) w (fun k hk => by
            rw [show o + i * 9 + p + k = o + i * 9 + (p + k) by omega, hold (p + k) _ (List.getElem?_eq_getElem (by omega))]; rfl) (q - p) (by omega)
          rw [show o + i * 9 + p + (q - p) = o + i * 9 + q by omega] at hin
          rw [hin]
          rw [List.getElem?_append_right (by simp; omega), List.getElem?_append_left (by simp; omega)] at hv
          rw [← hv, List.length_take, Nat.min_eq_left (by omega), List.getElem?_eq_getElem (by omega)]
        · rw [World.cell?_setCells_out _ _ _ _ ⟨g, o + i * 9 + q, none⟩ (fun _ _ => by right; show o + i * 9 + p + vs.length ≤ o + i * 9 + q; omega)]
          rw [List.getElem?_append_right (by simp; omega), List.getElem?_append_right (by simp; omega), List.length_take, Nat.min_eq_left (by omega), List.getElem?_drop, show p + vs.length + (q - p - vs.length) = q by omega] at hv
          exact hold q v hv
    · have hE : (L.set j e').getD i default = L.getD i default := by rw [List.getD_eq_getElem?_getD, List.getElem?_set_ne (by omega), List.getD_eq_getElem?_getD]
      rw [hE]
      refine World.rangeAt_setCells_apart (hc i hi) _ _ _ (.inr ?_)
      rw [ecl_len (hoz i hi)]
      omega
theorem splice_no (e : Ex) (n : Int) : ecl ⟨n, e.bs⟩ = splice (ecl e) 0 [.int .i64 n] := by simp [ecl, splice]
theorem splice_all {e e' : Ex} (h : e.ok) (h' : e'.ok) : ecl e' = splice (ecl e) 0 (ecl e') := by
  simp [splice, ecl_len h']
  exact Nat.le_of_eq (ecl_len h)
theorem splice_bytes {e : Ex} (k : Nat) (xs : List Int) : ecl ⟨e.no, splice e.bs k xs⟩ = splice (ecl e) (1 + k) (xs.map (Value.int .u8)) := by
  simp [splice, ecl, Nat.add_comm 1 k, Nat.add_right_comm k 1]
theorem ok_splice {e : Ex} (h : e.ok) (k : Nat) (xs : List Int) (hk : k + xs.length ≤ 8) (hx : ∀ x ∈ xs, 0 ≤ x ∧ x ≤ 255) : (Ex.mk e.no (splice e.bs k xs)).ok := by
  refine ⟨by rw [length_splice _ _ _ (by rw [h.1]; omega), h.1], fun x hm => ?_⟩
  simp [splice] at hm
  rcases hm with hm | hm | hm
  · exact h.2 x (List.mem_of_mem_take hm)
  · exact hx x hm
  · exact h.2 x (List.mem_of_mem_drop hm)

theorem own_below {w w' : World} {base : Nat} {e : TypeId} {size : Nat} {v : Value} {n : Nat} {xs : List Value} (h : w.ownsRow base e size v n xs) (hb : Below w.heap.size w w') : w'.ownsRow base e size v n xs :=
  h.kept (row := none) ⟨hb.os, hb.tape, hb.output, hb.size, fun k hk _ => hb.block k hk⟩ (by cases v.ownBlock <;> simp)
/-- A row of one's own. -/
structure Own (B : Nat) (w : World) (v : Value) (L : List Ex) : Prop where
  row : w.ownsRow B 32 9 v L.length (exCells L)
  ok : ∀ e ∈ L, e.ok
theorem own_nil (B : Nat) (w : World) : Own B w (.slice none 0 0) [] := ⟨World.ownsRow_nil _ _ _ _, by simp⟩
theorem Own.exts {B : Nat} {w : World} {v : Value} {L : List Ex} (h : Own B w v L) : ∃ A c, v = .slice A L.length c ∧ Exts w A L.length c L ∧ (∀ g o, A = some ⟨g, o, none⟩ → B ≤ g ∧ o = 0 ∧ ∀ j, w.frozen? ⟨g, j, none⟩ = false) := by
  obtain ⟨hl, ⟨rfl, h0⟩ | ⟨g, cap, cur, rfl, hB, hb, hn, hm, hs, ht⟩⟩ := h.row
  · obtain rfl : L = [] := List.eq_nil_of_length_eq_zero h0
    exact ⟨none, 0, rfl, exts_nil w, fun g o h => by cases h⟩
  · refine ⟨some ⟨g, 0, none⟩, cap, rfl, ⟨rfl, h.ok, hn, hm, (fun h => by cases h), fun hp => ⟨g, 0, rfl, (Array.getElem?_eq_some_iff.1 hb).1, fun j hj q v hv => ?_⟩⟩, ?_⟩
    · have hq : q < 9 := by
        have := (List.getElem?_eq_some_iff.1 hv).1
        rw [List.getD_eq_getElem?_getD, List.getElem?_eq_getElem hj, Option.getD_some, ecl_len (h.ok _ (List.getElem_mem hj))] at this
        exact this
      rw [cell_of_row _ _ _ _ 32 (0, 0) hb, Nat.zero_add, ← hv, ← exCells_at L h.ok j hj q hq, ← ht, List.getElem?_take_of_lt (by omega)]
      simp
    · intro g' o he
      injection he with he; injection he with e1 e2; subst e1 e2
      exact ⟨hB, rfl, fun j => frozen_of_row _ _ _ _ _ hb⟩
theorem Own.on {B : Nat} {w w' : World} {v : Value} {L : List Ex} (h : Own B w v L) (hb : Below w.heap.size w w') : Own B w' v L :=
  ⟨own_below h.row hb, h.ok⟩
end Go.Proofs.Ytigfimlpjmmpoaa
