/- Slices of texts and of options in memory: read, of a call's own, appended to; boxes. -/
import Derived.Test.YtnmekmifdmlogaaRows
import Derived.Test.YtnmekmifdmlogaaPlain
import Derived.WalkKit
import Derived.Below
import Derived.Laws.OwnMore
import Derived.Laws.AppendOwnNone
import Derived.Maps.AppendAt
import Derived.Deep.AppendLies
import Derived.Deep.QuietTactic
import Derived.BigQuiet
namespace Go.Proofs.Ytnmekmifdmlogaa
open Go.RowKit
open Plain

/-- A block, whole. -/
def Row (w : World) (b : Nat) (t : TypeId) (c : Array Value) : Prop := w.heap[b]? = some (.cells c t (0, 0))
theorem Row.lt {w : World} {b : Nat} {t : TypeId} {c : Array Value} (h : Row w b t c) : b < w.heap.size := (Array.getElem?_eq_some_iff.1 h).1
theorem Row.on {w w' : World} {b : Nat} {t : TypeId} {c : Array Value} (h : Row w b t c) (k : Below w.heap.size w w') : Row w' b t c := (k.block b h.lt).trans h
theorem Row.grown {w w' : World} {b : Nat} {t : TypeId} {c : Array Value} {r : Option Nat} (h : Row w b t c) (k : w.grownBy w' r) (hn : some b ≠ r) : Row w' b t c := (k.block b h.lt hn).trans h
theorem Row.at {w : World} {b : Nat} {t : TypeId} {c : Array Value} (h : Row w b t c) (k : Nat) : w.cell? ⟨b, k, none⟩ = c[k]? := cell_of_row w b k c t (0, 0) h
theorem Row.free {w : World} {b : Nat} {t : TypeId} {c : Array Value} (h : Row w b t c) (k : Nat) : w.frozen? ⟨b, k, none⟩ = false := frozen_of_row w b k c t h
theorem Row.setv {w : World} {b : Nat} {t : TypeId} {c : Array Value} (h : Row w b t c) (k : Nat) (x : Value) : Row (w.setCell ⟨b, k, none⟩ x) b t (c.setIfInBounds k x) := heap_setCell_same w b k c t x h
theorem Row.past {w : World} {b : Nat} {t : TypeId} {c : Array Value} (h : Row w b t c) (b' k : Nat) (x : Value) (hn : b ≠ b') : Row (w.setCell ⟨b', k, none⟩ x) b t c := by
  unfold Row at h ⊢
  rw [← h]
  exact heap_setCell_other w ⟨b', k, none⟩ b x hn
theorem Row.new (w : World) (t : TypeId) (c : Array Value) : Row (w.alloc (.cells c t)) w.heap.size t c := heap_alloc_new w _
theorem Row.alloc {w : World} {b : Nat} {t : TypeId} {c : Array Value} (h : Row w b t c) (o : Obj) : Row (w.alloc o) b t c := (heap_alloc_old w o h.lt).trans h
theorem Row.drewN {w : World} {b : Nat} {t : TypeId} {c : Array Value} (h : Row w b t c) (n : Nat) : Row (w.drewN n) b t c := h
theorem Row.two {w : World} {b : Nat} {t : TypeId} {x y : Value} (h : Row w b t #[x, y]) : w.cell? ⟨b, 0, none⟩ = some x ∧ w.cell? ⟨b, 1, none⟩ = some y ∧ w.frozen? ⟨b, 0, none⟩ = false ∧ w.frozen? ⟨b, 1, none⟩ = false := ⟨h.at 0, h.at 1, h.free 0, h.free 1⟩
theorem Row.set0 {w : World} {b : Nat} {t : TypeId} {x y : Value} (h : Row w b t #[x, y]) (z : Value) : Row (w.setCell ⟨b, 0, none⟩ z) b t #[z, y] := h.setv 0 z
theorem Row.set1 {w : World} {b : Nat} {t : TypeId} {x y : Value} (h : Row w b t #[x, y]) (z : Value) : Row (w.setCell ⟨b, 1, none⟩ z) b t #[x, z] := h.setv 1 z

/-- A slice of texts. -/
structure Strs (w : World) (A : Option Addr) (n c : Nat) (T : List ByteArray) : Prop where
  len : T.length = n
  le : n ≤ c
  mx : c ≤ maxLen
  nil : A = none → n = 0 ∧ c = 0
  cells : 0 < n → ∃ b o, A = some ⟨b, o, none⟩ ∧ b < w.heap.size ∧ ∀ k, k < n → w.cell? ⟨b, o + k, none⟩ = some (.string (T.getD k default))
theorem Strs.on {w w' : World} {A : Option Addr} {n c : Nat} {T : List ByteArray} (h : Strs w A n c T) (k : Below w.heap.size w w') : Strs w' A n c T := by
  refine ⟨h.len, h.le, h.mx, h.nil, fun hn => ?_⟩
  obtain ⟨b, o, rfl, hb, hc⟩ := h.cells hn
  exact ⟨b, o, rfl, Nat.lt_of_lt_of_le hb k.size, fun j hj => (k.cell (p := ⟨b, o + j, none⟩) hb).trans (hc j hj)⟩
theorem strs_nil (w : World) : Strs w none 0 0 [] := ⟨rfl, Nat.le_refl _, Nat.zero_le _, fun _ => ⟨rfl, rfl⟩, fun h => absurd h (by omega)⟩
theorem Strs.tail {w : World} {b o m c : Nat} {s : ByteArray} {T : List ByteArray} (h : Strs w (some ⟨b, o, none⟩) (m + 1) c (s :: T)) : Strs w (some ⟨b, o + 1, none⟩) m (c - 1) T := by
  have hl := h.len; have h1 := h.le; have h2 := h.mx
  refine ⟨by simpa using hl, by omega, by omega, fun h => (by cases h), fun hn => ?_⟩
  obtain ⟨b', o', he, hb, hc⟩ := h.cells (by omega)
  injection he with he
  injection he with e1 e2
  subst e1 e2
  refine ⟨b, o + 1, rfl, hb, fun k hk => ?_⟩
  have := hc (k + 1) (by omega)
  rw [show o + 1 + k = o + (k + 1) by omega, this]
  simp
theorem Strs.form {w : World} {A : Option Addr} {n c : Nat} {s : ByteArray} {T : List ByteArray} (h : Strs w A n c (s :: T)) : ∃ b o m, A = some ⟨b, o, none⟩ ∧ n = m + 1 ∧ T.length = m ∧ b < w.heap.size ∧ w.cell? ⟨b, o, none⟩ = some (.string s) := by
  have hl := h.len
  simp at hl
  obtain ⟨b, o, rfl, hb, hc⟩ := h.cells (by omega)
  refine ⟨b, o, T.length, rfl, by omega, rfl, hb, ?_⟩
  have := hc 0 (by omega)
  simpa using this

/-- The cells of options. -/
def opCells (l : List Pr) : List Value := l.flatMap fun r => [.string r.1, .string r.2]
theorem opCells_append (a b : List Pr) : opCells (a ++ b) = opCells a ++ opCells b := by simp [opCells]
theorem opCells_len : ∀ l : List Pr, (opCells l).length = l.length * 2
  | [] => rfl
  | r :: l => by
    have := opCells_len l
    simp only [opCells, List.flatMap_cons, List.length_append, List.length_cons, List.length_nil] at this ⊢
    omega
theorem opCells_at (l : List Pr) (k : Nat) (h : k < l.length) : (opCells l)[k * 2]? = some (.string (l.getD k default).1) ∧ (opCells l)[k * 2 + 1]? = some (.string (l.getD k default).2) := by
  induction l generalizing k with
  | nil => simp at h
  | cons r l ih =>
    cases k with
    | zero => simp [opCells]
    | succ k =>
      have := ih k (by simpa using h)
      rw [show (k + 1) * 2 = k * 2 + 2 by omega]
      have e : opCells (r :: l) = [.string r.1, .string r.2] ++ opCells l := rfl
      rw [e]
      refine ⟨?_, ?_⟩
      · rw [List.getElem?_append_right (by simp)]; simpa using this.1
      · rw [List.getElem?_append_right (by simp)]; simpa using this.2
/-- A slice of options. -/
structure Opts (w : World) (A : Option Addr) (n : Nat) (os : List Pr) : Prop where
  len : os.length = n
  cells : 0 < n → ∃ b o, A = some ⟨b, o, none⟩ ∧ b < w.heap.size ∧ ∀ k, k < n → w.cell? ⟨b, o + k * 2, none⟩ = some (.string (os.getD k default).1) ∧ w.cell? ⟨b, o + k * 2 + 1, none⟩ = some (.string (os.getD k default).2)
theorem Opts.on {w w' : World} {A : Option Addr} {n : Nat} {os : List Pr} (h : Opts w A n os) (k : Below w.heap.size w w') : Opts w' A n os := by
  refine ⟨h.len, fun hn => ?_⟩
  obtain ⟨b, o, rfl, hb, hc⟩ := h.cells hn
  exact ⟨b, o, rfl, Nat.lt_of_lt_of_le hb k.size, fun j hj => ⟨(k.cell (p := ⟨b, o + j * 2, none⟩) hb).trans (hc j hj).1, (k.cell (p := ⟨b, o + j * 2 + 1, none⟩) hb).trans (hc j hj).2⟩⟩

/-- Rows of a call's own. -/
def OwnT (w : World) (base : Nat) (v : Value) (T : List ByteArray) : Prop := w.ownsRow base 9 1 v T.length (T.map Value.string)
def OwnO (w : World) (base : Nat) (v : Value) (os : List Pr) : Prop := w.ownsRow base 31 2 v os.length (opCells os)
theorem owns_on {w w' : World} {base : Nat} {e : TypeId} {size : Nat} {v : Value} {n : Nat} {xs : List Value} (h : w.ownsRow base e size v n xs) (hb : Below w.heap.size w w') : w'.ownsRow base e size v n xs :=
  h.kept (row := none) ⟨hb.os, hb.tape, hb.output, hb.size, fun k hk _ => hb.block k hk⟩ (by cases v.ownBlock <;> simp)
theorem OwnT.on {w w' : World} {base : Nat} {v : Value} {T : List ByteArray} (h : OwnT w base v T) (k : Below w.heap.size w w') : OwnT w' base v T := owns_on h k
theorem OwnO.on {w w' : World} {base : Nat} {v : Value} {T : List Pr} (h : OwnO w base v T) (k : Below w.heap.size w w') : OwnO w' base v T := owns_on h k
theorem OwnT.low {w : World} {base base' : Nat} {v : Value} {T : List ByteArray} (h : OwnT w base v T) (hb : base' ≤ base) : OwnT w base' v T := by
  refine ⟨h.1, ?_⟩
  rcases h.2 with h0 | ⟨g, cap, cur, h1, h2, h3⟩
  · exact .inl h0
  · exact .inr ⟨g, cap, cur, h1, Nat.le_trans hb h2, h3⟩
theorem OwnO.low {w : World} {base base' : Nat} {v : Value} {T : List Pr} (h : OwnO w base v T) (hb : base' ≤ base) : OwnO w base' v T := by
  refine ⟨h.1, ?_⟩
  rcases h.2 with h0 | ⟨g, cap, cur, h1, h2, h3⟩
  · exact .inl h0
  · exact .inr ⟨g, cap, cur, h1, Nat.le_trans hb h2, h3⟩
theorem ownT_nil (w : World) (base : Nat) : OwnT w base (.slice none 0 0) [] := World.ownsRow_nil _ _ _ _
theorem ownO_nil (w : World) (base : Nat) : OwnO w base (.slice none 0 0) [] := World.ownsRow_nil _ _ _ _
theorem OwnT.strs {w : World} {base : Nat} {v : Value} {T : List ByteArray} (h : OwnT w base v T) : ∃ A c, v = .slice A T.length c ∧ Strs w A T.length c T := by
  have h2 := h
  have h3 := World.ownsRow.lt h
  rcases h.2 with ⟨rfl, h0⟩ | ⟨g, cap, cur, rfl, _, hg, hnc, hcm, hcs, _⟩
  · exact ⟨none, 0, by rw [h0], ⟨rfl, by omega, Nat.zero_le _, fun _ => ⟨h0, rfl⟩, fun h => absurd h (by omega)⟩⟩
  · refine ⟨_, cap, rfl, ⟨rfl, hnc, hcm, fun h => (by cases h), fun _ => ⟨g, 0, rfl, (h3 g rfl).2, fun k hk => ?_⟩⟩⟩
    rw [Nat.zero_add, World.ownsRow.cellAt h2 k (by omega), List.getElem?_map, List.getD_eq_getElem?_getD, List.getElem?_eq_getElem (by omega)]
    rfl
theorem OwnO.opts {w : World} {base : Nat} {v : Value} {os : List Pr} (h : OwnO w base v os) : ∃ A c, v = .slice A os.length c ∧ Opts w A os.length os ∧ (A = none → os.length = 0 ∧ c = 0) := by
  have h2 := h
  have h3 := World.ownsRow.lt h
  rcases h.2 with ⟨rfl, h0⟩ | ⟨g, cap, cur, rfl, _, hg, hnc, hcm, hcs, _⟩
  · exact ⟨none, 0, by rw [h0], ⟨rfl, fun h => absurd h (by omega)⟩, fun _ => ⟨h0, rfl⟩⟩
  · refine ⟨_, cap, rfl, ⟨rfl, fun _ => ⟨g, 0, rfl, (h3 g rfl).2, fun k hk => ?_⟩⟩, fun h => by cases h⟩
    obtain ⟨p0, p1⟩ := opCells_at os k hk
    rw [Nat.zero_add]
    exact ⟨(World.ownsRow.cellAt h2 _ (by omega)).trans p0, (World.ownsRow.cellAt h2 _ (by omega)).trans p1⟩

theorem info9 : (Try.prog.info? 9).map (fun i => (i.zero, i.size, i.bytes)) = some (some (.string ⟨#[]⟩), 1, 16) := by kernel_rfl
theorem info31 : (Try.prog.info? 31).map (fun i => (i.zero, i.size, i.bytes)) = some (some (.agg #[.string ⟨#[]⟩, .string ⟨#[]⟩]), 2, 32) := by kernel_rfl

theorem add_at (b o j : Nat) : (⟨b, o, none⟩ : Addr).add j = ⟨b, o + j, none⟩ := by unfold Addr.add; split <;> simp_all

/-- Where the row lies behind an append. -/
def Moved (w : World) (v v' : Value) : Prop := v'.ownBlock = v.ownBlock ∨ v'.ownBlock = some w.heap.size

section
variable {w : World} {ops : Array Oper} {rest : List Oper} {o : Oper} {a : Act} {Q : Exit → Act → World → Prop}
/-- append of texts onto a row of texts of the call's own. -/
theorem append_texts (hgd : o.guard = none) (s x : Operand) (ho : o.op = .call { callee := .builtin .append, args := #[s, x], argTypes := #[23, 23] })
    (base : Nat) (v : Value) (T : List ByteArray) (hs : a.eval s = v) (hown : OwnT w base v T) (A : Option Addr) (m c : Nat) (ys : List ByteArray) (hx : a.eval x = .slice A m c) (hy : Strs w A m c ys)
    (hb : T.length + m ≤ 1000000) (hbase : base ≤ w.heap.size)
    (h : ∀ v' w', OwnT w' base v' (T ++ ys) → w.grownBy w' v.ownBlock → Moved w v v' → Below base w w' → wpList Try.prog ops Q rest (a.put o.dst v') w') :
    wpList Try.prog ops Q (o :: rest) a w := by
  obtain ⟨i0, hi, hz0, hz1, hz2⟩ := info_parts info9
  cases A with
  | none =>
    obtain ⟨rfl, rfl⟩ := hy.nil rfl
    have hys : ys = [] := List.eq_nil_of_length_eq_zero hy.len
    subst hys
    refine wpList_append_own_none hgd s x 23 ho base 9 i0 1 Try.underlying23 hi v _ _ hs hown hx ?_
    exact h v w (by rw [List.append_nil]; exact hown) ⟨rfl, rfl, rfl, Nat.le_refl _, fun _ _ _ => rfl⟩ (.inl rfl) (Below.refl _ _)
  | some ad =>
    refine wpList_append_own_at _ hgd s x 23 ho base 9 i0 (.string ⟨#[]⟩) 1 16 Try.underlying23 hi hz0 hz1 hz2 rfl (by decide) v T.length _ hs hown ad m c (ys.map Value.string) hx (by simp [hy.len]) ?_ ?_ (by unfold maxLen; omega) (by omega) hbase ?_
    · intro j u hu
      have hj : j < ys.length := by
        by_cases h : j < ys.length
        · exact h
        · rw [List.getElem?_map, List.getElem?_eq_none (by omega)] at hu; cases hu
      have hyl := hy.len
      obtain ⟨b, o', he, _, hc⟩ := hy.cells (by omega)
      injection he with he
      subst he
      rw [add_at, hc j (by omega), ← hu, List.getElem?_map, List.getD_eq_getElem?_getD, List.getElem?_eq_getElem hj]
      rfl
    · intro u hu
      simp at hu
      obtain ⟨t, _, rfl⟩ := hu
      rfl
    · intro v' w' h1 h2 _ h4
      refine h v' w' ?_ h2 h4 (Below.grown (Below.refl base w) h2 hbase (fun k hk => (World.ownsRow.lt hown k hk).1))
      rw [OwnT, List.length_append, List.map_append, hy.len]
      exact h1
/-- append of options onto a row of options of the call's own. -/
theorem append_opts (hgd : o.guard = none) (s x : Operand) (ho : o.op = .call { callee := .builtin .append, args := #[s, x], argTypes := #[22, 22] })
    (base : Nat) (v : Value) (T : List Pr) (hs : a.eval s = v) (hown : OwnO w base v T) (A : Option Addr) (m c : Nat) (ys : List Pr) (hx : a.eval x = .slice A m c) (hy : Opts w A m ys) (hA : A = none → m = 0 ∧ c = 0)
    (hb : T.length + m ≤ 1000000) (hbase : base ≤ w.heap.size)
    (h : ∀ v' w', OwnO w' base v' (T ++ ys) → w.grownBy w' v.ownBlock → Moved w v v' → Below base w w' → wpList Try.prog ops Q rest (a.put o.dst v') w') :
    wpList Try.prog ops Q (o :: rest) a w := by
  obtain ⟨i0, hi, hz0, hz1, hz2⟩ := info_parts info31
  cases A with
  | none =>
    obtain ⟨rfl, rfl⟩ := hA rfl
    have hys : ys = [] := List.eq_nil_of_length_eq_zero hy.len
    subst hys
    refine wpList_append_own_none hgd s x 22 ho base 31 i0 2 Try.underlying22 hi v _ _ hs hown hx ?_
    exact h v w (by rw [List.append_nil]; exact hown) ⟨rfl, rfl, rfl, Nat.le_refl _, fun _ _ _ => rfl⟩ (.inl rfl) (Below.refl _ _)
  | some ad =>
    refine wpList_append_own_at _ hgd s x 22 ho base 31 i0 (.agg #[.string ⟨#[]⟩, .string ⟨#[]⟩]) 2 32 Try.underlying22 hi hz0 hz1 hz2 rfl (by decide) v T.length _ hs hown ad m c (opCells ys) hx (by rw [opCells_len, hy.len]) ?_ ?_ (by unfold maxLen; omega) (by omega) hbase ?_
    · intro j u hu
      have hj : j < ys.length * 2 := by
        by_cases h : j < ys.length * 2
        · exact h
        · rw [List.getElem?_eq_none (by rw [opCells_len]; omega)] at hu; cases hu
      have hyl := hy.len
      obtain ⟨b, o', he, _, hc⟩ := hy.cells (by omega)
      injection he with he
      subst he
      rw [add_at, ← hu]
      obtain ⟨c0, c1⟩ := hc (j / 2) (by omega)
      obtain ⟨p0, p1⟩ := opCells_at ys (j / 2) (by omega)
      rcases Nat.mod_two_eq_zero_or_one j with h2 | h2
      · have e : j = j / 2 * 2 := by omega
        rw [← e] at c0 p0
        rw [c0, p0]
      · have e : j = j / 2 * 2 + 1 := by omega
        rw [Nat.add_assoc, ← e] at c1
        rw [← e] at p1
        rw [c1, p1]
    · intro u hu
      simp [opCells] at hu
      obtain ⟨t, q, _, rfl | rfl⟩ := hu <;> rfl
    · intro v' w' h1 h2 _ h4
      refine h v' w' ?_ h2 h4 (Below.grown (Below.refl base w) h2 hbase (fun k hk => (World.ownsRow.lt hown k hk).1))
      rw [OwnO, List.length_append, opCells_append, hy.len]
      exact h1
end

/-- One text, one option that was just laid down. -/
theorem strs_one (w : World) (t : ByteArray) (b : Nat) (hb : b = w.heap.size) : Strs (w.alloc (.cells #[.string t] 9)) (some ⟨b, 0, none⟩) 1 1 [t] := by
  subst hb
  refine ⟨rfl, Nat.le_refl _, by decide, fun h => (by cases h), fun _ => ⟨_, _, rfl, by simp, fun k hk => ?_⟩⟩
  obtain rfl : k = 0 := by omega
  exact (Row.new w 9 #[.string t]).at 0
theorem opts_one (w : World) (p q : ByteArray) (b : Nat) (hb : b = w.heap.size) : Opts (w.alloc (.cells #[.string p, .string q] 31)) (some ⟨b, 0, none⟩) 1 [(p, q)] := by
  subst hb
  refine ⟨rfl, fun _ => ⟨_, _, rfl, by simp, fun k hk => ?_⟩⟩
  obtain rfl : k = 0 := by omega
  exact ⟨(Row.new w 31 #[.string p, .string q]).at 0, (Row.new w 31 #[.string p, .string q]).at 1⟩
/-- Texts that were just written out. -/
theorem strs_new (w : World) (arr : Array Value) (T : List ByteArray) (s n : Nat) (hs : s = w.heap.size) (ha : arr.toList = T.map Value.string) (hn : T.length = n) (hm : n ≤ maxLen) : Strs (w.alloc (.cells arr 9)) (some ⟨s, 0, none⟩) n n T := by
  subst hs hn
  refine ⟨rfl, Nat.le_refl _, hm, fun h => (by cases h), fun _ => ⟨_, _, rfl, by simp, fun k hk => ?_⟩⟩
  rw [Nat.zero_add, (Row.new w 9 arr).at k, ← Array.getElem?_toList, ha, List.getElem?_map, List.getD_eq_getElem?_getD, List.getElem?_eq_getElem hk]
  rfl
theorem own_new (w : World) (arr : Array Value) (T : List ByteArray) (s n base : Nat) (hs : s = w.heap.size) (ha : arr.toList = T.map Value.string) (hn : T.length = n) (hm : n ≤ maxLen) (hb : base ≤ w.heap.size) : OwnT (w.alloc (.cells arr 9)) base (.slice (some ⟨s, 0, none⟩) n n) T := by
  subst hs hn
  refine ⟨by simp, .inr ⟨w.heap.size, T.length, arr, rfl, hb, heap_alloc_new w _, Nat.le_refl _, hm, ?_, ?_⟩⟩
  · rw [← Array.length_toList, ha]; simp
  · rw [ha, List.take_of_length_le (by simp)]

end Go.Proofs.Ytnmekmifdmlogaa
