/- Elements of structs in memory, of any kind: slices of them that are read, rows of one's own. / Lists that rise by a key, without any Go: found, taken, put in. / All files at once, without any Go: names, numbers, changes. / Which images may be, by what program and reference ask; changes keep that. No Go. -/
import Derived.Test.YtgaaieipeiekiaaGreatPkC
import Derived.Test.YtgaaieipeiekiaaGreatPkE
import Derived.Lib.BytesEntry
namespace Go.Proofs.YtgaaieipeiekiaaGreat
open Go.RowKit

/-- A kind of elements: its type, how many cells, which. -/
structure El (α : Type) where
  t : TypeId
  k : Nat
  enc : α → List Value
  len : ∀ x, (enc x).length = k
  one : ∀ x, ∀ v ∈ enc x, v.oneCell' = true
  pos : 0 < k
def El.cells {α : Type} (E : El α) (L : List α) : List Value := L.flatMap E.enc
section
variable {α : Type} (E : El α)
theorem El.cells_append (a b : List α) : E.cells (a ++ b) = E.cells a ++ E.cells b := by simp [El.cells]
theorem El.cells_one (e : α) : E.cells [e] = E.enc e := by simp [El.cells]
theorem El.cells_cons (e : α) (L : List α) : E.cells (e :: L) = E.enc e ++ E.cells L := rfl
theorem El.cells_nil : E.cells [] = [] := rfl
theorem El.cells_len (L : List α) : (E.cells L).length = L.length * E.k := by
  induction L with
  | nil => simp [El.cells]
  | cons e L ih => rw [El.cells_cons, List.length_append, ih, E.len, List.length_cons, Nat.succ_mul]; omega
theorem El.cells_ones (L : List α) : ∀ v ∈ E.cells L, v.oneCell' = true := by
  intro v hv
  simp [El.cells] at hv
  obtain ⟨e, _, h⟩ := hv
  exact E.one e v h
theorem El.cells_at [Inhabited α] (L : List α) (j : Nat) (hj : j < L.length) (q : Nat) (hq : q < E.k) : (E.cells L)[j * E.k + q]? = (E.enc (L.getD j default))[q]? := by
  induction L generalizing j with
  | nil => simp at hj
  | cons e L ih =>
    have h1 := E.len e
    rw [El.cells_cons]
    cases j with
    | zero => rw [List.getElem?_append_left (by omega)]; simp
    | succ j =>
      rw [List.getElem?_append_right (by rw [h1, Nat.succ_mul]; omega), h1, show (j + 1) * E.k + q - E.k = j * E.k + q by rw [Nat.succ_mul]; omega, ih j (by simpa using hj)]
      rfl
theorem El.cells_take (L : List α) (i : Nat) : (E.cells L).take (i * E.k) = E.cells (L.take i) := by
  induction L generalizing i with
  | nil => simp [El.cells]
  | cons e L ih =>
    cases i with
    | zero => simp [El.cells]
    | succ i => rw [El.cells_cons, List.take_succ_cons, El.cells_cons, List.take_append, E.len, ← ih i, List.take_of_length_le (by rw [E.len, Nat.succ_mul]; omega), show (i + 1) * E.k - E.k = i * E.k by rw [Nat.succ_mul]; omega]
theorem El.cells_drop (L : List α) (i : Nat) : (E.cells L).drop (i * E.k) = E.cells (L.drop i) := by
  induction L generalizing i with
  | nil => simp [El.cells]
  | cons e L ih =>
    cases i with
    | zero => simp [El.cells]
    | succ i => rw [El.cells_cons, List.drop_succ_cons, List.drop_append, E.len, ← ih i, List.drop_of_length_le (by rw [E.len, Nat.succ_mul]; omega), show (i + 1) * E.k - E.k = i * E.k by rw [Nat.succ_mul]; omega]; rfl

/-- A slice of them: nil let in. -/
structure Sl [Inhabited α] (w : World) (A : Option Addr) (n c : Nat) (L : List α) : Prop where
  len : L.length = n
  le : n ≤ c
  mx : c ≤ maxLen
  nil : A = none → n = 0 ∧ c = 0
  cells : 0 < n → ∃ b o, A = some ⟨b, o, none⟩ ∧ b < w.heap.size ∧ ∀ j, j < n → w.rangeAt b (o + j * E.k) (E.enc (L.getD j default))
variable {E}
theorem sl_nil [Inhabited α] (w : World) : Sl E w none 0 0 [] := ⟨rfl, Nat.le_refl _, Nat.zero_le _, fun _ => ⟨rfl, rfl⟩, fun h => absurd h (by omega)⟩
theorem Sl.only [Inhabited α] {S : Nat → Prop} {w w' : World} {A : Option Addr} {n c : Nat} {L : List α} (h : Sl E w A n c L) (hb : Only S w w') (hS : ∀ g o, A = some ⟨g, o, none⟩ → 0 < n → ¬ S g) : Sl E w' A n c L := by
  refine ⟨h.len, h.le, h.mx, h.nil, fun hn => ?_⟩
  obtain ⟨b, o, rfl, hl, hc⟩ := h.cells hn
  exact ⟨b, o, rfl, Nat.lt_of_lt_of_le hl hb.size, fun j hj i v hv => (hb.cell (p := ⟨b, o + j * E.k + i, none⟩) hl (hS b o rfl hn)).trans (hc j hj i v hv)⟩
theorem Sl.on [Inhabited α] {w w' : World} {A : Option Addr} {n c : Nat} {L : List α} (h : Sl E w A n c L) (hb : Below w.heap.size w w') : Sl E w' A n c L :=
  h.only (S := fun _ => False) (Only.of_below hb) (fun _ _ _ _ h => h)
theorem Sl.drewN [Inhabited α] {w : World} {A : Option Addr} {n c : Nat} {L : List α} (h : Sl E w A n c L) (m : Nat) : Sl E (w.drewN m) A n c L := h.on (below_drewN (Below.refl _ _) m)
theorem Sl.max [Inhabited α] {w : World} {A : Option Addr} {n c : Nat} {L : List α} (h : Sl E w A n c L) : n ≤ 9223372036854775807 := by have := h.le; have := h.mx; unfold maxLen at this; omega
theorem Sl.src [Inhabited α] {w : World} {A : Option Addr} {n c : Nat} {L : List α} (h : Sl E w A n c L) : ∀ ad, A = some ad → ∀ j u, (E.cells L)[j]? = some u → w.cell? (ad.add j) = some u := by
  intro ad ha j u hu
  have hl : j < (E.cells L).length := (List.getElem?_eq_some_iff.1 hu).1
  rw [E.cells_len L, h.len] at hl
  have hp := E.pos
  have hn : 0 < n := by
    rcases Nat.eq_zero_or_pos n with h0 | h0
    · subst h0; simp at hl
    · exact h0
  obtain ⟨b, o, rfl, _, hc⟩ := h.cells hn
  injection ha with ha; subst ha
  have hdm := Nat.div_add_mod j E.k
  have hm := Nat.mod_lt j hp
  have hd : j / E.k < n := Nat.div_lt_of_lt_mul (by rw [Nat.mul_comm]; exact hl)
  rw [Nat.mul_comm] at hdm
  have hq := E.cells_at L (j / E.k) (by rw [h.len]; exact hd) (j % E.k) hm
  rw [hdm, hu] at hq
  rw [Addr.add_mid, show o + j = o + j / E.k * E.k + j % E.k by omega]
  exact hc (j / E.k) hd _ _ hq.symm
/-- A piece of it, the address as Go leaves it. -/
theorem Sl.piece [Inhabited α] {w : World} {A : Option Addr} {n c : Nat} {L : List α} (h : Sl E w A n c L) (i m : Nat) (hm : i + m ≤ n) : Sl E w (if c = i then A else A.map (·.add (i * E.k))) m (c - i) ((L.drop i).take m) := by
  have h1 := h.len; have h2 := h.le; have h3 := h.mx
  refine ⟨by simp; omega, by omega, by omega, fun ha => ?_, fun hp => ?_⟩
  · split at ha
    · have := h.nil ha; omega
    · cases A with
      | none => have := h.nil rfl; omega
      | some a => simp at ha
  · obtain ⟨b, o, rfl, hl, hc⟩ := h.cells (by omega)
    rw [if_neg (by omega)]
    refine ⟨b, o + i * E.k, by simp [Addr.add_mid], hl, fun k hk => ?_⟩
    have e : ((L.drop i).take m).getD k default = L.getD (i + k) default := by simp [List.getD_eq_getElem?_getD, hk]
    rw [e, show o + i * E.k + k * E.k = o + (i + k) * E.k by rw [Nat.add_mul]; omega]
    exact hc (i + k) (by omega)
theorem Sl.mem [Inhabited α] {w : World} {A : Option Addr} {n c : Nat} {L : List α} (h : Sl E w A n c L) (j : Nat) (hj : j < n) : L.getD j default ∈ L := by
  have := h.len
  rw [List.getD_eq_getElem?_getD, List.getElem?_eq_getElem (by omega)]
  exact List.getElem_mem (by omega)

/-- A row of one's own. -/
structure OwnS {α : Type} (E : El α) (B : Nat) (w : World) (v : Value) (L : List α) : Prop where
  row : w.ownsRow B E.t E.k v L.length (E.cells L)
theorem owns_nil (B : Nat) (w : World) : OwnS E B w (.slice none 0 0) [] := ⟨World.ownsRow_nil _ _ _ _⟩
theorem OwnS.sl [Inhabited α] {B : Nat} {w : World} {v : Value} {L : List α} (h : OwnS E B w v L) : ∃ A c, v = .slice A L.length c ∧ Sl E w A L.length c L ∧ (∀ g o, A = some ⟨g, o, none⟩ → B ≤ g ∧ g < w.heap.size ∧ o = 0 ∧ ∀ j, w.frozen? ⟨g, j, none⟩ = false) := by
  obtain ⟨hl, ⟨rfl, h0⟩ | ⟨g, cap, cur, rfl, hB, hb, hn, hm, hs, ht⟩⟩ := h.row
  · obtain rfl : L = [] := List.eq_nil_of_length_eq_zero h0
    exact ⟨none, 0, rfl, sl_nil w, fun g o h => by cases h⟩
  · refine ⟨some ⟨g, 0, none⟩, cap, rfl, ⟨rfl, hn, hm, (fun h => by cases h), fun hp => ⟨g, 0, rfl, (Array.getElem?_eq_some_iff.1 hb).1, fun j hj q v hv => ?_⟩⟩, ?_⟩
    · have hq : q < E.k := by have := (List.getElem?_eq_some_iff.1 hv).1; rw [E.len] at this; exact this
      have hjk : j * E.k + q < L.length * E.k := by
        have : (j + 1) * E.k ≤ L.length * E.k := Nat.mul_le_mul_right _ hj
        rw [Nat.succ_mul] at this; omega
      rw [cell_of_row _ _ _ _ E.t (0, 0) hb, Nat.zero_add, ← hv, ← E.cells_at L j hj q hq, ← ht, List.getElem?_take_of_lt hjk]
      simp
    · intro g' o he
      injection he with he; injection he with e1 e2; subst e1 e2
      exact ⟨hB, (Array.getElem?_eq_some_iff.1 hb).1, rfl, fun j => frozen_of_row _ _ _ _ _ hb⟩
theorem OwnS.on {B : Nat} {w w' : World} {v : Value} {L : List α} (h : OwnS E B w v L) (hb : Below w.heap.size w w') : OwnS E B w' v L := ⟨own_below h.row hb⟩
theorem OwnS.only {S : Nat → Prop} {B : Nat} {w w' : World} {A : Option Addr} {n c : Nat} {L : List α} (h : OwnS E B w (.slice A n c) L) (hb : Only S w w') (hS : ∀ g, A = some ⟨g, 0, none⟩ → ¬ S g) : OwnS E B w' (.slice A n c) L := by
  obtain ⟨hl, ⟨he, h0⟩ | ⟨g, cap, cur, he, hB, hg, hr⟩⟩ := h.row
  · exact ⟨hl, .inl ⟨he, h0⟩⟩
  · injection he with e1 e2 e3
    subst e1
    exact ⟨hl, .inr ⟨g, cap, cur, by rw [← e2, ← e3], hB, (hb.block g (Array.getElem?_eq_some_iff.1 hg).1 (hS g rfl)).trans hg, hr⟩⟩
theorem OwnS.mono {B B' : Nat} {w : World} {v : Value} {L : List α} (h : OwnS E B w v L) (hB : B' ≤ B) : OwnS E B' w v L := ⟨h.row.1, h.row.2.imp id (fun ⟨g, cap, cur, a, b, r⟩ => ⟨g, cap, cur, a, Nat.le_trans hB b, r⟩)⟩
/-- What is known of a row of one's own, taken apart. -/
theorem OwnS.open {B : Nat} {w : World} {A : Option Addr} {n c : Nat} {L : List α} (h : OwnS E B w (.slice A n c) L) :
    n = L.length ∧ ((A = none ∧ n = 0 ∧ c = 0 ∧ L = []) ∨ ∃ g cur, A = some ⟨g, 0, none⟩ ∧ B ≤ g ∧ Row w g E.t cur ∧ n ≤ c ∧ c ≤ maxLen ∧ cur.size = c * E.k ∧ cur.toList.take (L.length * E.k) = E.cells L) := by
  obtain ⟨hl, ⟨he, h0⟩ | ⟨g, cap, cur, he, hB, hg, hn, hm, hs, ht⟩⟩ := h.row
  · injection he with e1 e2 e3
    exact ⟨by omega, .inl ⟨e1, e2, e3, List.eq_nil_of_length_eq_zero h0⟩⟩
  · injection he with e1 e2 e3
    subst e1 e2 e3
    exact ⟨rfl, .inr ⟨g, cur, rfl, hB, hg, hn, hm, hs, ht⟩⟩
theorem OwnS.mk' {B : Nat} {w : World} {g c : Nat} {cur : Array Value} {L : List α} (hB : B ≤ g) (hg : Row w g E.t cur) (hn : L.length ≤ c) (hm : c ≤ maxLen) (hs : cur.size = c * E.k) (ht : cur.toList.take (L.length * E.k) = E.cells L) : OwnS E B w (.slice (some ⟨g, 0, none⟩) L.length c) L :=
  ⟨E.cells_len L, .inr ⟨g, c, cur, rfl, hB, hg, hn, hm, hs, ht⟩⟩
/-- Its block lies apart from one of another type. -/
theorem OwnS.ne {B : Nat} {w : World} {A : Option Addr} {n c : Nat} {L : List α} (h : OwnS E B w (.slice A n c) L) {b : Nat} {t : TypeId} {cs : Array Value} (hr : Row w b t cs) (ht : t ≠ E.t) : ∀ g o, A = some ⟨g, o, none⟩ → g ≠ b := by
  rintro g o rfl rfl
  obtain ⟨_, ⟨h0, _⟩ | ⟨g', cur, he, _, hg, _⟩⟩ := h.open
  · cases h0
  · injection he with he; injection he with e1 e2; subst e1
    unfold Row at hg hr
    rw [hg] at hr
    injection hr with hr
    injection hr with _ h2 _
    exact ht h2.symm
end
end Go.Proofs.YtgaaieipeiekiaaGreat

namespace Go.Proofs.YtgaaieipeiekiaaGreat

/-- A strict order in which any two differ by it. -/
structure Ord (K : Type) where
  lt : K → K → Bool
  irr : ∀ a, lt a a = false
  tr : ∀ a b c, lt a b = true → lt b c = true → lt a c = true
  tot : ∀ a b, lt a b = false → lt b a = false → a = b
theorem Ord.asym {K : Type} (O : Ord K) {a b : K} (h : O.lt a b = true) : O.lt b a = false := by
  cases hb : O.lt b a with
  | false => rfl
  | true => have := O.tr a b a h hb; rw [O.irr] at this; cases this
theorem Ord.ne {K : Type} (O : Ord K) {a b : K} (h : O.lt a b = true) : a ≠ b := by
  rintro rfl; rw [O.irr] at h; cases h
section
variable {α K : Type}
variable (O : Ord K)
def Rise (key : α → K) (L : List α) : Prop := L.Pairwise fun a b => O.lt (key a) (key b) = true
def ahd (key : α → K) (L : List α) (k : K) : List α := L.takeWhile fun y => O.lt (key y) k
def bhd (key : α → K) (L : List α) (k : K) : List α := L.dropWhile fun y => O.lt (key y) k
/-- How many lie ahead of a key. -/
def pl (key : α → K) (L : List α) (k : K) : Nat := (ahd O key L k).length
def ins (key : α → K) (L : List α) (x : α) : List α := ahd O key L (key x) ++ x :: bhd O key L (key x)
variable {O}
theorem ahd_bhd (key : α → K) (L : List α) (k : K) : ahd O key L k ++ bhd O key L k = L := List.takeWhile_append_dropWhile
theorem pl_le (key : α → K) (L : List α) (k : K) : pl O key L k ≤ L.length := by
  have := congrArg List.length (ahd_bhd (O := O) key L k)
  rw [List.length_append] at this
  unfold pl; omega
theorem take_pl (key : α → K) (L : List α) (k : K) : L.take (pl O key L k) = ahd O key L k := by
  have h := ahd_bhd (O := O) key L k
  conv => lhs; rw [← h]
  unfold pl
  rw [List.take_left']
  rw [h]
theorem drop_pl (key : α → K) (L : List α) (k : K) : L.drop (pl O key L k) = bhd O key L k := by
  have h := ahd_bhd (O := O) key L k
  conv => lhs; rw [← h]
  unfold pl
  rw [List.drop_left']
  rw [h]
theorem ahd_lt {key : α → K} {L : List α} {k : K} {x : α} (h : x ∈ ahd O key L k) : O.lt (key x) k = true := by
  have := List.all_takeWhile (p := fun y => O.lt (key y) k) (l := L)
  rw [List.all_eq_true] at this
  exact this x h
theorem pl_unique [Inhabited α] {key : α → K} {L : List α} {k : K} {i : Nat} (hi : i ≤ L.length) (h1 : ∀ j, j < i → O.lt (key (L.getD j default)) k = true) (h2 : i < L.length → O.lt (key (L.getD i default)) k = false) : pl O key L k = i := by
  induction L generalizing i with
  | nil => simp at hi; subst hi; rfl
  | cons a L ih =>
    cases i with
    | zero =>
      have := h2 (by simp)
      simp only [List.getD_eq_getElem?_getD, List.getElem?_cons_zero, Option.getD_some] at this
      simp [pl, ahd, this]
    | succ i =>
      have h0 := h1 0 (by omega)
      simp only [List.getD_eq_getElem?_getD, List.getElem?_cons_zero, Option.getD_some] at h0
      have := ih (i := i) (by simpa using hi) (fun j hj => by simpa using h1 (j + 1) (by omega)) (fun h => by simpa using h2 (by simpa using h))
      simp only [pl, ahd, List.takeWhile_cons, h0, if_true, List.length_cons] at this ⊢
      omega
theorem rise_tail {key : α → K} {a : α} {L : List α} (h : Rise O key (a :: L)) : Rise O key L := (List.pairwise_cons.1 h).2
theorem bhd_ge {key : α → K} {L : List α} {k : K} (hr : Rise O key L) {x : α} (h : x ∈ bhd O key L k) : O.lt (key x) k = false := by
  induction L with
  | nil => simp [bhd] at h
  | cons a L ih =>
    by_cases ha : O.lt (key a) k = true
    · simp only [bhd, List.dropWhile_cons, ha, if_true] at h
      exact ih (rise_tail hr) h
    · have ha' : O.lt (key a) k = false := by simpa using ha
      simp only [bhd, List.dropWhile_cons, ha'] at h
      rcases List.mem_cons.1 h with rfl | h
      · exact ha'
      · have := (List.pairwise_cons.1 hr).1 x h
        cases hx : O.lt (key x) k with
        | false => rfl
        | true => have := O.tr _ _ _ this hx; rw [ha'] at this; cases this
theorem getD_append_right [Inhabited α] (a b : List α) : (a ++ b).getD a.length default = b.getD 0 default := by
  simp [List.getD_eq_getElem?_getD, List.getElem?_append_right (Nat.le_refl a.length)]
theorem ins_perm (key : α → K) (L : List α) (x : α) : (ins O key L x).Perm (x :: L) := by
  have hs := ahd_bhd (O := O) key L (key x)
  unfold ins
  refine List.perm_middle.trans ?_
  rw [hs]
theorem ins_pl (key : α → K) (L : List α) (x : α) : L.take (pl O key L (key x)) ++ x :: L.drop (pl O key L (key x)) = ins O key L x := by
  rw [take_pl, drop_pl]; rfl
theorem mem_ins {key : α → K} {L : List α} {x y : α} : y ∈ ins O key L x ↔ y = x ∨ y ∈ L := by
  rw [(ins_perm key L x).mem_iff, List.mem_cons]
end
section
variable {α K : Type} [DecidableEq K]
def fnd (key : α → K) (L : List α) (k : K) : Option α := L.find? fun x => decide (key x = k)
def del (key : α → K) (L : List α) (k : K) : List α := L.filter fun x => decide (key x ≠ k)
def updk (key : α → K) (L : List α) (k : K) (y : α) : List α := L.map fun x => if key x = k then y else x
theorem fnd_none {key : α → K} {L : List α} {k : K} : fnd key L k = none ↔ ∀ x ∈ L, key x ≠ k := by
  simp [fnd, List.find?_eq_none]
theorem fnd_mem {key : α → K} {L : List α} {k : K} {x : α} (h : fnd key L k = some x) : x ∈ L ∧ key x = k :=
  ⟨List.mem_of_find?_eq_some h, by simpa using List.find?_some h⟩
theorem mem_del {key : α → K} {L : List α} {k : K} {x : α} : x ∈ del key L k ↔ x ∈ L ∧ key x ≠ k := by simp [del]
theorem del_comm (key : α → K) (L : List α) (a b : K) : del key (del key L a) b = del key (del key L b) a := by
  simp only [del, List.filter_filter, Bool.and_comm]
theorem fnd_del (key : α → K) (L : List α) (a k : K) : fnd key (del key L a) k = if k = a then none else fnd key L k := by
  by_cases h : k = a
  · rw [if_pos h, fnd_none]
    intro x hx
    rw [h]
    exact (mem_del.1 hx).2
  · rw [if_neg h]
    unfold fnd del
    rw [List.find?_filter]
    congr 1
    funext x
    by_cases hx : key x = k
    · simp [hx, h]
    · simp [hx]
theorem fnd_map {β : Type} {key : α → K} {key' : β → K} (f : β → α) (hf : ∀ z, key (f z) = key' z) (L : List β) (k : K) : fnd key (L.map f) k = (fnd key' L k).map f := by
  unfold fnd
  rw [List.find?_map]
  congr 2
  funext x
  simp [hf]
theorem del_map {β : Type} {key : α → K} {key' : β → K} (f : β → α) (hf : ∀ z, key (f z) = key' z) (L : List β) (k : K) : del key (L.map f) k = (del key' L k).map f := by
  unfold del
  rw [List.filter_map]
  congr 2
  funext x
  simp [hf]
variable {O : Ord K}
/-- What lies behind its place begins with it, if it is there. -/
theorem fnd_bhd {key : α → K} {L : List α} {k : K} (hr : Rise O key L) : fnd key L k = (match bhd O key L k with | x :: _ => if key x = k then some x else none | [] => none) := by
  induction L with
  | nil => rfl
  | cons a L ih =>
    by_cases ha : O.lt (key a) k = true
    · have hne := O.ne ha
      have e1 : fnd key (a :: L) k = fnd key L k := by simp [fnd, hne]
      have e2 : bhd O key (a :: L) k = bhd O key L k := by simp [bhd, ha]
      rw [e1, e2, ih (rise_tail hr)]
    · have ha' : O.lt (key a) k = false := by simpa using ha
      have e2 : bhd O key (a :: L) k = a :: L := by simp [bhd, ha']
      rw [e2]
      by_cases hk : key a = k
      · simp [fnd, hk]
      · simp only [hk, if_false]
        rw [fnd_none]
        intro x hx
        rcases List.mem_cons.1 hx with rfl | hx
        · exact hk
        · have := (List.pairwise_cons.1 hr).1 x hx
          rintro rfl
          rw [ha'] at this; cases this
theorem fnd_pl [Inhabited α] {key : α → K} {L : List α} {k : K} (hr : Rise O key L) : fnd key L k = if pl O key L k < L.length ∧ key (L.getD (pl O key L k) default) = k then some (L.getD (pl O key L k) default) else none := by
  rw [fnd_bhd hr]
  have h := ahd_bhd (O := O) key L k
  have hl : L.length = pl O key L k + (bhd O key L k).length := by rw [← List.length_append.symm.trans (congrArg List.length h)]; rfl
  have hg : L.getD (pl O key L k) default = (bhd O key L k).getD 0 default := by
    conv => lhs; rw [← h]
    rw [← getD_append_right (ahd O key L k)]
    unfold pl
    rw [h]
  rw [hg]
  cases hb : bhd O key L k with
  | nil => rw [hb] at hl; simp at hl; simp [hl]
  | cons x r =>
    rw [hb] at hl
    simp only [List.length_cons] at hl
    have : pl O key L k < L.length := by omega
    simp [this]
theorem fnd_at [Inhabited α] {key : α → K} {L : List α} {k : K} {x : α} (hr : Rise O key L) (h : fnd key L k = some x) : pl O key L k < L.length ∧ L.getD (pl O key L k) default = x := by
  rw [fnd_pl hr] at h
  split at h
  · rename_i hc
    injection h with h
    exact ⟨hc.1, h⟩
  · cases h
/-- Taken out by its place. -/
theorem erase_del {key : α → K} {L : List α} {k : K} {x : α} (hr : Rise O key L) (h : fnd key L k = some x) : L.take (pl O key L k) ++ L.drop (pl O key L k + 1) = del key L k := by
  have hs := ahd_bhd (O := O) key L k
  rw [take_pl, ← List.drop_drop, drop_pl]
  rw [fnd_bhd hr] at h
  cases hb : bhd O key L k with
  | nil => rw [hb] at h; cases h
  | cons y r =>
    rw [hb] at h
    simp only at h
    split at h
    · rename_i hy
      injection h with h
      subst h
      rw [List.drop_succ_cons, List.drop_zero]
      conv => rhs; rw [← hs, hb]
      unfold del
      rw [List.filter_append, List.filter_cons]
      have ht : (ahd O key L k).filter (fun x => decide (key x ≠ k)) = ahd O key L k :=
        List.filter_eq_self.2 fun x hx => by simpa using O.ne (ahd_lt hx)
      rw [ht]
      simp only [hy, ne_eq, not_true, decide_false]
      congr 1
      symm
      refine List.filter_eq_self.2 fun z hz => ?_
      have hp := hr
      rw [← hs, hb] at hp
      have := (List.pairwise_cons.1 ((List.pairwise_append.1 hp).2.1)).1 z hz
      rw [hy] at this
      simpa using (O.ne this).symm
    · cases h
theorem del_perm {key : α → K} {L : List α} {k : K} {x : α} (hr : Rise O key L) (h : fnd key L k = some x) : L.Perm (x :: del key L k) := by
  have h1 := erase_del hr h
  have hs := ahd_bhd (O := O) key L k
  rw [take_pl, ← List.drop_drop, drop_pl] at h1
  rw [fnd_bhd hr] at h
  cases hb : bhd O key L k with
  | nil => rw [hb] at h; cases h
  | cons y r =>
    rw [hb] at h h1
    simp only at h
    split at h
    · injection h with h
      subst h
      rw [List.drop_succ_cons, List.drop_zero] at h1
      rw [← h1]
      conv => lhs; rw [← hs, hb]
      exact List.perm_middle
    · cases h
theorem rise_del {key : α → K} {L : List α} (hr : Rise O key L) (k : K) : Rise O key (del key L k) := hr.sublist List.filter_sublist
theorem rise_ins {key : α → K} {L : List α} (hr : Rise O key L) {x : α} (h : fnd key L (key x) = none) : Rise O key (ins O key L x) := by
  have hs := ahd_bhd (O := O) key L (key x)
  have hp := hr
  unfold Rise at hp
  rw [← hs, List.pairwise_append] at hp
  unfold Rise ins
  rw [List.pairwise_append, List.pairwise_cons]
  refine ⟨hp.1, ⟨fun y hy => ?_, hp.2.1⟩, fun a ha b hb => ?_⟩
  · have h1 := bhd_ge hr hy
    have hm : y ∈ L := by rw [← hs]; exact List.mem_append_right _ hy
    have hne := fnd_none.1 h y hm
    cases hc : O.lt (key x) (key y) with
    | true => rfl
    | false => exact absurd (O.tot _ _ h1 hc) hne
  · rcases List.mem_cons.1 hb with rfl | hb
    · exact ahd_lt ha
    · exact hp.2.2 a ha b hb
/-- In a list that rises there is just one of a key. -/
theorem fnd_of_mem {key : α → K} {L : List α} (hr : Rise O key L) {x : α} (h : x ∈ L) : fnd key L (key x) = some x := by
  induction L with
  | nil => cases h
  | cons a L ih =>
    rcases List.mem_cons.1 h with rfl | h
    · simp [fnd]
    · have := (List.pairwise_cons.1 hr).1 x h
      have hne := O.ne this
      have e1 : fnd key (a :: L) (key x) = fnd key L (key x) := by simp [fnd, hne]
      rw [e1]
      exact ih (rise_tail hr) h
theorem fnd_iff {key : α → K} {L : List α} (hr : Rise O key L) {k : K} {x : α} : fnd key L k = some x ↔ x ∈ L ∧ key x = k :=
  ⟨fnd_mem, fun ⟨h1, h2⟩ => by rw [← h2]; exact fnd_of_mem hr h1⟩
theorem fnd_ins {key : α → K} {L : List α} (hr : Rise O key L) {x : α} (h : fnd key L (key x) = none) (k : K) : fnd key (ins O key L x) k = if k = key x then some x else fnd key L k := by
  have hri := rise_ins hr h
  by_cases hk : k = key x
  · rw [if_pos hk, fnd_iff hri]
    exact ⟨mem_ins.2 (.inl rfl), hk.symm⟩
  · rw [if_neg hk]
    cases hf : fnd key L k with
    | none =>
      rw [fnd_none] at hf ⊢
      intro y hy
      rcases mem_ins.1 hy with rfl | hy
      · exact fun h => hk h.symm
      · exact hf y hy
    | some y =>
      have := fnd_mem hf
      rw [fnd_iff hri]
      exact ⟨mem_ins.2 (.inr this.1), this.2⟩
theorem rise_updk {key : α → K} {L : List α} (hr : Rise O key L) {k : K} {y : α} (hy : key y = k) : Rise O key (updk key L k y) := by
  unfold Rise updk
  rw [List.pairwise_map]
  refine hr.imp fun {a b} h => ?_
  have h1 : ∀ x : α, key (if key x = k then y else x) = key x := fun x => by split <;> simp_all
  rw [h1, h1]
  exact h
theorem mem_updk {key : α → K} {L : List α} {k : K} {y z : α} (h : z ∈ updk key L k y) : z = y ∨ z ∈ L := by
  simp only [updk, List.mem_map] at h
  obtain ⟨x, hx, rfl⟩ := h
  split
  · exact .inl rfl
  · exact .inr hx
theorem key_updk {key : α → K} (L : List α) {k : K} {y : α} (hy : key y = k) : (updk key L k y).map key = L.map key := by
  unfold updk
  rw [List.map_map]
  refine List.map_congr_left fun x _ => ?_
  show key (if key x = k then y else x) = key x
  split <;> simp_all
theorem fnd_updk {key : α → K} {L : List α} {k : K} {y : α} (hy : key y = k) (j : K) : fnd key (updk key L k y) j = if j = k then (fnd key L k).map fun _ => y else fnd key L j := by
  unfold fnd updk
  rw [List.find?_map]
  have e : ((fun x => decide (key x = j)) ∘ fun x => if key x = k then y else x) = fun x => decide (key x = j) := by
    funext x
    show decide (key (if key x = k then y else x) = j) = _
    by_cases hx : key x = k
    · rw [if_pos hx, hy, hx]
    · rw [if_neg hx]
  rw [e]
  by_cases hj : j = k
  · rw [if_pos hj]
    subst hj
    cases hf : L.find? (fun x => decide (key x = j)) with
    | none => rfl
    | some x =>
      have := List.find?_some hf
      simp at this
      simp [this]
  · rw [if_neg hj]
    cases hf : L.find? (fun x => decide (key x = j)) with
    | none => rfl
    | some x =>
      have := List.find?_some hf
      simp at this
      simp [this, hj]
/-- Stored at its place. -/
theorem set_updk {key : α → K} {L : List α} {k : K} {x y : α} (hr : Rise O key L) (h : fnd key L k = some x) : L.set (pl O key L k) y = updk key L k y := by
  have hs := ahd_bhd (O := O) key L k
  rw [fnd_bhd hr] at h
  cases hb : bhd O key L k with
  | nil => rw [hb] at h; cases h
  | cons z r =>
    rw [hb] at h hs
    simp only at h
    split at h
    · rename_i hz
      injection h with h
      subst h
      have hp := hr
      unfold Rise at hp
      rw [← hs] at hp
      have h1 : ∀ a ∈ ahd O key L k, key a ≠ k := fun a ha => O.ne (ahd_lt ha)
      have h2 : ∀ a ∈ r, key a ≠ k := fun a ha => by
        have := (List.pairwise_cons.1 ((List.pairwise_append.1 hp).2.1)).1 a ha
        rw [hz] at this
        exact (O.ne this).symm
      have e1 : L.set (pl O key L k) y = ahd O key L k ++ y :: r := by
        conv => lhs; rw [← hs]
        unfold pl
        rw [hs, show (ahd O key L k).length = (ahd O key L k).length + 0 from rfl]
        conv => lhs; arg 1; rw [← hs]
        rw [List.set_append_right _ _ (by omega)]
        simp
      rw [e1]
      conv => rhs; rw [← hs]
      unfold updk
      rw [List.map_append, List.map_cons, if_pos hz]
      rw [List.map_congr_left (g := id) (fun a ha => by simp [h1 a ha]), List.map_congr_left (l := r) (g := id) (fun a ha => by simp [h2 a ha])]
      simp
    · cases h
end
end Go.Proofs.YtgaaieipeiekiaaGreat

namespace Go.Proofs.YtgaaieipeiekiaaGreat
open Go.RowKit

/-- A name and its number. -/
structure Nm where
  name : ByteArray
  ino : Int
deriving Inhabited
/-- A file: its number, size, blocks. -/
structure Nd where
  ino : Int
  s : Int
  L : List Ex
deriving Inhabited
structure Ig where
  N : List Nm
  D : List Nd
/-- A change. -/
structure Opv where
  kind : Int
  ino : Int
  pos : Int
  size : Int
  keep : Bool
  name : ByteArray
  to : ByteArray
  bs : List Int

theorem bl_irr : ∀ l : List UInt8, Op.bytesLess l l = false
  | [] => rfl
  | a :: l => by simp [Op.bytesLess, bl_irr l]
theorem bl_tr : ∀ a b c : List UInt8, Op.bytesLess a b = true → Op.bytesLess b c = true → Op.bytesLess a c = true
  | _, [], _, h, _ => by simp [Op.bytesLess] at h
  | _, _ :: _, [], _, h => by simp [Op.bytesLess] at h
  | [], _ :: _, _ :: _, _, _ => rfl
  | a :: x, b :: y, c :: z, h1, h2 => by
    simp only [Op.bytesLess, Bool.or_eq_true, Bool.and_eq_true, decide_eq_true_eq, beq_iff_eq, UInt8.lt_iff_toNat_lt] at h1 h2 ⊢
    rcases h1 with h1 | ⟨rfl, h1⟩
    · rcases h2 with h2 | ⟨rfl, h2⟩
      · exact .inl (by omega)
      · exact .inl h1
    · rcases h2 with h2 | ⟨rfl, h2⟩
      · exact .inl h2
      · exact .inr ⟨rfl, bl_tr x y z h1 h2⟩
theorem bl_tot : ∀ a b : List UInt8, Op.bytesLess a b = false → Op.bytesLess b a = false → a = b
  | [], [], _, _ => rfl
  | [], _ :: _, h, _ => by simp [Op.bytesLess] at h
  | _ :: _, [], _, h => by simp [Op.bytesLess] at h
  | a :: x, b :: y, h1, h2 => by
    simp only [Op.bytesLess, Bool.or_eq_false_iff, Bool.and_eq_false_iff, decide_eq_false_iff_not, UInt8.lt_iff_toNat_lt] at h1 h2
    have e : a = b := UInt8.toNat_inj.1 (by omega)
    subst e
    have e1 : Op.bytesLess x y = false := by rcases h1.2 with h | h <;> simp_all
    have e2 : Op.bytesLess y x = false := by rcases h2.2 with h | h <;> simp_all
    rw [bl_tot x y e1 e2]
theorem toList_inj {a b : ByteArray} (h : a.toList = b.toList) : a = b := by
  rw [Lib.toList_data, Lib.toList_data] at h
  exact ByteArray.ext (Array.toList_inj.1 h)
def nlt (a b : ByteArray) : Bool := Op.bytesLess a.toList b.toList
def ordN : Ord ByteArray := ⟨nlt, fun _ => bl_irr _, fun _ _ _ => bl_tr _ _ _, fun _ _ h1 h2 => toList_inj (bl_tot _ _ h1 h2)⟩
def ordI : Ord Int := ⟨fun a b => decide (a < b), fun a => by simp, fun a b c h1 h2 => by simp only [decide_eq_true_eq] at *; omega, fun a b h1 h2 => by simp only [decide_eq_false_iff_not] at *; omega⟩

/-- May a byte be in a name? -/
def okB (c : UInt8) : Bool := (decide (97 ≤ (c.toNat : Int)) && decide ((c.toNat : Int) ≤ 122)) || (decide (48 ≤ (c.toNat : Int)) && decide ((c.toNat : Int) ≤ 57)) || decide ((c.toNat : Int) = 46) || decide ((c.toNat : Int) = 95) || decide ((c.toNat : Int) = 45)
def okL (l : List UInt8) : Bool := decide (1 ≤ l.length) && decide (l.length ≤ 20) && decide (((l.getD 0 0).toNat : Int) ≠ 45) && l.all okB
def okName (s : ByteArray) : Bool := okL s.data.toList
def okIno (n : Int) : Bool := decide (1 ≤ n) && decide (n ≤ 4611686018427387904)

structure GoodI (I : Ig) : Prop where
  len : I.N.length ≤ 16
  name : ∀ x ∈ I.N, okName x.name = true
  ino : ∀ x ∈ I.N, okIno x.ino = true
  rise : Rise ordN Nm.name I.N
  up : Rise ordI Nd.ino I.D
  perm : (I.N.map Nm.ino).Perm (I.D.map Nd.ino)
  cont : ∀ d ∈ I.D, may d.s d.L = true

/-- What is written, as a list. -/
def wrl (L : List Ex) (p : Int) (bs : List Int) : List Ex := if bs = [] then L else (alo L p bs.length).map fun e => ⟨e.no, if p / 8 ≤ e.no ∧ e.no ≤ (p + (bs.length : Int) - 1) / 8 then wbytes L p bs e.no else e.bs⟩
theorem look_map (g : Int → List Int → List Int) : ∀ (L : List Ex) (k : Int), look (L.map fun e => (⟨e.no, g e.no e.bs⟩ : Ex)) k = (look L k).map (g k)
  | [], _ => rfl
  | e :: r, k => by
    simp only [List.map_cons, look]
    by_cases h : e.no = k
    · subst h; simp
    · simp [h, look_map g r k]
theorem wr_none {L M : List Ex} {p : Int} {s : Int} (gm : may s L = true) (h : WR L p [] M) : M = L :=
  look_ext h.1 ((may_iff _ _).1 gm).up (fun k => by rw [h.2, if_pos rfl])
theorem wr_is {s : Int} {L M : List Ex} {p : Int} {bs : List Int} (gm : may s L = true) (h : WR L p bs M) : M = wrl L p bs := by
  unfold wrl
  by_cases hb : bs = []
  · subst hb
    rw [if_pos rfl]
    exact wr_none gm h
  · rw [if_neg hb]
    have hl : bs.length ≠ 0 := fun x => hb (List.eq_nil_of_length_eq_zero x)
    have hg := (may_iff _ _).1 gm
    have hup : Up (alo L p bs.length) := up_fil hg.up (by omega) (by omega)
    refine look_ext h.1 ?_ (fun k => ?_)
    · exact List.Pairwise.map _ (fun _ _ x => x) hup
    · rw [h.2 k, if_neg hb, look_map (fun k b => if p / 8 ≤ k ∧ k ≤ (p + (bs.length : Int) - 1) / 8 then wbytes L p bs k else b)]
      rw [show look (alo L p bs.length) k = flook L (p / 8) ((p + (bs.length : Int) - 1) / 8) k from fil_look hg.up (by omega) (by omega) k]
      unfold wlook flook
      by_cases g : p / 8 ≤ k ∧ k ≤ (p + (bs.length : Int) - 1) / 8
      · simp [g]
      · simp [g]
theorem wr_look {s : Int} {L : List Ex} {p : Int} {bs : List Int} (gm : may s L = true) : WR L p bs (wrl L p bs) := by
  unfold wrl
  have hg := (may_iff _ _).1 gm
  by_cases hb : bs = []
  · subst hb
    rw [if_pos rfl]
    exact ⟨hg.up, fun k => by rw [if_pos rfl]⟩
  · rw [if_neg hb]
    have hl : bs.length ≠ 0 := fun x => hb (List.eq_nil_of_length_eq_zero x)
    have hup : Up (alo L p bs.length) := up_fil hg.up (by omega) (by omega)
    refine ⟨List.Pairwise.map _ (fun _ _ x => x) hup, fun k => ?_⟩
    rw [if_neg hb, look_map (fun k b => if p / 8 ≤ k ∧ k ≤ (p + (bs.length : Int) - 1) / 8 then wbytes L p bs k else b)]
    rw [show look (alo L p bs.length) k = flook L (p / 8) ((p + (bs.length : Int) - 1) / 8) k from fil_look hg.up (by omega) (by omega) k]
    unfold wlook flook
    by_cases g : p / 8 ≤ k ∧ k ≤ (p + (bs.length : Int) - 1) / 8
    · simp [g]
    · simp [g]

/-- What a change makes of what is in a file. -/
def chg (o : Opv) (s : Int) (L : List Ex) : Option (Int × List Ex) :=
  if o.kind = 2 then (if ((eo o.pos (o.bs.length : Int)).isSome && decide (o.bs.length ≤ 4096) && may s L) = true then some (wsz s o.pos o.bs.length, wrl L o.pos o.bs) else none)
  else if o.kind = 3 then (if (decide (0 ≤ o.size) && decide (o.size ≤ 1099511627776) && may s L) = true then some (o.size, wo L o.size 1099511627776) else none)
  else if o.kind = 4 then (if ((eo o.pos o.size).isSome && decide (1 ≤ o.size) && decide (o.size ≤ 32768) && may s L) = true then some (asz s o.pos o.size o.keep, alo L o.pos o.size) else none)
  else if o.kind = 5 then (if ((eo o.pos o.size).isSome && decide (1 ≤ o.size) && may s L) = true then some (s, wo L o.pos (o.pos + o.size)) else none)
  else none
def applyS (I : Ig) (o : Opv) : Ig :=
  if o.kind = 1 then (if okName o.name = true ∧ fnd Nm.name I.N o.name = none ∧ okIno o.ino = true ∧ fnd Nd.ino I.D o.ino = none ∧ I.N.length < 16 then ⟨ins ordN Nm.name I.N ⟨o.name, o.ino⟩, ins ordI Nd.ino I.D ⟨o.ino, 0, []⟩⟩ else I)
  else if o.kind = 6 then (match fnd Nm.name I.N o.name with
    | none => I
    | some x => if okName o.to = true ∧ o.to ≠ o.name then (match fnd Nm.name I.N o.to with
        | none => ⟨ins ordN Nm.name (del Nm.name I.N o.name) ⟨o.to, x.ino⟩, I.D⟩
        | some y => ⟨ins ordN Nm.name (del Nm.name (del Nm.name I.N o.name) o.to) ⟨o.to, x.ino⟩, del Nd.ino I.D y.ino⟩) else I)
  else if o.kind = 7 then (match fnd Nm.name I.N o.name with
    | none => I
    | some x => ⟨del Nm.name I.N o.name, del Nd.ino I.D x.ino⟩)
  else (match fnd Nd.ino I.D o.ino with
    | none => I
    | some d => match chg o d.s d.L with
      | none => I
      | some r => ⟨I.N, updk Nd.ino I.D o.ino ⟨o.ino, r.1, r.2⟩⟩)

theorem eo_is {p n : Int} (h : (eo p n).isSome = true) : 0 ≤ p ∧ 0 ≤ n ∧ p + n ≤ 1099511627776 := by
  cases he : eo p n with
  | none => rw [he] at h; cases h
  | some t => have := eo_some he; omega
theorem chg_good {o : Opv} {s : Int} {L : List Ex} {r : Int × List Ex} (gm : may s L = true) (h : chg o s L = some r) : may r.1 r.2 = true := by
  have hg := (may_iff _ _).1 gm
  have h0 := hg.s0
  have h1 := hg.s1
  unfold chg at h
  split at h
  · split at h
    · rename_i hc
      injection h with h
      subst h
      simp only [Bool.and_eq_true, decide_eq_true_eq] at hc
      have he := eo_is hc.1.1
      have hw := wr_look (p := o.pos) (bs := o.bs) gm
      by_cases hb : o.bs = []
      · have : wrl L o.pos o.bs = L := by unfold wrl; rw [if_pos hb]
        show may (wsz s o.pos o.bs.length) (wrl L o.pos o.bs) = true
        rw [this]
        have : wsz s o.pos o.bs.length = s := by unfold wsz; rw [if_pos (by rw [hb]; rfl)]
        rw [this]; exact gm
      · have hl : o.bs.length ≠ 0 := fun x => hb (List.eq_nil_of_length_eq_zero x)
        refine (may_iff _ _).2 (good_wlook hg hw.1 (fun k => by rw [hw.2 k, if_neg hb]) ?_ ?_ he.1 ?_) <;> (unfold wsz; rw [if_neg hl]; omega)
    · cases h
  · split at h
    · split at h
      · rename_i hc
        injection h with h
        subst h
        simp only [Bool.and_eq_true, decide_eq_true_eq] at hc
        exact (may_iff _ _).2 (good_wo hg _ _ hc.1.1 hc.1.2 (fun t h1 h2 => .inr ⟨h1, h2⟩))
      · cases h
    · split at h
      · split at h
        · rename_i hc
          injection h with h
          subst h
          simp only [Bool.and_eq_true, decide_eq_true_eq] at hc
          have he := eo_is hc.1.1.1
          have hs : s ≤ asz s o.pos o.size o.keep ∧ asz s o.pos o.size o.keep ≤ 1099511627776 := by unfold asz; split <;> omega
          exact (may_iff _ _).2 (good_flook hg (up_fil hg.up (by omega) (by omega)) (fun k => fil_look hg.up (by omega) (by omega) k) hs.1 hs.2 (by omega) (by omega))
        · cases h
      · split at h
        · split at h
          · rename_i hc
            injection h with h
            subst h
            exact (may_iff _ _).2 (good_wo hg _ _ h0 h1 (fun t h1 h2 => .inl h1))
          · cases h
        · cases h
/-- Not too much of a change. -/
def Small (o : Opv) : Prop := o.bs.length ≤ 100 ∧ (o.size ≤ 400 ∨ 32768 < o.size)
theorem alo_le {L : List Ex} (hu : Up L) (p k : Int) (hk : 0 ≤ k) : (alo L p k).length ≤ L.length + ((p + k - 1) / 8 - p / 8 + 1).toNat := by
  have h1 := idx_mono hu (k := p / 8) (m := (p + k - 1) / 8 + 1) (by omega)
  have h2 := idx_le L ((p + k - 1) / 8 + 1)
  unfold alo fil
  rw [List.length_append, List.length_append, blk_len, List.length_take, List.length_drop]
  omega
theorem chg_len {o : Opv} {s : Int} {L : List Ex} {r : Int × List Ex} (hu : Up L) (hs : Small o) (h : chg o s L = some r) : r.2.length ≤ L.length + 60 := by
  unfold Small at hs
  unfold chg at h
  split at h
  · split at h
    · injection h with h
      subst h
      show (wrl L o.pos o.bs).length ≤ _
      unfold wrl
      split
      · omega
      · rw [List.length_map]
        have := alo_le hu o.pos o.bs.length (by omega)
        omega
    · cases h
  · split at h
    · split at h
      · injection h with h
        subst h
        show (wo L _ _).length ≤ _
        unfold wo
        have := List.length_filter_le (fun e : Ex => !whole e.no o.size 1099511627776) L
        rw [List.length_map]; omega
      · cases h
    · split at h
      · split at h
        · rename_i hc
          injection h with h
          subst h
          simp only [Bool.and_eq_true, decide_eq_true_eq] at hc
          show (alo L _ _).length ≤ _
          have := alo_le hu o.pos o.size (by omega)
          omega
        · cases h
      · split at h
        · split at h
          · injection h with h
            subst h
            show (wo L _ _).length ≤ _
            unfold wo
            have := List.length_filter_le (fun e : Ex => !whole e.no o.pos (o.pos + o.size)) L
            rw [List.length_map]; omega
          · cases h
        · cases h
end Go.Proofs.YtgaaieipeiekiaaGreat

namespace Go.Proofs.YtgaaieipeiekiaaGreat

theorem getD_take {α : Type} [Inhabited α] (L : List α) (k : Nat) (hk : k < L.length) : L.take (k + 1) = L.take k ++ [L.getD k default] := by
  rw [List.take_add_one, List.getD_eq_getElem?_getD, List.getElem?_eq_getElem hk]; rfl
theorem mem_take_succ {α : Type} [Inhabited α] {L : List α} {k : Nat} (hk : k < L.length) {x : α} (h : x ∈ L.take (k + 1)) : x ∈ L.take k ∨ x = L.getD k default := by
  rw [getD_take L k hk, List.mem_append, List.mem_singleton] at h
  exact h
theorem getD_mem' {α : Type} [Inhabited α] {L : List α} {k : Nat} (hk : k < L.length) : L.getD k default ∈ L := by
  rw [List.getD_eq_getElem?_getD, List.getElem?_eq_getElem hk]; exact List.getElem_mem hk
theorem take_getD {α : Type} [Inhabited α] {L : List α} {k j : Nat} (h : j < k) : (L.take k).getD j default = L.getD j default := by
  rw [List.getD_eq_getElem?_getD, List.getD_eq_getElem?_getD, List.getElem?_take_of_lt h]
theorem pw_getD {α : Type} [Inhabited α] {R : α → α → Prop} {L : List α} (h : L.Pairwise R) {i j : Nat} (hij : i < j) (hj : j < L.length) : R (L.getD i default) (L.getD j default) := by
  have := List.pairwise_iff_getElem.1 h i j (by omega) hj hij
  rw [List.getD_eq_getElem?_getD, List.getD_eq_getElem?_getD, List.getElem?_eq_getElem (by omega), List.getElem?_eq_getElem hj]
  exact this
section
variable {α K : Type} [Inhabited α] {O : Ord K} {key : α → K} {L : List α}
theorem rise_adj (h : Rise O key L) {k : Nat} (h0 : 0 < k) (hk : k < L.length) : O.lt (key (L.getD (k - 1) default)) (key (L.getD k default)) = true := pw_getD h (by omega) hk
theorem rise_succ {k : Nat} (hk : k < L.length) (h : Rise O key (L.take k)) (ha : 0 < k → O.lt (key (L.getD (k - 1) default)) (key (L.getD k default)) = true) : Rise O key (L.take (k + 1)) := by
  rw [getD_take L k hk]
  unfold Rise at h ⊢
  rw [List.pairwise_append]
  refine ⟨h, List.pairwise_singleton _ _, fun a ha' b hb => ?_⟩
  rw [List.mem_singleton] at hb
  subst hb
  obtain ⟨j, hj, rfl⟩ := List.mem_iff_getElem.1 ha'
  have hj2 : j < k := by rw [List.length_take] at hj; omega
  have hlast := ha (by omega)
  have e : (L.take k)[j] = L.getD j default := by
    rw [List.getElem_take, List.getD_eq_getElem?_getD, List.getElem?_eq_getElem (by omega)]; rfl
  rw [e]
  by_cases h1 : j = k - 1
  · rw [h1]; exact hlast
  · have := pw_getD h (i := j) (j := k - 1) (by omega) (by rw [List.length_take]; omega)
    rw [take_getD hj2, take_getD (by omega)] at this
    exact O.tr _ _ _ this hlast
end
theorem perm_of_sub : ∀ (l m : List Int), l.Nodup → (∀ x ∈ l, x ∈ m) → l.length = m.length → l.Perm m
  | [], m, _, _, h => by
    have : m = [] := List.eq_nil_of_length_eq_zero (by simpa using h.symm)
    rw [this]
  | a :: l, m, hn, hs, h => by
    have ha := hs a (by simp)
    have hp := List.perm_cons_erase ha
    have hl := hp.length_eq
    simp only [List.length_cons] at hl h
    have ih := perm_of_sub l (m.erase a) (List.nodup_cons.1 hn).2 (fun x hx => (List.mem_erase_of_ne (fun he => (List.nodup_cons.1 hn).1 (by rw [← he]; exact hx))).2 (hs x (by simp [hx]))) (by omega)
    exact (ih.cons a).trans hp.symm

structure NamesOk (N : List Nm) : Prop where
  len : N.length ≤ 16
  name : ∀ x ∈ N, okName x.name = true
  ino : ∀ x ∈ N, okIno x.ino = true
  rise : Rise ordN Nm.name N
structure PairOk (N : List Nm) (D : List Nd) : Prop where
  up : Rise ordI Nd.ino D
  perm : (N.map Nm.ino).Perm (D.map Nd.ino)
theorem good_iff (I : Ig) : GoodI I ↔ NamesOk I.N ∧ PairOk I.N I.D ∧ ∀ d ∈ I.D, may d.s d.L = true :=
  ⟨fun h => ⟨⟨h.len, h.name, h.ino, h.rise⟩, ⟨h.up, h.perm⟩, h.cont⟩, fun ⟨a, b, c⟩ => ⟨a.len, a.name, a.ino, a.rise, b.up, b.perm, c⟩⟩
theorem up_iff (D : List Nd) : Rise ordI Nd.ino D ↔ (D.map Nd.ino).Pairwise (· < ·) := by
  unfold Rise
  rw [List.pairwise_map]
  constructor <;> intro h <;> refine h.imp fun {a b} x => ?_
  · exact of_decide_eq_true x
  · exact decide_eq_true x
/-- What paired asks: the numbers, sorted, differ, and are the nodes'. -/
theorem pair_iff {N : List Nm} {D : List Nd} {S : List Int} (hp : S.Perm (N.map Nm.ino)) (hs : S.Pairwise (· ≤ ·)) : (S.Pairwise (· < ·) ∧ S = D.map Nd.ino) ↔ PairOk N D := by
  constructor
  · rintro ⟨h1, rfl⟩
    exact ⟨(up_iff D).2 h1, hp.symm⟩
  · rintro ⟨h1, h2⟩
    have h3 := (up_iff D).1 h1
    have : S = D.map Nd.ino := List.Perm.eq_of_pairwise (le := (· ≤ ·)) (fun a b _ _ x y => Int.le_antisymm x y) hs (h3.imp fun h => Int.le_of_lt h) (hp.trans h2)
    exact ⟨by rw [this]; exact h3, this⟩

theorem GoodI.nodup {I : Ig} (h : GoodI I) : (I.N.map Nm.ino).Nodup := by
  refine h.perm.nodup_iff.2 ?_
  have := (up_iff I.D).1 h.up
  exact this.imp fun {a b} x => by omega
theorem GoodI.leq {I : Ig} (h : GoodI I) : I.N.length = I.D.length := by
  have := h.perm.length_eq
  simpa using this
theorem GoodI.node {I : Ig} (h : GoodI I) {x : Nm} (hx : x ∈ I.N) : ∃ d, fnd Nd.ino I.D x.ino = some d := by
  have : x.ino ∈ I.D.map Nd.ino := (h.perm.mem_iff).1 (List.mem_map_of_mem hx)
  obtain ⟨d, hd, he⟩ := List.mem_map.1 this
  exact ⟨d, by rw [← he]; exact fnd_of_mem h.up hd⟩
theorem GoodI.apart {I : Ig} (h : GoodI I) {i j : Nat} (hij : i < j) (hj : j < I.N.length) : (I.N.getD i default).ino ≠ (I.N.getD j default).ino := by
  have := h.nodup
  unfold List.Nodup at this
  rw [List.pairwise_map] at this
  exact pw_getD this hij hj
/-- What the reference asks. -/
theorem good_ref {I : Ig} (h1 : I.N.length ≤ 16) (h2 : I.N.length = I.D.length) (h3 : ∀ x ∈ I.N, okName x.name = true ∧ okIno x.ino = true ∧ (fnd Nd.ino I.D x.ino).isSome = true) (h4 : Rise ordN Nm.name I.N) (h5 : (I.N.map Nm.ino).Nodup) (h6 : Rise ordI Nd.ino I.D) (h7 : ∀ d ∈ I.D, may d.s d.L = true) : GoodI I := by
  refine ⟨h1, fun x hx => (h3 x hx).1, fun x hx => (h3 x hx).2.1, h4, h6, perm_of_sub _ _ h5 (fun k hk => ?_) (by simpa using h2), h7⟩
  obtain ⟨x, hx, rfl⟩ := List.mem_map.1 hk
  obtain ⟨d, hd⟩ := Option.isSome_iff_exists.1 (h3 x hx).2.2
  have := fnd_mem hd
  exact List.mem_map.2 ⟨d, this.1, this.2⟩

theorem good_nil : GoodI ⟨[], []⟩ := ⟨by simp, by simp, by simp, List.Pairwise.nil, List.Pairwise.nil, List.Perm.refl _, by simp⟩
theorem good_updk {I : Ig} (h : GoodI I) {k : Int} {s : Int} {L : List Ex} (hm : may s L = true) : GoodI ⟨I.N, updk Nd.ino I.D k ⟨k, s, L⟩⟩ :=
  ⟨h.len, h.name, h.ino, h.rise, rise_updk h.up rfl, by show (I.N.map Nm.ino).Perm ((updk Nd.ino I.D k ⟨k, s, L⟩).map Nd.ino); rw [key_updk (key := Nd.ino) (y := ⟨k, s, L⟩) I.D rfl]; exact h.perm, fun d hd => (mem_updk hd).elim (fun e => by rw [e]; exact hm) (h.cont d)⟩
theorem may_zero : may 0 [] = true := by decide
theorem perm_ins_map (N : List Nm) (x : Nm) : ((ins ordN Nm.name N x).map Nm.ino).Perm (x.ino :: N.map Nm.ino) := (ins_perm Nm.name N x).map Nm.ino
theorem good_create {I : Ig} (h : GoodI I) {name : ByteArray} {k : Int} (h1 : okName name = true) (h2 : fnd Nm.name I.N name = none) (h3 : okIno k = true) (h4 : fnd Nd.ino I.D k = none) (h5 : I.N.length < 16) : GoodI ⟨ins ordN Nm.name I.N ⟨name, k⟩, ins ordI Nd.ino I.D ⟨k, 0, []⟩⟩ := by
  refine ⟨?_, fun x hx => ?_, fun x hx => ?_, rise_ins h.rise h2, rise_ins h.up h4, ?_, fun d hd => ?_⟩
  · have := (ins_perm (O := ordN) Nm.name I.N ⟨name, k⟩).length_eq
    simp only [List.length_cons] at this
    show (ins ordN Nm.name I.N ⟨name, k⟩).length ≤ 16
    omega
  · rcases mem_ins.1 hx with rfl | hx
    · exact h1
    · exact h.name x hx
  · rcases mem_ins.1 hx with rfl | hx
    · exact h3
    · exact h.ino x hx
  · exact ((perm_ins_map _ _).trans (h.perm.cons k)).trans ((ins_perm (O := ordI) Nd.ino I.D ⟨k, 0, []⟩).map Nd.ino).symm
  · rcases mem_ins.1 hd with rfl | hd
    · exact may_zero
    · exact h.cont d hd
theorem len_del {α K : Type} [DecidableEq K] (key : α → K) (L : List α) (k : K) : (del key L k).length ≤ L.length := List.length_filter_le _ _
theorem perm_del_nodes {I : Ig} (h : GoodI I) {x : Nm} (hx : x ∈ I.N) : (I.D.map Nd.ino).Perm (x.ino :: (del Nd.ino I.D x.ino).map Nd.ino) := by
  obtain ⟨d, hd⟩ := h.node hx
  have := (del_perm h.up hd).map Nd.ino
  rwa [List.map_cons, (fnd_mem hd).2] at this
theorem good_remove {I : Ig} (h : GoodI I) {name : ByteArray} {x : Nm} (hx : fnd Nm.name I.N name = some x) : GoodI ⟨del Nm.name I.N name, del Nd.ino I.D x.ino⟩ := by
  have hp := (del_perm h.rise hx).map Nm.ino
  rw [List.map_cons] at hp
  refine ⟨Nat.le_trans (len_del _ _ _) h.len, fun y hy => h.name y (mem_del.1 hy).1, fun y hy => h.ino y (mem_del.1 hy).1, rise_del h.rise _, rise_del h.up _, ?_, fun d hd => h.cont d (mem_del.1 hd).1⟩
  exact List.Perm.cons_inv ((hp.symm.trans h.perm).trans (perm_del_nodes h (fnd_mem hx).1))
theorem good_rename0 {I : Ig} (h : GoodI I) {name to : ByteArray} {x : Nm} (hx : fnd Nm.name I.N name = some x) (h1 : okName to = true) (hy : fnd Nm.name I.N to = none) : GoodI ⟨ins ordN Nm.name (del Nm.name I.N name) ⟨to, x.ino⟩, I.D⟩ := by
  have hp := (del_perm h.rise hx).map Nm.ino
  rw [List.map_cons] at hp
  have hf : fnd Nm.name (del Nm.name I.N name) to = none := by rw [fnd_del]; split; rfl; exact hy
  refine ⟨?_, fun y hy => ?_, fun y hy => ?_, rise_ins (rise_del h.rise _) hf, h.up, ?_, h.cont⟩
  · have h3 := (ins_perm (O := ordN) Nm.name (del Nm.name I.N name) ⟨to, x.ino⟩).length_eq
    have h2 := (del_perm h.rise hx).length_eq
    have := h.len
    simp only [List.length_cons] at h2 h3
    show (ins ordN Nm.name _ _).length ≤ 16
    omega
  · rcases mem_ins.1 hy with rfl | hy
    · exact h1
    · exact h.name y (mem_del.1 hy).1
  · rcases mem_ins.1 hy with rfl | hy
    · exact h.ino x (fnd_mem hx).1
    · exact h.ino y (mem_del.1 hy).1
  · exact ((perm_ins_map (del Nm.name I.N name) ⟨to, x.ino⟩).trans hp.symm).trans h.perm
theorem good_rename1 {I : Ig} (h : GoodI I) {name to : ByteArray} {x y : Nm} (hx : fnd Nm.name I.N name = some x) (h1 : okName to = true) (hn : to ≠ name) (hy : fnd Nm.name I.N to = some y) :
    GoodI ⟨ins ordN Nm.name (del Nm.name (del Nm.name I.N name) to) ⟨to, x.ino⟩, del Nd.ino I.D y.ino⟩ := by
  have hr := good_remove h hy
  have hx' : fnd Nm.name (del Nm.name I.N to) name = some x := by rw [fnd_del, if_neg (fun e => hn e.symm)]; exact hx
  have hy' : fnd Nm.name (del Nm.name I.N to) to = none := by rw [fnd_del, if_pos rfl]
  have := good_rename0 hr hx' h1 hy'
  rw [del_comm]
  exact this
theorem good_apply {I : Ig} (h : GoodI I) (o : Opv) : GoodI (applyS I o) := by
  unfold applyS
  split
  · split
    · rename_i hc
      exact good_create h hc.1 hc.2.1 hc.2.2.1 hc.2.2.2.1 hc.2.2.2.2
    · exact h
  · split
    · split
      · exact h
      · rename_i x hx
        split
        · rename_i hc
          split
          · rename_i hy; exact good_rename0 h hx hc.1 hy
          · rename_i y hy; exact good_rename1 h hx hc.1 hc.2 hy
        · exact h
    · split
      · split
        · exact h
        · rename_i x hx; exact good_remove h hx
      · split
        · exact h
        · rename_i d hd
          split
          · exact h
          · rename_i r hr
            exact good_updk h (chg_good (h.cont d (fnd_mem hd).1) hr)
def Lens (K : Nat) (I : Ig) : Prop := ∀ d ∈ I.D, d.L.length ≤ K
theorem lens_apply {I : Ig} {K : Nat} (h : GoodI I) (hl : Lens K I) {o : Opv} (hs : Small o) : Lens (K + 60) (applyS I o) := by
  have hl' : Lens (K + 60) I := fun d hd => Nat.le_trans (hl d hd) (by omega)
  have hdel : ∀ N k, Lens (K + 60) ⟨N, del Nd.ino I.D k⟩ := fun N k d hd => hl' d (mem_del.1 hd).1
  unfold applyS
  split
  · split
    · intro d hd
      rcases mem_ins.1 hd with rfl | hd
      · exact Nat.zero_le _
      · exact hl' d hd
    · exact hl'
  · split
    · split
      · exact hl'
      · split
        · split
          · exact hl'
          · exact hdel _ _
        · exact hl'
    · split
      · split
        · exact hl'
        · exact hdel _ _
      · split
        · exact hl'
        · rename_i d hd
          split
          · exact hl'
          · rename_i r hr
            intro e he
            rcases mem_updk he with rfl | he
            · have hm := (fnd_mem hd).1
              have := chg_len ((may_iff _ _).1 (h.cont d hm)).up hs hr
              have := hl d hm
              show r.2.length ≤ _
              omega
            · exact hl' e he
end Go.Proofs.YtgaaieipeiekiaaGreat
