/- Numbers, pairs and sectors in memory; what may change, what stays; objects side by side. No Go of the program. -/
import Derived.Below
import Derived.WalkKit
import Derived.Deep.AppendSrc
import Derived.Lib.Hide
import Derived.Deep.QuietTactic
import Derived.BigQuiet
namespace Go.Proofs.Ytigfimlpjmmpoaa
open Go.RowKit

/-- What may have changed: the blocks of S alone. -/
structure Only (S : Nat → Prop) (w w' : World) : Prop where
  os : w'.os = w.os
  tape : w'.tape = w.tape
  output : w'.output = w.output
  size : w.heap.size ≤ w'.heap.size
  block : ∀ k, k < w.heap.size → ¬ S k → w'.heap[k]? = w.heap[k]?

theorem Only.refl (S : Nat → Prop) (w : World) : Only S w w := ⟨rfl, rfl, rfl, Nat.le_refl _, fun _ _ _ => rfl⟩
theorem Only.trans {S T : Nat → Prop} {a b c : World} (h : Only S a b) (k : Only T b c) (hT : ∀ d, T d → d < a.heap.size → S d) : Only S a c :=
  ⟨k.os.trans h.os, k.tape.trans h.tape, k.output.trans h.output, Nat.le_trans h.size k.size, fun i hi hn => (k.block i (Nat.lt_of_lt_of_le hi h.size) (fun ht => hn (hT i ht hi))).trans (h.block i hi hn)⟩
theorem Only.mono {S T : Nat → Prop} {w w' : World} (h : Only S w w') (hT : ∀ d, S d → T d) : Only T w w' := ⟨h.os, h.tape, h.output, h.size, fun k hk hn => h.block k hk (fun hs => hn (hT k hs))⟩
theorem Only.drew {S : Nat → Prop} {a w : World} (h : Only S a w) : Only S a w.drew := ⟨h.os, h.tape, h.output, h.size, h.block⟩
theorem Only.alloc {S : Nat → Prop} {a w : World} (h : Only S a w) (o : Obj) : Only S a (w.alloc o) :=
  h.trans (T := fun _ => False) ⟨rfl, rfl, rfl, by simp, fun k hk _ => Below.heap_alloc _ _ _ hk⟩ (fun _ h _ => h.elim)
theorem Only.setCell {S : Nat → Prop} {a w : World} (h : Only S a w) (p : Addr) (hp : p.block < a.heap.size → S p.block) (u : Value) : Only S a (w.setCell p u) :=
  h.trans (T := fun d => d = p.block) ⟨rfl, rfl, rfl, by simp [World.setCell], fun k _ hn => Below.heap_setCell _ _ _ _ hn⟩ (fun d hd hl => by subst hd; exact hp hl)
theorem Only.of_below {S : Nat → Prop} {w w' : World} (h : Below w.heap.size w w') : Only S w w' := ⟨h.os, h.tape, h.output, h.size, fun k hk _ => h.block k hk⟩
theorem Only.below {S : Nat → Prop} {w w' : World} {B : Nat} (h : Only S w w') (hB : B ≤ w.heap.size) (hS : ∀ d, S d → B ≤ d) : Below B w w' :=
  ⟨h.os, h.tape, h.output, h.size, fun k hk => h.block k (by omega) (fun hs => by have := hS k hs; omega)⟩
theorem Only.cell {S : Nat → Prop} {w w' : World} (h : Only S w w') {p : Addr} (hp : p.block < w.heap.size) (hn : ¬ S p.block) : w'.cell? p = w.cell? p := World.cell?_of_block (w := w) (h.block p.block hp hn)
theorem Only.frozen {S : Nat → Prop} {w w' : World} (h : Only S w w') {p : Addr} (hp : p.block < w.heap.size) (hn : ¬ S p.block) : w'.frozen? p = w.frozen? p := World.frozen?_of_block (w := w) (h.block p.block hp hn)
theorem Only.setCells {S : Nat → Prop} {a w : World} (h : Only S a w) (g o : Nat) (hg : g < a.heap.size → S g) (vs : List Value) : Only S a (w.setCells g o vs) := by
  induction vs generalizing o w with
  | nil => exact h
  | cons v r ih => exact ih (h.setCell ⟨g, o, none⟩ hg v) (o + 1)


/-- What is told of an object, over its blocks, stays as long as none of these changes. -/
structure Keeps (P : World → (Nat → Prop) → Prop) : Prop where
  lt : ∀ {w : World} {S : Nat → Prop}, P w S → ∀ d, S d → d < w.heap.size
  only : ∀ {w w' : World} {S T : Nat → Prop}, P w S → Only T w w' → (∀ d, S d → ¬ T d) → P w' S
theorem Keeps.on {P : World → (Nat → Prop) → Prop} (k : Keeps P) {w w' : World} {S : Nat → Prop} (h : P w S) (hb : Below w.heap.size w w') : P w' S := k.only (T := fun _ => False) h (Only.of_below hb) (fun _ _ h => h)

/-- One that was made behind W; what was there in W is as it was. -/
structure Mine (W w : World) (P : World → (Nat → Prop) → Prop) (S : Nat → Prop) : Prop where
  obj : P w S
  new : ∀ d, S d → W.heap.size ≤ d
  below : Below W.heap.size W w
theorem Mine.next {W w w' : World} {P P' : World → (Nat → Prop) → Prop} {S S' : Nat → Prop} (h : Mine W w P S) (f : P' w' S') (o : Only S w w') (g : ∀ d, S' d → S d ∨ w.heap.size ≤ d) : Mine W w' P' S' :=
  ⟨f, fun d hd => (g d hd).elim (h.new d) (fun hl => Nat.le_trans h.below.size hl), h.below.trans (o.below h.below.size h.new)⟩
theorem Mine.on {W w w' : World} {P : World → (Nat → Prop) → Prop} {S : Nat → Prop} (k : Keeps P) (h : Mine W w P S) (o : Below w.heap.size w w') : Mine W w' P S :=
  ⟨k.on h.obj o, h.new, h.below.trans (o.mono h.below.size)⟩

/-- Two, side by side. -/
structure Both (W w : World) (P : World → (Nat → Prop) → Prop) (S : Nat → Prop) (R : World → (Nat → Prop) → Prop) (T : Nat → Prop) : Prop where
  f : Mine W w P S
  g : Mine W w R T
  apart : ∀ d, S d → ¬ T d
theorem Both.fst {W w w' : World} {P P' R : World → (Nat → Prop) → Prop} {S S' T : Nat → Prop} (kR : Keeps R) (h : Both W w P S R T) (f : P' w' S') (o : Only S w w') (g : ∀ d, S' d → S d ∨ w.heap.size ≤ d) : Both W w' P' S' R T :=
  ⟨h.f.next f o g, ⟨kR.only h.g.obj o (fun d ht hs => h.apart d hs ht), h.g.new, h.f.below.trans (o.below h.f.below.size h.f.new)⟩, fun d hd ht => (g d hd).elim (fun hs => h.apart d hs ht) (fun hl => by have := kR.lt h.g.obj d ht; omega)⟩
theorem Both.snd {W w w' : World} {P R R' : World → (Nat → Prop) → Prop} {S T T' : Nat → Prop} (kP : Keeps P) (h : Both W w P S R T) (f : R' w' T') (o : Only T w w') (g : ∀ d, T' d → T d ∨ w.heap.size ≤ d) : Both W w' P S R' T' :=
  ⟨⟨kP.only h.f.obj o h.apart, h.f.new, h.g.below.trans (o.below h.g.below.size h.g.new)⟩, h.g.next f o g, fun d hs ht => (g d ht).elim (fun hT => h.apart d hs hT) (fun hl => by have := kP.lt h.f.obj d hs; omega)⟩
theorem Both.on {W w w' : World} {P R : World → (Nat → Prop) → Prop} {S T : Nat → Prop} (kP : Keeps P) (kR : Keeps R) (h : Both W w P S R T) (o : Below w.heap.size w w') : Both W w' P S R T :=
  ⟨h.f.on kP o, h.g.on kR o, h.apart⟩
/-- A second one is made beside the first. -/
theorem Mine.both {W w w' : World} {P R : World → (Nat → Prop) → Prop} {S T : Nat → Prop} (kP : Keeps P) (h : Mine W w P S) (f : R w' T) (new : ∀ d, T d → w.heap.size ≤ d) (o : Below w.heap.size w w') : Both W w' P S R T :=
  ⟨h.on kP o, ⟨f, fun d hd => Nat.le_trans h.below.size (new d hd), (h.on kP o).below⟩, fun d hs ht => by have := kP.lt h.obj d hs; have := new d ht; omega⟩


/-- A block, whole. -/
def Row (w : World) (b : Nat) (t : TypeId) (c : Array Value) : Prop := w.heap[b]? = some (.cells c t (0, 0))
theorem Row.lt {w : World} {b : Nat} {t : TypeId} {c : Array Value} (h : Row w b t c) : b < w.heap.size := (Array.getElem?_eq_some_iff.1 h).1
theorem Row.on {w w' : World} {b : Nat} {t : TypeId} {c : Array Value} (h : Row w b t c) (k : Below w.heap.size w w') : Row w' b t c := (k.block b h.lt).trans h
theorem Row.grown {w w' : World} {b : Nat} {t : TypeId} {c : Array Value} {r : Option Nat} (h : Row w b t c) (k : w.grownBy w' r) (hn : some b ≠ r) : Row w' b t c := (k.block b h.lt hn).trans h
theorem Row.at {w : World} {b : Nat} {t : TypeId} {c : Array Value} (h : Row w b t c) (k : Nat) : w.cell? ⟨b, k, none⟩ = c[k]? := cell_of_row w b k c t (0, 0) h
theorem Row.free {w : World} {b : Nat} {t : TypeId} {c : Array Value} (h : Row w b t c) (k : Nat) : w.frozen? ⟨b, k, none⟩ = false := frozen_of_row w b k c t h
theorem Row.setv {w : World} {b : Nat} {t : TypeId} {c : Array Value} (h : Row w b t c) (k : Nat) (x : Value) : Row (w.setCell ⟨b, k, none⟩ x) b t (c.setIfInBounds k x) := heap_setCell_same w b k c t x h
theorem Row.past {w : World} {b : Nat} {t : TypeId} {c : Array Value} (h : Row w b t c) (b' k : Nat) (x : Value) (hn : b ≠ b') : Row (w.setCell ⟨b', k, none⟩ x) b t c := by
  unfold Row at h ⊢
  rw [← h]
  exact heap_setCell_other w ⟨b', k, none⟩ b x hn
theorem Row.new (w : World) (t : TypeId) (c : Array Value) : Row (w.alloc (.cells c t)) w.heap.size t c := heap_alloc_new w _
theorem Row.alloc {w : World} {b : Nat} {t : TypeId} {c : Array Value} (h : Row w b t c) (o : Obj) : Row (w.alloc o) b t c := (heap_alloc_old w o h.lt).trans h
theorem Row.drewN {w : World} {b : Nat} {t : TypeId} {c : Array Value} (h : Row w b t c) (n : Nat) : Row (w.drewN n) b t c := h

theorem below_drewN {B : Nat} {a w : World} (h : Below B a w) (n : Nat) : Below B a (w.drewN n) := h.trans ⟨rfl, rfl, rfl, Nat.le_refl _, fun _ _ => rfl⟩
/-- A slice of numbers of one kind: nil let in. -/
structure Nums (k : IntKind) (w : World) (A : Option Addr) (n c : Nat) (zs : List Int) : Prop where
  len : zs.length = n
  le : n ≤ c
  mx : c ≤ maxLen
  nil : A = none → n = 0 ∧ c = 0
  cells : 0 < n → ∃ b o, A = some ⟨b, o, none⟩ ∧ b < w.heap.size ∧ ∀ j, j < n → w.cell? ⟨b, o + j, none⟩ = some (.int k (zs.getD j 0))
theorem nums_nil (k : IntKind) (w : World) : Nums k w none 0 0 [] := ⟨rfl, Nat.le_refl _, Nat.zero_le _, fun _ => ⟨rfl, rfl⟩, fun h => absurd h (by omega)⟩
theorem Nums.only {k : IntKind} {S : Nat → Prop} {w w' : World} {A : Option Addr} {n c : Nat} {zs : List Int} (h : Nums k w A n c zs) (hb : Only S w w') (hS : ∀ g o, A = some ⟨g, o, none⟩ → 0 < n → ¬ S g) : Nums k w' A n c zs := by
  refine ⟨h.len, h.le, h.mx, h.nil, fun hn => ?_⟩
  obtain ⟨b, o, rfl, hl, hc⟩ := h.cells hn
  exact ⟨b, o, rfl, Nat.lt_of_lt_of_le hl hb.size, fun k hk => (hb.cell (p := ⟨b, o + k, none⟩) hl (hS b o rfl hn)).trans (hc k hk)⟩
theorem Nums.on {k : IntKind} {w w' : World} {A : Option Addr} {n c : Nat} {zs : List Int} (h : Nums k w A n c zs) (hb : Below w.heap.size w w') : Nums k w' A n c zs :=
  h.only (S := fun _ => False) (Only.of_below hb) (fun _ _ _ _ h => h)
theorem Nums.drewN {k : IntKind} {w : World} {A : Option Addr} {n c : Nat} {zs : List Int} (h : Nums k w A n c zs) (m : Nat) : Nums k (w.drewN m) A n c zs := h.on (below_drewN (Below.refl _ _) m)
theorem Nums.at {k : IntKind} {w : World} {A : Option Addr} {n c : Nat} {zs : List Int} (h : Nums k w A n c zs) : ∀ g o, A = some ⟨g, o, none⟩ → 0 < n → g < w.heap.size := by
  intro g o he hn
  obtain ⟨g', o', he', hl, _⟩ := h.cells hn
  rw [he'] at he; injection he with he; injection he with he; omega
/-- A piece of it. -/
theorem Nums.piece {k : IntKind} {w : World} {b o n c : Nat} {zs : List Int} (h : Nums k w (some ⟨b, o, none⟩) n c zs) (i m : Nat) (hm : i + m ≤ n) : Nums k w (some ⟨b, o + i, none⟩) m (c - i) ((zs.drop i).take m) := by
  have h1 := h.len; have h2 := h.le; have h3 := h.mx
  refine ⟨by simp; omega, by omega, by omega, (fun h => by cases h), fun hp => ?_⟩
  obtain ⟨b', o', he, hl, hc⟩ := h.cells (by omega)
  injection he with he
  injection he with e1 e2
  subst e1 e2
  refine ⟨b, o + i, rfl, hl, fun k hk => ?_⟩
  rw [show o + i + k = o + (i + k) by omega, hc (i + k) (by omega)]
  simp [List.getD_eq_getElem?_getD, hk]
/-- The cells, one by one, of whatever address. -/
theorem Nums.news {k : IntKind} {w : World} {ad : Addr} {n c : Nat} {zs : List Int} (hb : Nums k w (some ad) n c zs) : ∀ j u, (zs.map (Value.int k))[j]? = some u → w.cell? (ad.add j) = some u := by
  intro j u hu
  have hln := hb.len
  rw [List.getElem?_map] at hu
  have hj : j < n := by
    by_cases hj : j < zs.length
    · omega
    · rw [List.getElem?_eq_none (by omega)] at hu; simp at hu
  obtain ⟨b, o', he, _, hc⟩ := hb.cells (by omega)
  injection he with he
  subst he
  have hcj := hc j hj
  rw [List.getElem?_eq_getElem (by omega)] at hu
  simp at hu
  rw [List.getD_eq_getElem?_getD, List.getElem?_eq_getElem (by omega)] at hcj
  rw [← hu]
  by_cases h0 : j = 0
  · subst h0; simpa [Addr.add] using hcj
  · simpa [Addr.add, h0] using hcj
/-- A new row that begins with the numbers. -/
theorem nums_new (k : IntKind) (t : TypeId) (w : World) (zs : List Int) (ex : Array Value) (n c : Nat) (hn : zs.length = n) (hc : n ≤ c) (hm : c ≤ maxLen) :
    Nums k (w.alloc (.cells ((zs.map (Value.int k)).toArray ++ ex) t)) (some ⟨w.heap.size, 0, none⟩) n c zs := by
  have hb := heap_alloc_new w (.cells ((zs.map (Value.int k)).toArray ++ ex) t)
  refine ⟨hn, hc, hm, (fun h => by cases h), fun _ => ⟨w.heap.size, 0, rfl, by simp, fun k hk => ?_⟩⟩
  rw [cell_of_row _ _ _ _ t (0, 0) hb, Array.getElem?_append_left (by simp; omega)]
  simp [List.getD_eq_getElem?_getD, List.getElem?_eq_getElem (show k < zs.length by omega)]

/-- A slice of pairs of numbers. -/
structure Pairs (w : World) (A : Option Addr) (n : Nat) (L : List (Int × Int)) : Prop where
  len : L.length = n
  mx : n ≤ maxLen
  cells : 0 < n → ∃ b o, A = some ⟨b, o, none⟩ ∧ b < w.heap.size ∧ ∀ j, j < n → w.cell? ⟨b, o + j * 2, none⟩ = some (.int .i64 (L.getD j (0, 0)).1) ∧ w.cell? ⟨b, o + j * 2 + 1, none⟩ = some (.int .i64 (L.getD j (0, 0)).2)
theorem pairs_nil (w : World) : Pairs w none 0 [] := ⟨rfl, Nat.zero_le _, fun h => absurd h (by omega)⟩
theorem Pairs.on {w w' : World} {A : Option Addr} {n : Nat} {L : List (Int × Int)} (h : Pairs w A n L) (k : Below w.heap.size w w') : Pairs w' A n L := by
  refine ⟨h.len, h.mx, fun hn => ?_⟩
  obtain ⟨b, o, rfl, hb, hc⟩ := h.cells hn
  exact ⟨b, o, rfl, Nat.lt_of_lt_of_le hb k.size, fun j hj => ⟨(k.cell (p := ⟨b, o + j * 2, none⟩) hb).trans (hc j hj).1, (k.cell (p := ⟨b, o + j * 2 + 1, none⟩) hb).trans (hc j hj).2⟩⟩

/-- A number put at one place. -/
def upd (L : Nat → Int) (k : Nat) (v : Int) : Nat → Int := fun j => if j = k then v else L j
theorem upd_same (L : Nat → Int) (k : Nat) (v : Int) : upd L k v k = v := by simp [upd]
theorem upd_other (L : Nat → Int) (k j : Nat) (v : Int) (h : j ≠ k) : upd L k v j = L j := by simp [upd, h]

/-- Sectors in memory of one's own: m of them, B j: for ever, L j: how often still. -/
structure Secs (w : World) (A : Option Addr) (m : Nat) (B : Nat → Bool) (L : Nat → Int) : Prop where
  nil : A = none → m = 0
  cells : 0 < m → ∃ g, A = some ⟨g, 0, none⟩ ∧ g < w.heap.size ∧ ∀ j, j < m → w.cell? ⟨g, j * 2, none⟩ = some (.bool (B j)) ∧ w.cell? ⟨g, j * 2 + 1, none⟩ = some (.int .i64 (L j)) ∧ w.frozen? ⟨g, j * 2, none⟩ = false ∧ w.frozen? ⟨g, j * 2 + 1, none⟩ = false
theorem Secs.only {S : Nat → Prop} {w w' : World} {A : Option Addr} {m : Nat} {B : Nat → Bool} {L : Nat → Int} (h : Secs w A m B L) (hb : Only S w w') (hS : ∀ g o, A = some ⟨g, o, none⟩ → 0 < m → ¬ S g) : Secs w' A m B L := by
  refine ⟨h.nil, fun hm => ?_⟩
  obtain ⟨g, rfl, hg, hc⟩ := h.cells hm
  have hn := hS g 0 rfl hm
  refine ⟨g, rfl, Nat.lt_of_lt_of_le hg hb.size, fun j hj => ?_⟩
  obtain ⟨h1, h2, h3, h4⟩ := hc j hj
  exact ⟨(hb.cell (p := ⟨g, j * 2, none⟩) hg hn).trans h1, (hb.cell (p := ⟨g, j * 2 + 1, none⟩) hg hn).trans h2, (hb.frozen (p := ⟨g, j * 2, none⟩) hg hn).trans h3, (hb.frozen (p := ⟨g, j * 2 + 1, none⟩) hg hn).trans h4⟩
theorem Secs.on {w w' : World} {A : Option Addr} {m : Nat} {B : Nat → Bool} {L : Nat → Int} (h : Secs w A m B L) (hb : Below w.heap.size w w') : Secs w' A m B L :=
  h.only (S := fun _ => False) (Only.of_below hb) (fun _ _ _ _ h => h)
theorem Secs.eqs {w : World} {A : Option Addr} {m : Nat} {B B' : Nat → Bool} {L L' : Nat → Int} (h : Secs w A m B L) (hB : ∀ j, j < m → B' j = B j) (hL : ∀ j, j < m → L' j = L j) : Secs w A m B' L' := by
  refine ⟨h.nil, fun hm => ?_⟩
  obtain ⟨g, rfl, hg, hc⟩ := h.cells hm
  exact ⟨g, rfl, hg, fun j hj => by rw [hB j hj, hL j hj]; exact hc j hj⟩
/-- How often: stored anew. -/
theorem Secs.setL {w : World} {g : Nat} {m : Nat} {B : Nat → Bool} {L : Nat → Int} (h : Secs w (some ⟨g, 0, none⟩) m B L) (k : Nat) (hk : k < m) (v : Int) :
    Secs (w.setCell ⟨g, k * 2 + 1, none⟩ (.int .i64 v)) (some ⟨g, 0, none⟩) m B (upd L k v) ∧ Only (fun d => d = g) w (w.setCell ⟨g, k * 2 + 1, none⟩ (.int .i64 v)) := by
  have ho : Only (fun d => d = g) w (w.setCell ⟨g, k * 2 + 1, none⟩ (.int .i64 v)) := (Only.refl (fun d => d = g) w).setCell ⟨g, k * 2 + 1, none⟩ (fun _ => rfl) _
  refine ⟨⟨(fun h => by cases h), fun hm => ?_⟩, ho⟩
  obtain ⟨g', he, hg, hc⟩ := h.cells hm
  injection he with he; injection he with e1; subst e1
  refine ⟨g, rfl, Nat.lt_of_lt_of_le hg ho.size, fun j hj => ?_⟩
  obtain ⟨h1, h2, h3, h4⟩ := hc j hj
  refine ⟨?_, ?_, by simpa using h3, by simpa using h4⟩
  · rw [World.cell?_setCell_other _ _ _ _ (by first | (simp; done) | (simp; omega))]; exact h1
  · by_cases hjk : j = k
    · subst hjk; rw [upd_same, World.cell?_setCell_same _ _ _ h2]
    · rw [upd_other _ _ _ _ hjk, World.cell?_setCell_other _ _ _ _ (by first | (simp; done) | (simp; omega))]; exact h2
def updB (B : Nat → Bool) (k : Nat) (v : Bool) : Nat → Bool := fun j => if j = k then v else B j
/-- For ever: stored anew, both cells. -/
theorem Secs.setB {w : World} {g : Nat} {m : Nat} {B : Nat → Bool} {L : Nat → Int} (h : Secs w (some ⟨g, 0, none⟩) m B L) (k : Nat) (hk : k < m) (z : Bool) (v : Int) :
    Secs ((w.setCell ⟨g, k * 2, none⟩ (.bool z)).setCell ⟨g, k * 2 + 1, none⟩ (.int .i64 v)) (some ⟨g, 0, none⟩) m (updB B k z) (upd L k v) ∧ Only (fun d => d = g) w ((w.setCell ⟨g, k * 2, none⟩ (.bool z)).setCell ⟨g, k * 2 + 1, none⟩ (.int .i64 v)) := by
  have ho : Only (fun d => d = g) w (w.setCell ⟨g, k * 2, none⟩ (.bool z)) := (Only.refl (fun d => d = g) w).setCell ⟨g, k * 2, none⟩ (fun _ => rfl) _
  have hs : Secs (w.setCell ⟨g, k * 2, none⟩ (.bool z)) (some ⟨g, 0, none⟩) m (updB B k z) L := by
    refine ⟨(fun h => by cases h), fun hm => ?_⟩
    obtain ⟨g', he, hg, hc⟩ := h.cells hm
    injection he with he; injection he with e1; subst e1
    refine ⟨g, rfl, Nat.lt_of_lt_of_le hg ho.size, fun j hj => ?_⟩
    obtain ⟨h1, h2, h3, h4⟩ := hc j hj
    refine ⟨?_, ?_, by simpa using h3, by simpa using h4⟩
    · by_cases hjk : j = k
      · subst hjk; rw [World.cell?_setCell_same _ _ _ h1]; simp [updB]
      · rw [World.cell?_setCell_other _ _ _ _ (by first | (simp; done) | (simp; omega)), h1]; simp [updB, hjk]
    · rw [World.cell?_setCell_other _ _ _ _ (by first | (simp; done) | (simp; omega))]; exact h2
  have h2 := hs.setL k hk v
  exact ⟨h2.1, ho.trans h2.2 (fun d h _ => h)⟩

/-- How often each failed, in memory of one's own. -/
structure Gone (w : World) (A : Option Addr) (m : Nat) (G : Nat → Int) : Prop where
  nil : A = none → m = 0
  cells : 0 < m → ∃ g, A = some ⟨g, 0, none⟩ ∧ g < w.heap.size ∧ ∀ j, j < m → w.cell? ⟨g, j, none⟩ = some (.int .i64 (G j)) ∧ w.frozen? ⟨g, j, none⟩ = false
theorem Gone.only {S : Nat → Prop} {w w' : World} {A : Option Addr} {m : Nat} {G : Nat → Int} (h : Gone w A m G) (hb : Only S w w') (hS : ∀ g o, A = some ⟨g, o, none⟩ → 0 < m → ¬ S g) : Gone w' A m G := by
  refine ⟨h.nil, fun hm => ?_⟩
  obtain ⟨g, rfl, hg, hc⟩ := h.cells hm
  have hn := hS g 0 rfl hm
  refine ⟨g, rfl, Nat.lt_of_lt_of_le hg hb.size, fun j hj => ?_⟩
  obtain ⟨h1, h2⟩ := hc j hj
  exact ⟨(hb.cell (p := ⟨g, j, none⟩) hg hn).trans h1, (hb.frozen (p := ⟨g, j, none⟩) hg hn).trans h2⟩
theorem Gone.set {w : World} {g : Nat} {m : Nat} {G : Nat → Int} (h : Gone w (some ⟨g, 0, none⟩) m G) (k : Nat) (hk : k < m) (v : Int) :
    Gone (w.setCell ⟨g, k, none⟩ (.int .i64 v)) (some ⟨g, 0, none⟩) m (upd G k v) ∧ Only (fun d => d = g) w (w.setCell ⟨g, k, none⟩ (.int .i64 v)) := by
  have ho : Only (fun d => d = g) w (w.setCell ⟨g, k, none⟩ (.int .i64 v)) := (Only.refl (fun d => d = g) w).setCell ⟨g, k, none⟩ (fun _ => rfl) _
  refine ⟨⟨(fun h => by cases h), fun hm => ?_⟩, ho⟩
  obtain ⟨g', he, hg, hc⟩ := h.cells hm
  injection he with he; injection he with e1; subst e1
  refine ⟨g, rfl, Nat.lt_of_lt_of_le hg ho.size, fun j hj => ?_⟩
  obtain ⟨h1, h2⟩ := hc j hj
  refine ⟨?_, by simpa using h2⟩
  by_cases hjk : j = k
  · subst hjk; rw [upd_same, World.cell?_setCell_same _ _ _ h1]
  · rw [upd_other _ _ _ _ hjk, World.cell?_setCell_other _ _ _ _ (by first | (simp; done) | (simp; omega))]; exact h1

end Go.Proofs.Ytigfimlpjmmpoaa
