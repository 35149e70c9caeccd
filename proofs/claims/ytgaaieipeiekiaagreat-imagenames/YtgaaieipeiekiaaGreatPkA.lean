/- Numbers, pairs and sectors in memory; what may change, what stays; objects side by side. No Go of the program. / Contracts of package off: May, Add, MaySpan, Parts (carried over from stage 1). / Blocks of a file in memory: as values, in rows, in rows of one's own; how one is loaded, stored, boxed, built, compared. -/
import Derived.Below
import Derived.WalkKit
import Derived.Deep.AppendSrc
import Derived.Lib.Hide
import Derived.Deep.QuietTactic
import Derived.BigQuiet
import Derived.Test.YtgaaieipeiekiaaGreatRows
import Derived.WalkSpells
import Derived.WalkLawsBesides
import Derived.OpenShut
import Derived.Laws.OwnMore
import Derived.Laws.AppendOwnNone
import Derived.Deep.AppendLies
import Derived.Deep.WholeRow
import Derived.Deep.MidRow
import Derived.Laws.CopyOwn
import Derived.Laws.BytesArg
import Derived.Lib.SliceRun
import Derived.Lib.AppendZeros
import Derived.ChangeKeysEq
namespace Go.Proofs.YtgaaieipeiekiaaGreat
open Go.RowKit

/-- What may have changed: the blocks of S alone. -/
structure Only (S : Nat → Prop) (w w' : World) : Prop where
  os : w'.os = w.os
  tape : w'.tape = w.tape
  output : w'.output = w.output
  size : w.heap.size ≤ w'.heap.size
  block : ∀ k, k < w.heap.size → ¬ S k → w'.heap[k]? = w.heap[k]?

theorem Only.refl (S : Nat → Prop) (w : World) : Only S w w := ⟨rfl, rfl, rfl, Nat.le_refl _, fun _ _ _ => rfl⟩
theorem Only.trans {S T : Nat → Prop} {a b c : World} (h : Only S a b) (k : Only T b c) (hT : ∀ d, T d → d < a.heap.size → S d) : Only S a c :=
  ⟨k.os.trans h.os, k.tape.trans h.tape, k.output.trans h.output, Nat.le_trans h.size k.size, fun i hi hn => (k.block i (Nat.lt_of_lt_of_le hi h.size) (fun ht => hn (hT i ht hi))).trans (h.block i hi hn)⟩
theorem Only.mono {S T : Nat → Prop} {w w' : World} (h : Only S w w') (hT : ∀ d, S d → T d) : Only T w w' := ⟨h.os, h.tape, h.output, h.size, fun k hk hn => h.block k hk (fun hs => hn (hT k hs))⟩
theorem Only.drew {S : Nat → Prop} {a w : World} (h : Only S a w) : Only S a w.drew := ⟨h.os, h.tape, h.output, h.size, h.block⟩
theorem Only.alloc {S : Nat → Prop} {a w : World} (h : Only S a w) (o : Obj) : Only S a (w.alloc o) :=
  h.trans (T := fun _ => False) ⟨rfl, rfl, rfl, by simp, fun k hk _ => Below.heap_alloc _ _ _ hk⟩ (fun _ h _ => h.elim)
theorem Only.setCell {S : Nat → Prop} {a w : World} (h : Only S a w) (p : Addr) (hp : p.block < a.heap.size → S p.block) (u : Value) : Only S a (w.setCell p u) :=
  h.trans (T := fun d => d = p.block) ⟨rfl, rfl, rfl, by simp [World.setCell], fun k _ hn => Below.heap_setCell _ _ _ _ hn⟩ (fun d hd hl => by subst hd; exact hp hl)
theorem Only.of_below {S : Nat → Prop} {w w' : World} (h : Below w.heap.size w w') : Only S w w' := ⟨h.os, h.tape, h.output, h.size, fun k hk _ => h.block k hk⟩
theorem Only.below {S : Nat → Prop} {w w' : World} {B : Nat} (h : Only S w w') (hB : B ≤ w.heap.size) (hS : ∀ d, S d → B ≤ d) : Below B w w' :=
  ⟨h.os, h.tape, h.output, h.size, fun k hk => h.block k (by omega) (fun hs => by have := hS k hs; omega)⟩
theorem Only.cell {S : Nat → Prop} {w w' : World} (h : Only S w w') {p : Addr} (hp : p.block < w.heap.size) (hn : ¬ S p.block) : w'.cell? p = w.cell? p := World.cell?_of_block (w := w) (h.block p.block hp hn)
theorem Only.frozen {S : Nat → Prop} {w w' : World} (h : Only S w w') {p : Addr} (hp : p.block < w.heap.size) (hn : ¬ S p.block) : w'.frozen? p = w.frozen? p := World.frozen?_of_block (w := w) (h.block p.block hp hn)
theorem Only.setCells {S : Nat → Prop} {a w : World} (h : Only S a w) (g o : Nat) (hg : g < a.heap.size → S g) (vs : List Value) : Only S a (w.setCells g o vs) := by
  induction vs generalizing o w with
  | nil => exact h
  | cons v r ih => exact ih (h.setCell ⟨g, o, none⟩ hg v) (o + 1)


/-- What is told of an object, over its blocks, stays as long as none of these changes. -/
structure Keeps (P : World → (Nat → Prop) → Prop) : Prop where
  lt : ∀ {w : World} {S : Nat → Prop}, P w S → ∀ d, S d → d < w.heap.size
  only : ∀ {w w' : World} {S T : Nat → Prop}, P w S → Only T w w' → (∀ d, S d → ¬ T d) → P w' S
theorem Keeps.on {P : World → (Nat → Prop) → Prop} (k : Keeps P) {w w' : World} {S : Nat → Prop} (h : P w S) (hb : Below w.heap.size w w') : P w' S := k.only (T := fun _ => False) h (Only.of_below hb) (fun _ _ h => h)

/-- One that was made behind W; what was there in W is as it was. -/
structure Mine (W w : World) (P : World → (Nat → Prop) → Prop) (S : Nat → Prop) : Prop where
  obj : P w S
  new : ∀ d, S d → W.heap.size ≤ d
  below : Below W.heap.size W w
theorem Mine.next {W w w' : World} {P P' : World → (Nat → Prop) → Prop} {S S' : Nat → Prop} (h : Mine W w P S) (f : P' w' S') (o : Only S w w') (g : ∀ d, S' d → S d ∨ w.heap.size ≤ d) : Mine W w' P' S' :=
  ⟨f, fun d hd => (g d hd).elim (h.new d) (fun hl => Nat.le_trans h.below.size hl), h.below.trans (o.below h.below.size h.new)⟩
theorem Mine.on {W w w' : World} {P : World → (Nat → Prop) → Prop} {S : Nat → Prop} (k : Keeps P) (h : Mine W w P S) (o : Below w.heap.size w w') : Mine W w' P S :=
  ⟨k.on h.obj o, h.new, h.below.trans (o.mono h.below.size)⟩

/-- Two, side by side. -/
structure Both (W w : World) (P : World → (Nat → Prop) → Prop) (S : Nat → Prop) (R : World → (Nat → Prop) → Prop) (T : Nat → Prop) : Prop where
  f : Mine W w P S
  g : Mine W w R T
  apart : ∀ d, S d → ¬ T d
theorem Both.fst {W w w' : World} {P P' R : World → (Nat → Prop) → Prop} {S S' T : Nat → Prop} (kR : Keeps R) (h : Both W w P S R T) (f : P' w' S') (o : Only S w w') (g : ∀ d, S' d → S d ∨ w.heap.size ≤ d) : Both W w' P' S' R T :=
  ⟨h.f.next f o g, ⟨kR.only h.g.obj o (fun d ht hs => h.apart d hs ht), h.g.new, h.f.below.trans (o.below h.f.below.size h.f.new)⟩, fun d hd ht => (g d hd).elim (fun hs => h.apart d hs ht) (fun hl => by have := kR.lt h.g.obj d ht; omega)⟩
theorem Both.snd {W w w' : World} {P R R' : World → (Nat → Prop) → Prop} {S T T' : Nat → Prop} (kP : Keeps P) (h : Both W w P S R T) (f : R' w' T') (o : Only T w w') (g : ∀ d, T' d → T d ∨ w.heap.size ≤ d) : Both W w' P S R' T' :=
  ⟨⟨kP.only h.f.obj o h.apart, h.f.new, h.g.below.trans (o.below h.g.below.size h.g.new)⟩, h.g.next f o g, fun d hs ht => (g d ht).elim (fun hT => h.apart d hs hT) (fun hl => by have := kP.lt h.f.obj d hs; omega)⟩
theorem Both.on {W w w' : World} {P R : World → (Nat → Prop) → Prop} {S T : Nat → Prop} (kP : Keeps P) (kR : Keeps R) (h : Both W w P S R T) (o : Below w.heap.size w w') : Both W w' P S R T :=
  ⟨h.f.on kP o, h.g.on kR o, h.apart⟩
/-- A second one is made beside the first. -/
theorem Mine.both {W w w' : World} {P R : World → (Nat → Prop) → Prop} {S T : Nat → Prop} (kP : Keeps P) (h : Mine W w P S) (f : R w' T) (new : ∀ d, T d → w.heap.size ≤ d) (o : Below w.heap.size w w') : Both W w' P S R T :=
  ⟨h.on kP o, ⟨f, fun d hd => Nat.le_trans h.below.size (new d hd), (h.on kP o).below⟩, fun d hs ht => by have := kP.lt h.obj d hs; have := new d ht; omega⟩


/-- A block, whole. -/
def Row (w : World) (b : Nat) (t : TypeId) (c : Array Value) : Prop := w.heap[b]? = some (.cells c t (0, 0))
theorem Row.lt {w : World} {b : Nat} {t : TypeId} {c : Array Value} (h : Row w b t c) : b < w.heap.size := (Array.getElem?_eq_some_iff.1 h).1
theorem Row.on {w w' : World} {b : Nat} {t : TypeId} {c : Array Value} (h : Row w b t c) (k : Below w.heap.size w w') : Row w' b t c := (k.block b h.lt).trans h
theorem Row.grown {w w' : World} {b : Nat} {t : TypeId} {c : Array Value} {r : Option Nat} (h : Row w b t c) (k : w.grownBy w' r) (hn : some b ≠ r) : Row w' b t c := (k.block b h.lt hn).trans h
theorem Row.at {w : World} {b : Nat} {t : TypeId} {c : Array Value} (h : Row w b t c) (k : Nat) : w.cell? ⟨b, k, none⟩ = c[k]? := cell_of_row w b k c t (0, 0) h
theorem Row.free {w : World} {b : Nat} {t : TypeId} {c : Array Value} (h : Row w b t c) (k : Nat) : w.frozen? ⟨b, k, none⟩ = false := frozen_of_row w b k c t h
theorem Row.setv {w : World} {b : Nat} {t : TypeId} {c : Array Value} (h : Row w b t c) (k : Nat) (x : Value) : Row (w.setCell ⟨b, k, none⟩ x) b t (c.setIfInBounds k x) := heap_setCell_same w b k c t x h
theorem Row.past {w : World} {b : Nat} {t : TypeId} {c : Array Value} (h : Row w b t c) (b' k : Nat) (x : Value) (hn : b ≠ b') : Row (w.setCell ⟨b', k, none⟩ x) b t c := by
  unfold Row at h ⊢
  rw [← h]
  exact heap_setCell_other w ⟨b', k, none⟩ b x hn
theorem Row.new (w : World) (t : TypeId) (c : Array Value) : Row (w.alloc (.cells c t)) w.heap.size t c := heap_alloc_new w _
theorem Row.alloc {w : World} {b : Nat} {t : TypeId} {c : Array Value} (h : Row w b t c) (o : Obj) : Row (w.alloc o) b t c := (heap_alloc_old w o h.lt).trans h
theorem Row.drewN {w : World} {b : Nat} {t : TypeId} {c : Array Value} (h : Row w b t c) (n : Nat) : Row (w.drewN n) b t c := h

theorem below_drewN {B : Nat} {a w : World} (h : Below B a w) (n : Nat) : Below B a (w.drewN n) := h.trans ⟨rfl, rfl, rfl, Nat.le_refl _, fun _ _ => rfl⟩
/-- A slice of numbers of one kind: nil let in. -/
structure Nums (k : IntKind) (w : World) (A : Option Addr) (n c : Nat) (zs : List Int) : Prop where
  len : zs.length = n
  le : n ≤ c
  mx : c ≤ maxLen
  nil : A = none → n = 0 ∧ c = 0
  cells : 0 < n → ∃ b o, A = some ⟨b, o, none⟩ ∧ b < w.heap.size ∧ ∀ j, j < n → w.cell? ⟨b, o + j, none⟩ = some (.int k (zs.getD j 0))
theorem nums_nil (k : IntKind) (w : World) : Nums k w none 0 0 [] := ⟨rfl, Nat.le_refl _, Nat.zero_le _, fun _ => ⟨rfl, rfl⟩, fun h => absurd h (by omega)⟩
theorem Nums.only {k : IntKind} {S : Nat → Prop} {w w' : World} {A : Option Addr} {n c : Nat} {zs : List Int} (h : Nums k w A n c zs) (hb : Only S w w') (hS : ∀ g o, A = some ⟨g, o, none⟩ → 0 < n → ¬ S g) : Nums k w' A n c zs := by
  refine ⟨h.len, h.le, h.mx, h.nil, fun hn => ?_⟩
  obtain ⟨b, o, rfl, hl, hc⟩ := h.cells hn
  exact ⟨b, o, rfl, Nat.lt_of_lt_of_le hl hb.size, fun k hk => (hb.cell (p := ⟨b, o + k, none⟩) hl (hS b o rfl hn)).trans (hc k hk)⟩
theorem Nums.on {k : IntKind} {w w' : World} {A : Option Addr} {n c : Nat} {zs : List Int} (h : Nums k w A n c zs) (hb : Below w.heap.size w w') : Nums k w' A n c zs :=
  h.only (S := fun _ => False) (Only.of_below hb) (fun _ _ _ _ h => h)
theorem Nums.drewN {k : IntKind} {w : World} {A : Option Addr} {n c : Nat} {zs : List Int} (h : Nums k w A n c zs) (m : Nat) : Nums k (w.drewN m) A n c zs := h.on (below_drewN (Below.refl _ _) m)
theorem Nums.at {k : IntKind} {w : World} {A : Option Addr} {n c : Nat} {zs : List Int} (h : Nums k w A n c zs) : ∀ g o, A = some ⟨g, o, none⟩ → 0 < n → g < w.heap.size := by
  intro g o he hn
  obtain ⟨g', o', he', hl, _⟩ := h.cells hn
  rw [he'] at he; injection he with he; injection he with he; omega
/-- A piece of it. -/
theorem Nums.piece {k : IntKind} {w : World} {b o n c : Nat} {zs : List Int} (h : Nums k w (some ⟨b, o, none⟩) n c zs) (i m : Nat) (hm : i + m ≤ n) : Nums k w (some ⟨b, o + i, none⟩) m (c - i) ((zs.drop i).take m) := by
  have h1 := h.len; have h2 := h.le; have h3 := h.mx
  refine ⟨by simp; omega, by omega, by omega, (fun h => by cases h), fun hp => ?_⟩
  obtain ⟨b', o', he, hl, hc⟩ := h.cells (by omega)
  injection he with he
  injection he with e1 e2
  subst e1 e2
  refine ⟨b, o + i, rfl, hl, fun k hk => ?_⟩
  rw [show o + i + k = o + (i + k) by omega, hc (i + k) (by omega)]
  simp [List.getD_eq_getElem?_getD, hk]
/-- The cells, one by one, of whatever address. -/
theorem Nums.news {k : IntKind} {w : World} {ad : Addr} {n c : Nat} {zs : List Int} (hb : Nums k w (some ad) n c zs) : ∀ j u, (zs.map (Value.int k))[j]? = some u → w.cell? (ad.add j) = some u := by
  intro j u hu
  have hln := hb.len
  rw [List.getElem?_map] at hu
  have hj : j < n := by
    by_cases hj : j < zs.length
    · omega
    · rw [List.getElem?_eq_none (by omega)] at hu; simp at hu
  obtain ⟨b, o', he, _, hc⟩ := hb.cells (by omega)
  injection he with he
  subst he
  have hcj := hc j hj
  rw [List.getElem?_eq_getElem (by omega)] at hu
  simp at hu
  rw [List.getD_eq_getElem?_getD, List.getElem?_eq_getElem (by omega)] at hcj
  rw [← hu]
  by_cases h0 : j = 0
  · subst h0; simpa [Addr.add] using hcj
  · simpa [Addr.add, h0] using hcj
/-- A new row that begins with the numbers. -/
theorem nums_new (k : IntKind) (t : TypeId) (w : World) (zs : List Int) (ex : Array Value) (n c : Nat) (hn : zs.length = n) (hc : n ≤ c) (hm : c ≤ maxLen) :
    Nums k (w.alloc (.cells ((zs.map (Value.int k)).toArray ++ ex) t)) (some ⟨w.heap.size, 0, none⟩) n c zs := by
  have hb := heap_alloc_new w (.cells ((zs.map (Value.int k)).toArray ++ ex) t)
  refine ⟨hn, hc, hm, (fun h => by cases h), fun _ => ⟨w.heap.size, 0, rfl, by simp, fun k hk => ?_⟩⟩
  rw [cell_of_row _ _ _ _ t (0, 0) hb, Array.getElem?_append_left (by simp; omega)]
  simp [List.getD_eq_getElem?_getD, List.getElem?_eq_getElem (show k < zs.length by omega)]

/-- A slice of pairs of numbers. -/
structure Pairs (w : World) (A : Option Addr) (n : Nat) (L : List (Int × Int)) : Prop where
  len : L.length = n
  mx : n ≤ maxLen
  cells : 0 < n → ∃ b o, A = some ⟨b, o, none⟩ ∧ b < w.heap.size ∧ ∀ j, j < n → w.cell? ⟨b, o + j * 2, none⟩ = some (.int .i64 (L.getD j (0, 0)).1) ∧ w.cell? ⟨b, o + j * 2 + 1, none⟩ = some (.int .i64 (L.getD j (0, 0)).2)
theorem pairs_nil (w : World) : Pairs w none 0 [] := ⟨rfl, Nat.zero_le _, fun h => absurd h (by omega)⟩
theorem Pairs.on {w w' : World} {A : Option Addr} {n : Nat} {L : List (Int × Int)} (h : Pairs w A n L) (k : Below w.heap.size w w') : Pairs w' A n L := by
  refine ⟨h.len, h.mx, fun hn => ?_⟩
  obtain ⟨b, o, rfl, hb, hc⟩ := h.cells hn
  exact ⟨b, o, rfl, Nat.lt_of_lt_of_le hb k.size, fun j hj => ⟨(k.cell (p := ⟨b, o + j * 2, none⟩) hb).trans (hc j hj).1, (k.cell (p := ⟨b, o + j * 2 + 1, none⟩) hb).trans (hc j hj).2⟩⟩

/-- A number put at one place. -/
def upd (L : Nat → Int) (k : Nat) (v : Int) : Nat → Int := fun j => if j = k then v else L j
theorem upd_same (L : Nat → Int) (k : Nat) (v : Int) : upd L k v k = v := by simp [upd]
theorem upd_other (L : Nat → Int) (k j : Nat) (v : Int) (h : j ≠ k) : upd L k v j = L j := by simp [upd, h]

/-- Sectors in memory of one's own: m of them, B j: for ever, L j: how often still. -/
structure Secs (w : World) (A : Option Addr) (m : Nat) (B : Nat → Bool) (L : Nat → Int) : Prop where
  nil : A = none → m = 0
  cells : 0 < m → ∃ g, A = some ⟨g, 0, none⟩ ∧ g < w.heap.size ∧ ∀ j, j < m → w.cell? ⟨g, j * 2, none⟩ = some (.bool (B j)) ∧ w.cell? ⟨g, j * 2 + 1, none⟩ = some (.int .i64 (L j)) ∧ w.frozen? ⟨g, j * 2, none⟩ = false ∧ w.frozen? ⟨g, j * 2 + 1, none⟩ = false
theorem Secs.only {S : Nat → Prop} {w w' : World} {A : Option Addr} {m : Nat} {B : Nat → Bool} {L : Nat → Int} (h : Secs w A m B L) (hb : Only S w w') (hS : ∀ g o, A = some ⟨g, o, none⟩ → 0 < m → ¬ S g) : Secs w' A m B L := by
  refine ⟨h.nil, fun hm => ?_⟩
  obtain ⟨g, rfl, hg, hc⟩ := h.cells hm
  have hn := hS g 0 rfl hm
  refine ⟨g, rfl, Nat.lt_of_lt_of_le hg hb.size, fun j hj => ?_⟩
  obtain ⟨h1, h2, h3, h4⟩ := hc j hj
  exact ⟨(hb.cell (p := ⟨g, j * 2, none⟩) hg hn).trans h1, (hb.cell (p := ⟨g, j * 2 + 1, none⟩) hg hn).trans h2, (hb.frozen (p := ⟨g, j * 2, none⟩) hg hn).trans h3, (hb.frozen (p := ⟨g, j * 2 + 1, none⟩) hg hn).trans h4⟩
theorem Secs.on {w w' : World} {A : Option Addr} {m : Nat} {B : Nat → Bool} {L : Nat → Int} (h : Secs w A m B L) (hb : Below w.heap.size w w') : Secs w' A m B L :=
  h.only (S := fun _ => False) (Only.of_below hb) (fun _ _ _ _ h => h)
theorem Secs.eqs {w : World} {A : Option Addr} {m : Nat} {B B' : Nat → Bool} {L L' : Nat → Int} (h : Secs w A m B L) (hB : ∀ j, j < m → B' j = B j) (hL : ∀ j, j < m → L' j = L j) : Secs w A m B' L' := by
  refine ⟨h.nil, fun hm => ?_⟩
  obtain ⟨g, rfl, hg, hc⟩ := h.cells hm
  exact ⟨g, rfl, hg, fun j hj => by rw [hB j hj, hL j hj]; exact hc j hj⟩
/-- How often: stored anew. -/
theorem Secs.setL {w : World} {g : Nat} {m : Nat} {B : Nat → Bool} {L : Nat → Int} (h : Secs w (some ⟨g, 0, none⟩) m B L) (k : Nat) (hk : k < m) (v : Int) :
    Secs (w.setCell ⟨g, k * 2 + 1, none⟩ (.int .i64 v)) (some ⟨g, 0, none⟩) m B (upd L k v) ∧ Only (fun d => d = g) w (w.setCell ⟨g, k * 2 + 1, none⟩ (.int .i64 v)) := by
  have ho : Only (fun d => d = g) w (w.setCell ⟨g, k * 2 + 1, none⟩ (.int .i64 v)) := (Only.refl (fun d => d = g) w).setCell ⟨g, k * 2 + 1, none⟩ (fun _ => rfl) _
  refine ⟨⟨(fun h => by cases h), fun hm => ?_⟩, ho⟩
  obtain ⟨g', he, hg, hc⟩ := h.cells hm
  injection he with he; injection he with e1; subst e1
  refine ⟨g, rfl, Nat.lt_of_lt_of_le hg ho.size, fun j hj => ?_⟩
  obtain ⟨h1, h2, h3, h4⟩ := hc j hj
  refine ⟨?_, ?_, by simpa using h3, by simpa using h4⟩
  · rw [World.cell?_setCell_other _ _ _ _ (by first | (simp; done) | (simp; omega))]; exact h1
  · by_cases hjk : j = k
    · subst hjk; rw [upd_same, World.cell?_setCell_same _ _ _ h2]
    · rw [upd_other _ _ _ _ hjk, World.cell?_setCell_other _ _ _ _ (by first | (simp; done) | (simp; omega))]; exact h2
def updB (B : Nat → Bool) (k : Nat) (v : Bool) : Nat → Bool := fun j => if j = k then v else B j
/-- For ever: stored anew, both cells. -/
theorem Secs.setB {w : World} {g : Nat} {m : Nat} {B : Nat → Bool} {L : Nat → Int} (h : Secs w (some ⟨g, 0, none⟩) m B L) (k : Nat) (hk : k < m) (z : Bool) (v : Int) :
    Secs ((w.setCell ⟨g, k * 2, none⟩ (.bool z)).setCell ⟨g, k * 2 + 1, none⟩ (.int .i64 v)) (some ⟨g, 0, none⟩) m (updB B k z) (upd L k v) ∧ Only (fun d => d = g) w ((w.setCell ⟨g, k * 2, none⟩ (.bool z)).setCell ⟨g, k * 2 + 1, none⟩ (.int .i64 v)) := by
  have ho : Only (fun d => d = g) w (w.setCell ⟨g, k * 2, none⟩ (.bool z)) := (Only.refl (fun d => d = g) w).setCell ⟨g, k * 2, none⟩ (fun _ => rfl) _
  have hs : Secs (w.setCell ⟨g, k * 2, none⟩ (.bool z)) (some ⟨g, 0, none⟩) m (updB B k z) L := by
    refine ⟨(fun h => by cases h), fun hm => ?_⟩
    obtain ⟨g', he, hg, hc⟩ := h.cells hm
    injection he with he; injection he with e1; subst e1
    refine ⟨g, rfl, Nat.lt_of_lt_of_le hg ho.size, fun j hj => ?_⟩
    obtain ⟨h1, h2, h3, h4⟩ := hc j hj
    refine ⟨?_, ?_, by simpa using h3, by simpa using h4⟩
    · by_cases hjk : j = k
      · subst hjk; rw [World.cell?_setCell_same _ _ _ h1]; simp [updB]
      · rw [World.cell?_setCell_other _ _ _ _ (by first | (simp; done) | (simp; omega)), h1]; simp [updB, hjk]
    · rw [World.cell?_setCell_other _ _ _ _ (by first | (simp; done) | (simp; omega))]; exact h2
  have h2 := hs.setL k hk v
  exact ⟨h2.1, ho.trans h2.2 (fun d h _ => h)⟩

/-- How often each failed, in memory of one's own. -/
structure Gone (w : World) (A : Option Addr) (m : Nat) (G : Nat → Int) : Prop where
  nil : A = none → m = 0
  cells : 0 < m → ∃ g, A = some ⟨g, 0, none⟩ ∧ g < w.heap.size ∧ ∀ j, j < m → w.cell? ⟨g, j, none⟩ = some (.int .i64 (G j)) ∧ w.frozen? ⟨g, j, none⟩ = false
theorem Gone.only {S : Nat → Prop} {w w' : World} {A : Option Addr} {m : Nat} {G : Nat → Int} (h : Gone w A m G) (hb : Only S w w') (hS : ∀ g o, A = some ⟨g, o, none⟩ → 0 < m → ¬ S g) : Gone w' A m G := by
  refine ⟨h.nil, fun hm => ?_⟩
  obtain ⟨g, rfl, hg, hc⟩ := h.cells hm
  have hn := hS g 0 rfl hm
  refine ⟨g, rfl, Nat.lt_of_lt_of_le hg hb.size, fun j hj => ?_⟩
  obtain ⟨h1, h2⟩ := hc j hj
  exact ⟨(hb.cell (p := ⟨g, j, none⟩) hg hn).trans h1, (hb.frozen (p := ⟨g, j, none⟩) hg hn).trans h2⟩
theorem Gone.set {w : World} {g : Nat} {m : Nat} {G : Nat → Int} (h : Gone w (some ⟨g, 0, none⟩) m G) (k : Nat) (hk : k < m) (v : Int) :
    Gone (w.setCell ⟨g, k, none⟩ (.int .i64 v)) (some ⟨g, 0, none⟩) m (upd G k v) ∧ Only (fun d => d = g) w (w.setCell ⟨g, k, none⟩ (.int .i64 v)) := by
  have ho : Only (fun d => d = g) w (w.setCell ⟨g, k, none⟩ (.int .i64 v)) := (Only.refl (fun d => d = g) w).setCell ⟨g, k, none⟩ (fun _ => rfl) _
  refine ⟨⟨(fun h => by cases h), fun hm => ?_⟩, ho⟩
  obtain ⟨g', he, hg, hc⟩ := h.cells hm
  injection he with he; injection he with e1; subst e1
  refine ⟨g, rfl, Nat.lt_of_lt_of_le hg ho.size, fun j hj => ?_⟩
  obtain ⟨h1, h2⟩ := hc j hj
  refine ⟨?_, by simpa using h2⟩
  by_cases hjk : j = k
  · subst hjk; rw [upd_same, World.cell?_setCell_same _ _ _ h1]
  · rw [upd_other _ _ _ _ hjk, World.cell?_setCell_other _ _ _ _ (by first | (simp; done) | (simp; omega))]; exact h1

end Go.Proofs.YtgaaieipeiekiaaGreat

namespace Go.Proofs.YtgaaieipeiekiaaGreat
open Go.RowKit
set_option maxRecDepth 100000

namespace Plain

/-- A place: 0 to 2^62. -/
def mayB (n : Int) : Bool := decide (0 ≤ n) && decide (n ≤ 4611686018427387904)
theorem may_iff (n : Int) : mayB n = true ↔ 0 ≤ n ∧ n ≤ 4611686018427387904 := by simp [mayB]
theorem may_not (n : Int) : mayB n = false ↔ ¬ (0 ≤ n ∧ n ≤ 4611686018427387904) := by rw [← may_iff]; simp

/-- The sum so far, and what is left to add. -/
def addFrom : Int → List Int → Option Int
  | s, [] => some s
  | s, n :: l => if 0 ≤ n ∧ n ≤ 4611686018427387904 - s then addFrom (s + n) l else none

def addV (l : List Int) : Int := (addFrom 0 l).getD 0
def addOk (l : List Int) : Bool := (addFrom 0 l).isSome

theorem addFrom_nil (s : Int) : addFrom s [] = some s := rfl
theorem addFrom_yes (s n : Int) (l : List Int) (h0 : 0 ≤ n) (h1 : n ≤ 4611686018427387904 - s) : addFrom s (n :: l) = addFrom (s + n) l := by
  rw [addFrom, if_pos ⟨h0, h1⟩]
theorem addFrom_no (s n : Int) (l : List Int) (h : ¬ (0 ≤ n ∧ n ≤ 4611686018427387904 - s)) : addFrom s (n :: l) = none := by
  rw [addFrom, if_neg h]
theorem drop_cons (l : List Int) (k : Nat) (h : k < l.length) : l.drop k = l.getD k 0 :: l.drop (k + 1) := by
  rw [List.drop_eq_getElem_cons h, List.getD_eq_getElem?_getD, List.getElem?_eq_getElem h]; rfl

/-- The product so far, and what is left to multiply; all of it above 0. -/
def mulFrom : Int → List Int → Option Int
  | p, [] => some p
  | p, n :: l => if n ≤ 4611686018427387904 / p then mulFrom (p * n) l else none
def allMay : List Int → Bool
  | [] => true
  | n :: l => mayB n && allMay l
def anyNought : List Int → Bool
  | [] => false
  | n :: l => (n == 0) || anyNought l
def mulS (l : List Int) : Option Int := if allMay l = true then (if anyNought l = true then some 0 else mulFrom 1 l) else none
def mulV (l : List Int) : Int := (mulS l).getD 0
def mulOk (l : List Int) : Bool := (mulS l).isSome

theorem mulFrom_yes (p n : Int) (l : List Int) (h : n ≤ 4611686018427387904 / p) : mulFrom p (n :: l) = mulFrom (p * n) l := by rw [mulFrom, if_pos h]
theorem mulFrom_no (p n : Int) (l : List Int) (h : ¬ n ≤ 4611686018427387904 / p) : mulFrom p (n :: l) = none := by rw [mulFrom, if_neg h]
theorem mul_le_top (p n : Int) (hp : 1 ≤ p) (h : n ≤ 4611686018427387904 / p) : p * n ≤ 4611686018427387904 := by
  have h1 : p * n ≤ p * (4611686018427387904 / p) := Int.mul_le_mul_of_nonneg_left h (by omega)
  have h2 : p * (4611686018427387904 / p) ≤ 4611686018427387904 := Int.mul_ediv_self_le (by omega)
  omega
theorem one_le_mul (p n : Int) (hp : 1 ≤ p) (hn : 1 ≤ n) : 1 ≤ p * n := by
  have := Int.mul_le_mul hp hn (by omega) (by omega)
  omega
theorem allMay_drop (l : List Int) (k : Nat) (h : k < l.length) (ha : allMay l = true) : mayB (l.getD k 0) = true := by
  induction l generalizing k with
  | nil => simp at h
  | cons n l ih =>
    simp only [allMay, Bool.and_eq_true] at ha
    cases k with
    | zero => simpa using ha.1
    | succ k => simpa using ih k (by simpa using h) ha.2
theorem nought_drop (l : List Int) (k : Nat) (h : k < l.length) (ha : anyNought l = false) : l.getD k 0 ≠ 0 := by
  induction l generalizing k with
  | nil => simp at h
  | cons n l ih =>
    simp only [anyNought, Bool.or_eq_false_iff] at ha
    cases k with
    | zero => simpa using ha.1
    | succ k => simpa using ih k (by simpa using h) ha.2
theorem allMay_cons (n : Int) (l : List Int) : allMay (n :: l) = (mayB n && allMay l) := rfl
theorem anyNought_cons (n : Int) (l : List Int) : anyNought (n :: l) = ((n == 0) || anyNought l) := rfl

/-! Multiples, spans -/
def downV (n u : Int) : Int := if (0 ≤ n ∧ n ≤ 4611686018427387904) ∧ 1 ≤ u then n - n % u else 0
def upS (n u : Int) : Option Int :=
  if (0 ≤ n ∧ n ≤ 4611686018427387904) ∧ 1 ≤ u then (if n % u = 0 then some n else if u - n % u ≤ 4611686018427387904 - n then some (n + (u - n % u)) else none) else none
def upV (n u : Int) : Int := (upS n u).getD 0
def upOk (n u : Int) : Bool := (upS n u).isSome
def spanB (p l : Int) : Bool := decide (0 ≤ p) && decide (p ≤ 4611686018427387904) && decide (0 ≤ l) && decide (l ≤ 4611686018427387904 - p)
theorem span_iff (p l : Int) : spanB p l = true ↔ 0 ≤ p ∧ p ≤ 4611686018427387904 ∧ 0 ≤ l ∧ l ≤ 4611686018427387904 - p := by simp [spanB, and_assoc]
theorem addFrom_two (a b : Int) : addFrom 0 [a, b] = if 0 ≤ a ∧ a ≤ 4611686018427387904 ∧ 0 ≤ b ∧ b ≤ 4611686018427387904 - a then some (a + b) else none := by
  by_cases ha : 0 ≤ a ∧ a ≤ 4611686018427387904
  · by_cases hb : 0 ≤ b ∧ b ≤ 4611686018427387904 - a
    · rw [addFrom_yes _ _ _ ha.1 (by omega), addFrom_yes _ _ _ hb.1 (by omega), addFrom_nil, if_pos ⟨ha.1, ha.2, hb.1, hb.2⟩]; simp
    · rw [addFrom_yes _ _ _ ha.1 (by omega), addFrom_no _ _ _ (by omega), if_neg (by omega)]
  · rw [addFrom_no _ _ _ (by omega), if_neg (by omega)]
theorem addOk_two (a b : Int) : addOk [a, b] = spanB a b := by
  rw [Bool.eq_iff_iff, span_iff, addOk, addFrom_two]
  by_cases h : 0 ≤ a ∧ a ≤ 4611686018427387904 ∧ 0 ≤ b ∧ b ≤ 4611686018427387904 - a <;> simp [h]
theorem rem_bounds (n u : Int) (hn : 0 ≤ n) (hu : 1 ≤ u) : 0 ≤ n % u ∧ n % u < u ∧ n % u ≤ n := by
  have h1 := Int.mul_ediv_add_emod n u
  have h2 := Int.mul_nonneg (show 0 ≤ u by omega) (Int.ediv_nonneg hn (show 0 ≤ u by omega))
  exact ⟨Int.emod_nonneg _ (by omega), Int.emod_lt_of_pos _ (by omega), by omega⟩

end Plain

/-- A slice of ints that reads as a list: nil let in. -/
def Ints (w : World) (A : Option Addr) (n : Nat) (zs : List Int) : Prop :=
  zs.length = n ∧ (0 < n → ∃ b o, A = some ⟨b, o, none⟩ ∧ ∀ k, k < n → w.cell? ⟨b, o + k, none⟩ = some (.int .i64 (zs.getD k 0)))

theorem ints_two (w : World) (a b : Int) (t : TypeId) : Ints (w.alloc (.cells #[.int .i64 a, .int .i64 b] t)) (some ⟨w.heap.size, 0, none⟩) 2 [a, b] := by
  refine ⟨rfl, fun _ => ⟨_, _, rfl, fun k hk => ?_⟩⟩
  match k, hk with
  | 0, _ => simp [go_sem]
  | 1, _ => simp [go_sem]
theorem ints_two_at (w : World) (a b : Int) (t : TypeId) (s : Nat) (hs : s = w.heap.size) : Ints (w.alloc (.cells #[.int .i64 a, .int .i64 b] t)) (some ⟨s, 0, none⟩) 2 [a, b] := by
  subst hs
  exact ints_two w a b t


namespace Plain

/-- The first part's length. -/
def partLen (u p l : Int) : Int := if l < u - p % u then l else u - p % u
/-- The parts of l places from p on, at most f of them. -/
def partsFrom (u : Int) : Nat → Int → Int → List (Int × Int)
  | 0, _, _ => []
  | f + 1, p, l => if 0 < l then (p, partLen u p l) :: partsFrom u f (p + partLen u p l) (l - partLen u p l) else []
def partsOf (u p l : Int) : List (Int × Int) := if spanB p l = true ∧ l ≤ 4096 ∧ 1 ≤ u then partsFrom u l.toNat p l else []
def spanCells : List (Int × Int) → List Value
  | [] => []
  | s :: r => .int .i64 s.1 :: .int .i64 s.2 :: spanCells r

theorem partLen_bounds (u p l : Int) (hu : 1 ≤ u) (hp : 0 ≤ p) (hl : 0 < l) : 1 ≤ partLen u p l ∧ partLen u p l ≤ l ∧ partLen u p l ≤ u := by
  obtain ⟨r0, r1, r2⟩ := rem_bounds p u hp hu
  unfold partLen
  split <;> omega
theorem partsFrom_zero (u : Int) (f : Nat) (p l : Int) (h : ¬ 0 < l) : partsFrom u f p l = [] := by
  cases f with
  | zero => rfl
  | succ f => rw [partsFrom, if_neg h]
theorem partsFrom_step (u : Int) (f : Nat) (p l : Int) (h : 0 < l) (hf : l.toNat ≤ f) :
    partsFrom u f p l = (p, partLen u p l) :: partsFrom u (f - 1) (p + partLen u p l) (l - partLen u p l) := by
  cases f with
  | zero => omega
  | succ f => rw [partsFrom, if_pos h]; rfl
theorem spanCells_append (a b : List (Int × Int)) : spanCells (a ++ b) = spanCells a ++ spanCells b := by
  induction a with
  | nil => rfl
  | cons s a ih => simp [spanCells, ih]
theorem spanCells_length (a : List (Int × Int)) : (spanCells a).length = a.length * 2 := by
  induction a with
  | nil => rfl
  | cons s a ih => simp [spanCells, ih]; omega
theorem spanCells_at (a : List (Int × Int)) (k : Nat) (h : k < a.length) : (spanCells a)[k * 2]? = some (.int .i64 (a.getD k (0, 0)).1) ∧ (spanCells a)[k * 2 + 1]? = some (.int .i64 (a.getD k (0, 0)).2) := by
  induction a generalizing k with
  | nil => simp at h
  | cons s a ih =>
    cases k with
    | zero => exact ⟨rfl, rfl⟩
    | succ k =>
      have := ih k (by simpa using h)
      rw [show (k + 1) * 2 = k * 2 + 2 by omega]
      exact this

end Plain

/-- A span in a variable: block b holds just its two numbers. -/
def BoxAt (w : World) (b : Nat) (t : TypeId) (p l : Int) : Prop := w.heap[b]? = some (.cells #[.int .i64 p, .int .i64 l] t (0, 0))

theorem BoxAt.one {w : World} {b : Nat} {t : TypeId} {p l : Int} (h : BoxAt w b t p l) : w.cell? ⟨b, 0, none⟩ = some (.int .i64 p) ∧ w.cell? ⟨b, 1, none⟩ = some (.int .i64 l) ∧ w.frozen? ⟨b, 0, none⟩ = false ∧ w.frozen? ⟨b, 1, none⟩ = false := by
  unfold BoxAt at h
  simp [World.cell?, World.frozen?, h]
theorem BoxAt.lt {w : World} {b : Nat} {t : TypeId} {p l : Int} (h : BoxAt w b t p l) : b < w.heap.size := by
  rcases Nat.lt_or_ge b w.heap.size with hlt | hge
  · exact hlt
  · unfold BoxAt at h; rw [Array.getElem?_eq_none hge] at h; cases h
theorem BoxAt.of_block {w w' : World} {b : Nat} {t : TypeId} {p l : Int} (h : BoxAt w b t p l) (he : w'.heap[b]? = w.heap[b]?) : BoxAt w' b t p l := by
  unfold BoxAt; rw [he]; exact h
theorem BoxAt.below {B : Nat} {w w' : World} {b : Nat} {t : TypeId} {p l : Int} (h : BoxAt w b t p l) (hb : Below B w w') (hB : b < B) : BoxAt w' b t p l := h.of_block (hb.block b hB)
theorem BoxAt.put {w : World} {b : Nat} {t : TypeId} {p l : Int} (h : BoxAt w b t p l) (x y : Int) : BoxAt ((w.setCell ⟨b, 0, none⟩ (.int .i64 x)).setCell ⟨b, 1, none⟩ (.int .i64 y)) b t x y := by
  unfold BoxAt at h ⊢
  simp [World.setCell, Array.getElem?_modify, h]
theorem BoxAt.new (w : World) (t : TypeId) (p l : Int) : BoxAt (w.alloc (.cells #[.int .i64 p, .int .i64 l] t)) w.heap.size t p l := by
  unfold BoxAt
  exact heap_alloc_new w _



set_option maxHeartbeats 400000 in
theorem may_yes (n : Int) (w : World) (h0 : 0 ≤ n) (h1 : n ≤ 4611686018427387904) :
    Calls Tryz.prog 132 #[.int .i64 n] w fun e w' => e = .returned (.bool true) ∧ w = w' := by
  go_enter Tryz.func132, Tryz.ntmps132
  go_wp2
  go_ret
  exact ⟨rfl, rfl⟩

set_option maxHeartbeats 400000 in
theorem may_no (n : Int) (w : World) (h : ¬ (0 ≤ n ∧ n ≤ 4611686018427387904)) :
    Calls Tryz.prog 132 #[.int .i64 n] w fun e w' => e = .returned (.bool false) ∧ w = w' := by
  by_cases h0 : 0 ≤ n
  · have h1 : ¬ n ≤ 4611686018427387904 := fun h1 => h ⟨h0, h1⟩
    clear h
    go_enter Tryz.func132, Tryz.ntmps132
    go_wp2
    go_ret
    exact ⟨rfl, rfl⟩
  · clear h
    go_enter Tryz.func132, Tryz.ntmps132
    go_wp2
    go_ret
    exact ⟨rfl, rfl⟩

set_option maxHeartbeats 400000 in
theorem add_any (A : Option Addr) (n c : Nat) (zs : List Int) (w : World) (hn : n ≤ maxLen) (hr : Ints w A n zs) :
    Calls Tryz.prog 127 #[.slice A n c] w fun e w' => e = .returned (.tuple #[.int .i64 (Plain.addV zs), .bool (Plain.addOk zs)]) ∧ w = w' := by
  unfold maxLen at hn
  obtain ⟨hl, hr⟩ := hr
  have HR := Lib.hid hr; clear hr
  have HL := Lib.hid hl; clear hl
  go_enter Tryz.func127, Tryz.ntmps127
  go_wp2
  go_loop [4, 9] (fun s i => ∃ (k : Nat) (t : Int), k ≤ n ∧ i = .int .i64 k ∧ s = .int .i64 t ∧ 0 ≤ t ∧ t ≤ 4611686018427387904 ∧ Hid (Plain.addFrom 0 zs = Plain.addFrom t (zs.drop k))) (fun _ i => n - (intOf i).toNat)
  case atStart => exact ⟨0, 0, Nat.zero_le _, rfl, rfl, by omega, by omega, by simp [Hid]⟩
  case round =>
    obtain ⟨k, t, hk, rfl, rfl, ht0, ht1, HE⟩ := hrel
    by_cases hlt : k < n
    · obtain ⟨b, o, rfl, hc⟩ := HR.out (by omega)
      have hck := hc k hlt
      clear hc
      have hd := Plain.drop_cons zs k (by have := HL.out; omega)
      have HD := Lib.hid hd; clear hd
      generalize zs.getD k 0 = x at *
      by_cases hx : 0 ≤ x ∧ x ≤ 4611686018427387904
      · obtain ⟨hx0, hx1⟩ := hx
        by_cases hs : x ≤ 4611686018427387904 - t
        · go_wp2_with (go_at_call 132; refine (may_yes _ _ hx0 hx1).mono ?_; rintro e w' ⟨rfl, rfl⟩)
          go_round
          case rel => exact ⟨k + 1, t + x, by omega, by go_num, by go_num, by omega, by omega, by unfold Hid; rw [HE.out, HD.out, Plain.addFrom_yes _ _ _ hx0 hs]⟩
          case measure => simp [intOf]; omega
        · have hv : Plain.addFrom 0 zs = none := by rw [HE.out, HD.out, Plain.addFrom_no _ _ _ (fun h => hs h.2)]
          have HV := Lib.hid hv; clear hv
          go_wp2_with (go_at_call 132; refine (may_yes _ _ hx0 hx1).mono ?_; rintro e w' ⟨rfl, rfl⟩)
          go_ret2
          exact ⟨by simp [Plain.addV, Plain.addOk, HV.out], rfl⟩
      · have hv : Plain.addFrom 0 zs = none := by rw [HE.out, HD.out, Plain.addFrom_no _ _ _ (fun h => hx ⟨h.1, by omega⟩)]
        have HV := Lib.hid hv; clear hv
        go_wp2_with (go_at_call 132; refine (may_no _ _ hx).mono ?_; rintro e w' ⟨rfl, rfl⟩)
        go_ret2
        exact ⟨by simp [Plain.addV, Plain.addOk, HV.out], rfl⟩
    · have hv : Plain.addFrom 0 zs = some t := by rw [HE.out, List.drop_of_length_le (by have := HL.out; omega), Plain.addFrom_nil]
      have HV := Lib.hid hv; clear hv
      go_wp2
      go_ret2
      exact ⟨by simp [Plain.addV, Plain.addOk, HV.out], rfl⟩

set_option maxHeartbeats 400000 in
theorem span_any (p l : Int) (w : World) :
    Calls Tryz.prog 131 #[.agg #[.int .i64 p, .int .i64 l]] w fun e w' => e = .returned (.bool (Plain.spanB p l)) ∧ Below w.heap.size w w' := by
  have hv := Plain.addOk_two p l
  have HV := Lib.hid hv; clear hv
  go_enter Tryz.func131, Tryz.ntmps131
  go_wp2_with (go_at_call 127; refine (add_any _ _ _ [p, l] _ (by decide) (ints_two_at _ _ _ _ _ (by simp))).mono ?_; rintro e w' ⟨rfl, rfl⟩)
  go_ret
  exact ⟨by simp [HV.out], ((Below.refl _ _).alloc (Nat.le_refl _) _).alloc (by simp) _⟩
theorem below_set2 {B b : Nat} {w w' : World} (h : Below B w w') (hb : B ≤ b) (x y : Value) : Below B w ((w'.setCell ⟨b, 0, none⟩ x).setCell ⟨b, 1, none⟩ y) :=
  (h.setCell (p := ⟨b, 0, none⟩) hb x).setCell (p := ⟨b, 1, none⟩) hb y


theorem info27 : (Tryz.prog.info? 154).map (fun i => (i.zero, i.size, i.bytes)) = some (some (.agg #[.int .i64 0, .int .i64 0]), 2, 16) := by kernel_rfl

/-- What Parts leaves: a row of its own, with the parts; nothing else has turned. -/
def PartsPost (u p l : Int) (w : World) (e : Ending) (w' : World) : Prop :=
  ∃ v, e = .returned v ∧ w'.ownsRow (w.heap.size + 1) 154 2 v (Plain.partsOf u p l).length (Plain.spanCells (Plain.partsOf u p l)) ∧ Below w.heap.size w w'

def boxLen (w : World) (b : Nat) : Nat := (intOf ((w.cell? ⟨b, 1, none⟩).getD undef)).toNat

theorem boxLen_of {w : World} {b : Nat} {t : TypeId} {p l : Int} (h : BoxAt w b t p l) : boxLen w b = l.toNat := by
  unfold boxLen
  rw [h.one.2.1]
  rfl

set_option maxHeartbeats 400000 in
theorem parts_noA (p l u : Int) (w : World) (hs : Plain.spanB p l = false) :
    Calls Tryz.prog 122 #[.agg #[.int .i64 p, .int .i64 l], .int .i64 u] w (PartsPost u p l w) := by
  have hv : Plain.partsOf u p l = [] := by rw [Plain.partsOf, if_neg (by simp [hs])]
  have HV := Lib.hid hv; clear hv
  have HS := Lib.hid hs; clear hs
  go_enter Tryz.func122, Tryz.ntmps122
  go_wp2_with fail
  refine (span_any _ _ _).mono ?_
  rintro e w1 ⟨rfl, k1⟩
  rw [HS.out]
  have k4 : Below w.heap.size w w1 := ((Below.refl w.heap.size w).alloc (Nat.le_refl _) _).trans (k1.mono (by simp))
  go_wp2
  go_ret
  exact ⟨_, rfl, by rw [HV.out]; exact World.ownsRow_nil _ _ _ _, k4⟩

set_option maxHeartbeats 400000 in
theorem parts_yes (p l u : Int) (w : World) (hs : Plain.spanB p l = true) (hl : l ≤ 4096) (hu : 1 ≤ u) (hu2 : u ≤ 9223372036854775807) :
    Calls Tryz.prog 122 #[.agg #[.int .i64 p, .int .i64 l], .int .i64 u] w (PartsPost u p l w) := by
  obtain ⟨i0, hi, hz0, hz1, hz2⟩ := info_parts info27
  have hv : Plain.partsOf u p l = Plain.partsFrom u l.toNat p l := by rw [Plain.partsOf, if_pos ⟨hs, hl, hu⟩]
  have HV := Lib.hid hv; clear hv
  have HS := Lib.hid hs
  rw [Plain.span_iff] at hs
  obtain ⟨hp0, hp1, hl0, hl1⟩ := hs
  go_enter Tryz.func122, Tryz.ntmps122
  go_wp2_with fail
  refine (span_any _ _ _).mono ?_
  rintro e w1 ⟨rfl, k1⟩
  rw [HS.out]
  have s1 : w.heap.size + 1 ≤ w1.heap.size := by have := k1.size; simpa using this
  have b1 : BoxAt w1 w.heap.size 154 p l := (BoxAt.new w 154 p l).below k1 (by simp)
  obtain ⟨c0, c1, f0, f1⟩ := b1.one
  have k4 : Below w.heap.size w w1 := ((Below.refl w.heap.size w).alloc (Nat.le_refl _) _).trans (k1.mono (by simp))
  go_wp2
  go_loopw [5] (fun v wr => ∃ (f : Nat) (p' l' : Int) (acc : List (Int × Int)), BoxAt wr w.heap.size 154 p' l' ∧ wr.ownsRow (w.heap.size + 1) 154 2 v acc.length (Plain.spanCells acc) ∧ Below w.heap.size w wr ∧ 0 ≤ p' ∧ 0 ≤ l' ∧ l' ≤ 4611686018427387904 - p' ∧ acc.length + l'.toNat ≤ 4096 ∧ l'.toNat ≤ f ∧ Hid (Plain.partsFrom u l.toNat p l = acc ++ Plain.partsFrom u f p' l'))
    (fun _ wr => boxLen wr w.heap.size)
  case atStart => exact ⟨l.toNat, p, l, [], b1, World.ownsRow_nil _ _ _ _, k4, hp0, hl0, hl1, by simp; omega, Nat.le_refl _, by simp [Hid]⟩
  case round =>
    clear c0 c1 f0 f1 b1 k4 k1 s1
    obtain ⟨f, p', l', acc, hbox, hown, hbel, hp', hl', hpl, hacc, hf, HE⟩ := hrel
    obtain ⟨c0, c1, f0, f1⟩ := hbox.one
    have hlt := hbox.lt
    by_cases hpos : 0 < l'
    · obtain ⟨r0, r1, r2⟩ := Plain.rem_bounds p' u hp' hu
      obtain ⟨n0, n1, n2⟩ := Plain.partLen_bounds u p' l' hu hp' hpos
      have hst := Plain.partsFrom_step u f p' l' hpos hf
      have HST := Lib.hid hst; clear hst
      have hn : Plain.partLen u p' l' = if l' < u - p' % u then l' else u - p' % u := rfl
      have HN := Lib.hid hn; clear hn
      have hownD : ∀ m, (wr.drewN m).ownsRow (w.heap.size + 1) 154 2 u5 acc.length (Plain.spanCells acc) := fun _ => hown
      have hln := hown.lt
      rcases Int.lt_or_le l' (u - p' % u) with hmin | hmin
      · rw [show Plain.partLen u p' l' = l' from HN.out.trans (if_pos hmin)] at HST n0 n1 n2
        go_wp2
        go_quiet (fail)
        go_wp2_with (at_builtin; refine wpList_append_own _ rfl _ _ 151 rfl (w.heap.size + 1) 154 i0 (.agg #[.int .i64 0, .int .i64 0]) 2 16 Tryz.underlying151 hi hz0 hz1 hz2 rfl (by decide) _ _ _ rfl ((hownD nq).alloc _) ⟨wr.heap.size, 0, none⟩ 1 1 [.int .i64 p', .int .i64 (l')] rfl rfl (cell_two_new _ _ _ _) ?_ ?_ ?_ ?_ ?_)
        · intro x hx
          simp at hx
          rcases hx with rfl | rfl <;> rfl
        · unfold maxLen; omega
        · omega
        · simp; omega
        · intro v' w3 hown3 hgrow hnil
          clear hnil
          have hblk : w3.heap[w.heap.size]? = wr.heap[w.heap.size]? := by
            rw [hgrow.block w.heap.size (by simp; omega) (fun h => by have := (hln _ h.symm).1; omega)]
            exact Below.heap_alloc (wr.drewN nq) _ _ hlt
          have hbox3 := hbox.of_block hblk
          have hbel3 : Below w.heap.size w w3 := Below.grown ((below_drewN hbel nq).alloc (by simp; omega) _) hgrow (by simp; omega) (fun j hj => by have := (hln _ hj).1; omega)
          have hlt3 := hbox3.lt
          have hput := hbox3.put (p' + (l')) 0
          have hown4 := ownsRow_setCell_below (ownsRow_setCell_below hown3 (a := ⟨w.heap.size, 0, none⟩) (by simp) (.int .i64 (p' + (l')))) (a := ⟨w.heap.size, 1, none⟩) (by simp) (.int .i64 0)
          have hbel4 := below_set2 hbel3 (b := w.heap.size) (Nat.le_refl _) (.int .i64 (p' + (l'))) (.int .i64 0)
          obtain ⟨e0, e1, g0, g1⟩ := hbox3.one
          clear c0 c1 f0 f1 hownD hown
          have X := Lib.hid hput
          have Y := Lib.hid hown4
          have Z := Lib.hid hbel4
          clear hput hown4 hbel4 hown3 hblk hgrow
          go_wp2
          go_roundw
          case rel => exact ⟨f - 1, p' + (l'), 0, acc ++ [(p', l')], X.out, by rw [List.length_append, Plain.spanCells_append]; exact Y.out, Z.out, by omega, by omega, by omega, by simp; omega, by omega, by unfold Hid; rw [HE.out, HST.out]; simp⟩
          case measure => rw [boxLen_of X.out, boxLen_of hbox]; omega
      · rw [show Plain.partLen u p' l' = u - p' % u from HN.out.trans (if_neg (by omega))] at HST n0 n1 n2
        go_wp2
        go_quiet (fail)
        go_wp2_with (at_builtin; refine wpList_append_own _ rfl _ _ 151 rfl (w.heap.size + 1) 154 i0 (.agg #[.int .i64 0, .int .i64 0]) 2 16 Tryz.underlying151 hi hz0 hz1 hz2 rfl (by decide) _ _ _ rfl ((hownD nq).alloc _) ⟨wr.heap.size, 0, none⟩ 1 1 [.int .i64 p', .int .i64 (u - p' % u)] rfl rfl (cell_two_new _ _ _ _) ?_ ?_ ?_ ?_ ?_)
        · intro x hx
          simp at hx
          rcases hx with rfl | rfl <;> rfl
        · unfold maxLen; omega
        · omega
        · simp; omega
        · intro v' w3 hown3 hgrow hnil
          clear hnil
          have hblk : w3.heap[w.heap.size]? = wr.heap[w.heap.size]? := by
            rw [hgrow.block w.heap.size (by simp; omega) (fun h => by have := (hln _ h.symm).1; omega)]
            exact Below.heap_alloc (wr.drewN nq) _ _ hlt
          have hbox3 := hbox.of_block hblk
          have hbel3 : Below w.heap.size w w3 := Below.grown ((below_drewN hbel nq).alloc (by simp; omega) _) hgrow (by simp; omega) (fun j hj => by have := (hln _ hj).1; omega)
          have hlt3 := hbox3.lt
          have hput := hbox3.put (p' + (u - p' % u)) (l' - (u - p' % u))
          have hown4 := ownsRow_setCell_below (ownsRow_setCell_below hown3 (a := ⟨w.heap.size, 0, none⟩) (by simp) (.int .i64 (p' + (u - p' % u)))) (a := ⟨w.heap.size, 1, none⟩) (by simp) (.int .i64 (l' - (u - p' % u)))
          have hbel4 := below_set2 hbel3 (b := w.heap.size) (Nat.le_refl _) (.int .i64 (p' + (u - p' % u))) (.int .i64 (l' - (u - p' % u)))
          obtain ⟨e0, e1, g0, g1⟩ := hbox3.one
          clear c0 c1 f0 f1 hownD hown
          have X := Lib.hid hput
          have Y := Lib.hid hown4
          have Z := Lib.hid hbel4
          clear hput hown4 hbel4 hown3 hblk hgrow
          go_wp2
          go_roundw
          case rel => exact ⟨f - 1, p' + (u - p' % u), l' - (u - p' % u), acc ++ [(p', u - p' % u)], X.out, by rw [List.length_append, Plain.spanCells_append]; exact Y.out, Z.out, by omega, by omega, by omega, by simp; omega, by omega, by unfold Hid; rw [HE.out, HST.out]; simp⟩
          case measure => rw [boxLen_of X.out, boxLen_of hbox]; omega
    · have hq : Plain.partsFrom u l.toNat p l = acc := by rw [HE.out, Plain.partsFrom_zero _ _ _ _ hpos, List.append_nil]
      have HQ := Lib.hid hq; clear hq
      go_wp2
      go_ret
      exact ⟨_, rfl, by rw [HV.out, HQ.out]; exact hown, hbel⟩

set_option maxHeartbeats 400000 in
theorem parts_noB (p l u : Int) (w : World) (hs : Plain.spanB p l = true) (hl : ¬ (l ≤ 4096 ∧ 1 ≤ u)) :
    Calls Tryz.prog 122 #[.agg #[.int .i64 p, .int .i64 l], .int .i64 u] w (PartsPost u p l w) := by
  have hv : Plain.partsOf u p l = [] := by rw [Plain.partsOf, if_neg (fun h => hl h.2)]
  have HV := Lib.hid hv; clear hv
  have HS := Lib.hid hs; clear hs
  by_cases h1 : l ≤ 4096
  · have h2 : u < 1 := by omega
    clear hl
    go_enter Tryz.func122, Tryz.ntmps122
    go_wp2_with fail
    refine (span_any _ _ _).mono ?_
    rintro e w1 ⟨rfl, k1⟩
    rw [HS.out]
    have b1 : BoxAt w1 w.heap.size 154 p l := (BoxAt.new w 154 p l).below k1 (by simp)
    obtain ⟨c0, c1, f0, f1⟩ := b1.one
    have k4 : Below w.heap.size w w1 := ((Below.refl w.heap.size w).alloc (Nat.le_refl _) _).trans (k1.mono (by simp))
    go_wp2
    go_ret
    exact ⟨_, rfl, by rw [HV.out]; exact World.ownsRow_nil _ _ _ _, k4⟩
  · clear hl
    go_enter Tryz.func122, Tryz.ntmps122
    go_wp2_with fail
    refine (span_any _ _ _).mono ?_
    rintro e w1 ⟨rfl, k1⟩
    rw [HS.out]
    have b1 : BoxAt w1 w.heap.size 154 p l := (BoxAt.new w 154 p l).below k1 (by simp)
    obtain ⟨c0, c1, f0, f1⟩ := b1.one
    have k4 : Below w.heap.size w w1 := ((Below.refl w.heap.size w).alloc (Nat.le_refl _) _).trans (k1.mono (by simp))
    go_wp2
    go_ret
    exact ⟨_, rfl, by rw [HV.out]; exact World.ownsRow_nil _ _ _ _, k4⟩

theorem parts_any (p l u : Int) (w : World) (hu2 : u ≤ 9223372036854775807) :
    Calls Tryz.prog 122 #[.agg #[.int .i64 p, .int .i64 l], .int .i64 u] w (PartsPost u p l w) := by
  cases hs : Plain.spanB p l
  · exact parts_noA p l u w hs
  · by_cases h : l ≤ 4096 ∧ 1 ≤ u
    · exact parts_yes p l u w hs h.1 h.2 hu2
    · exact parts_noB p l u w hs h

end Go.Proofs.YtgaaieipeiekiaaGreat

namespace Go.Proofs.YtgaaieipeiekiaaGreat
open Go.RowKit

/-- A block: its number, its bytes. -/
structure Ex where
  no : Int
  bs : List Int
deriving DecidableEq, Inhabited

def Ex.ok (e : Ex) : Prop := e.bs.length = 8 ∧ ∀ x ∈ e.bs, 0 ≤ x ∧ x ≤ 255
def ecl (e : Ex) : List Value := .int .i64 e.no :: e.bs.map (Value.int .u8)
def ev (e : Ex) : Value := .agg (ecl e).toArray
def nul8 : List Int := [0, 0, 0, 0, 0, 0, 0, 0]
theorem ecl_len {e : Ex} (h : e.ok) : (ecl e).length = 9 := by simp [ecl, h.1]
theorem ecl_size {e : Ex} (h : e.ok) : (ecl e).toArray.size = 9 := by simp [ecl, h.1]
theorem ecl_one (e : Ex) : ∀ v ∈ ecl e, v.oneCell' = true := by
  intro v hv
  simp [ecl] at hv
  rcases hv with rfl | ⟨n, _, rfl⟩ <;> rfl
theorem ok_nul (n : Int) : (Ex.mk n nul8).ok := ⟨rfl, by intro x hx; simp [nul8] at hx; omega⟩
theorem ecl_no (e : Ex) : (ecl e)[0]? = some (.int .i64 e.no) := rfl
theorem ecl_byte {e : Ex} (h : e.ok) (k : Nat) (hk : k < 8) : (ecl e)[1 + k]? = some (.int .u8 (e.bs.getD k 0)) := by
  have := h.1
  simp [ecl, Nat.add_comm 1 k, List.getD_eq_getElem?_getD, List.getElem?_eq_getElem (show k < e.bs.length by omega)]
theorem Ex.at_ok {e : Ex} (h : e.ok) (k : Nat) : 0 ≤ e.bs.getD k 0 ∧ e.bs.getD k 0 ≤ 255 := by
  rw [List.getD_eq_getElem?_getD]
  by_cases hk : k < e.bs.length
  · rw [List.getElem?_eq_getElem hk]; exact h.2 _ (List.getElem_mem hk)
  · rw [List.getElem?_eq_none (by omega)]; exact ⟨by decide, by decide⟩

def exCells (L : List Ex) : List Value := L.flatMap ecl
theorem exCells_append (a b : List Ex) : exCells (a ++ b) = exCells a ++ exCells b := by simp [exCells]
theorem exCells_one (e : Ex) : exCells [e] = ecl e := by simp [exCells]
theorem exCells_len : ∀ L : List Ex, (∀ e ∈ L, e.ok) → (exCells L).length = L.length * 9
  | [], _ => rfl
  | e :: L, h => by
    have := exCells_len L (fun x hx => h x (by simp [hx]))
    have h1 := ecl_len (h e (by simp))
    simp only [exCells, List.flatMap_cons, List.length_append, List.length_cons] at this ⊢
    omega
theorem exCells_ones (L : List Ex) : ∀ v ∈ exCells L, v.oneCell' = true := by
  intro v hv
  simp [exCells] at hv
  obtain ⟨e, _, h⟩ := hv
  exact ecl_one e v h
theorem exCells_at (L : List Ex) (h : ∀ e ∈ L, e.ok) (j : Nat) (hj : j < L.length) (q : Nat) (hq : q < 9) : (exCells L)[j * 9 + q]? = (ecl (L.getD j default))[q]? := by
  induction L generalizing j with
  | nil => simp at hj
  | cons e L ih =>
    have h1 := ecl_len (h e (by simp))
    have e0 : exCells (e :: L) = ecl e ++ exCells L := rfl
    rw [e0]
    cases j with
    | zero => rw [List.getElem?_append_left (by omega)]; simp
    | succ j =>
      rw [List.getElem?_append_right (by omega), h1, show (j + 1) * 9 + q - 9 = j * 9 + q by omega, ih (fun x hx => h x (by simp [hx])) j (by simpa using hj)]
      rfl

/-- A slice of blocks: nil let in. -/
structure Exts (w : World) (A : Option Addr) (n c : Nat) (L : List Ex) : Prop where
  len : L.length = n
  ok : ∀ e ∈ L, e.ok
  le : n ≤ c
  mx : c ≤ maxLen
  nil : A = none → n = 0 ∧ c = 0
  cells : 0 < n → ∃ b o, A = some ⟨b, o, none⟩ ∧ b < w.heap.size ∧ ∀ j, j < n → w.rangeAt b (o + j * 9) (ecl (L.getD j default))
theorem exts_nil (w : World) : Exts w none 0 0 [] := ⟨rfl, by simp, Nat.le_refl _, Nat.zero_le _, fun _ => ⟨rfl, rfl⟩, fun h => absurd h (by omega)⟩
theorem Exts.only {S : Nat → Prop} {w w' : World} {A : Option Addr} {n c : Nat} {L : List Ex} (h : Exts w A n c L) (hb : Only S w w') (hS : ∀ g o, A = some ⟨g, o, none⟩ → 0 < n → ¬ S g) : Exts w' A n c L := by
  refine ⟨h.len, h.ok, h.le, h.mx, h.nil, fun hn => ?_⟩
  obtain ⟨b, o, rfl, hl, hc⟩ := h.cells hn
  exact ⟨b, o, rfl, Nat.lt_of_lt_of_le hl hb.size, fun j hj i v hv => (hb.cell (p := ⟨b, o + j * 9 + i, none⟩) hl (hS b o rfl hn)).trans (hc j hj i v hv)⟩
theorem Exts.on {w w' : World} {A : Option Addr} {n c : Nat} {L : List Ex} (h : Exts w A n c L) (hb : Below w.heap.size w w') : Exts w' A n c L :=
  h.only (S := fun _ => False) (Only.of_below hb) (fun _ _ _ _ h => h)
theorem Exts.drewN {w : World} {A : Option Addr} {n c : Nat} {L : List Ex} (h : Exts w A n c L) (m : Nat) : Exts (w.drewN m) A n c L := h.on (below_drewN (Below.refl _ _) m)
theorem Exts.max {w : World} {A : Option Addr} {n c : Nat} {L : List Ex} (h : Exts w A n c L) : n ≤ 9223372036854775807 := by have := h.le; have := h.mx; unfold maxLen at this; omega
theorem Exts.get {w : World} {A : Option Addr} {n c : Nat} {L : List Ex} (h : Exts w A n c L) (j : Nat) (hj : j < n) : (L.getD j default).ok := by
  have := h.len
  rw [List.getD_eq_getElem?_getD, List.getElem?_eq_getElem (by omega)]
  exact h.ok _ (List.getElem_mem (by omega))
/-- A piece of it, the address as Go leaves it. -/
theorem Exts.piece {w : World} {A : Option Addr} {n c : Nat} {L : List Ex} (h : Exts w A n c L) (i m : Nat) (hm : i + m ≤ n) : Exts w (if c = i then A else A.map (·.add (i * 9))) m (c - i) ((L.drop i).take m) := by
  have h1 := h.len; have h2 := h.le; have h3 := h.mx
  refine ⟨by simp; omega, fun e he => h.ok e (List.mem_of_mem_drop (List.mem_of_mem_take he)), by omega, by omega, fun ha => ?_, fun hp => ?_⟩
  · split at ha
    · have := h.nil ha; omega
    · cases A with
      | none => have := h.nil rfl; omega
      | some a => simp at ha
  · obtain ⟨b, o, rfl, hl, hc⟩ := h.cells (by omega)
    rw [if_neg (by omega)]
    refine ⟨b, o + i * 9, by simp [Addr.add_mid], hl, fun k hk => ?_⟩
    have e : ((L.drop i).take m).getD k default = L.getD (i + k) default := by simp [List.getD_eq_getElem?_getD, hk]
    rw [e, show o + i * 9 + k * 9 = o + (i + k) * 9 by omega]
    exact hc (i + k) (by omega)
theorem Exts.src {w : World} {A : Option Addr} {n c : Nat} {L : List Ex} (h : Exts w A n c L) : ∀ ad, A = some ad → ∀ j u, (exCells L)[j]? = some u → w.cell? (ad.add j) = some u := by
  intro ad ha j u hu
  have hl : j < (exCells L).length := (List.getElem?_eq_some_iff.1 hu).1
  rw [exCells_len L h.ok, h.len] at hl
  obtain ⟨b, o, rfl, _, hc⟩ := h.cells (by omega)
  injection ha with ha; subst ha
  have hq := exCells_at L h.ok (j / 9) (by rw [h.len]; omega) (j % 9) (by omega)
  rw [show j / 9 * 9 + j % 9 = j by omega, hu] at hq
  rw [Addr.add_mid, show o + j = o + j / 9 * 9 + j % 9 by omega]
  exact hc (j / 9) (by omega) _ _ hq.symm
theorem Exts.no {w : World} {b o n c : Nat} {L : List Ex} (h : Exts w (some ⟨b, o, none⟩) n c L) (j : Nat) (hj : j < n) : w.cell? ⟨b, o + j * 9, none⟩ = some (.int .i64 (L.getD j default).no) := by
  obtain ⟨b', o', he, _, hc⟩ := h.cells (by omega)
  injection he with he; injection he with e1 e2; subst e1 e2
  exact hc j hj 0 _ (ecl_no _)
theorem Exts.byte {w : World} {b o n c : Nat} {L : List Ex} (h : Exts w (some ⟨b, o, none⟩) n c L) (j : Nat) (hj : j < n) (k : Nat) (hk : k < 8) : w.cell? ⟨b, o + j * 9 + 1 + k, none⟩ = some (.int .u8 ((L.getD j default).bs.getD k 0)) := by
  obtain ⟨b', o', he, _, hc⟩ := h.cells (by omega)
  injection he with he; injection he with e1 e2; subst e1 e2
  rw [Nat.add_assoc]
  exact hc j hj (1 + k) _ (ecl_byte (h.get j hj) k hk)

/-- Cells put into one of the blocks. -/
theorem Exts.put {w : World} {g o n c : Nat} {L : List Ex} (h : Exts w (some ⟨g, o, none⟩) n c L) (j p : Nat) (vs : List Value) (e' : Ex) (hj : j < n) (hp : p + vs.length ≤ 9) (ho : e'.ok) (he : ecl e' = splice (ecl (L.getD j default)) p vs) :
    Exts (w.setCells g (o + j * 9 + p) vs) (some ⟨g, o, none⟩) n c (L.set j e') := by
  have h1 := h.len
  obtain ⟨g', o', ha, hl, hc⟩ := h.cells (by omega)
  injection ha with ha; injection ha with e1 e2; subst e1 e2
  have hoz : ∀ i, i < n → (L.getD i default).ok := h.get
  refine ⟨by simpa using h1, fun e hm => ?_, h.le, h.mx, (fun h => by cases h), fun _ => ⟨g, o, rfl, ?_, fun i hi => ?_⟩⟩
  · rcases List.mem_or_eq_of_mem_set hm with hm | rfl
    · exact h.ok e hm
    · exact ho
  · have : ∀ (vs : List Value) (q : Nat) (w : World), g < w.heap.size → g < (w.setCells g q vs).heap.size := by
      intro vs
      induction vs with
      | nil => intro q w h; exact h
      | cons v r ih => intro q w h; exact ih _ _ (by simpa [World.setCell] using h)
    exact this _ _ _ hl
  · by_cases hij : i = j
    · subst hij
      have hE : (L.set i e').getD i default = e' := by rw [List.getD_eq_getElem?_getD, List.getElem?_set_self (by omega)]; rfl
      rw [hE]
      have hold := hc i hi
      have hlen := ecl_len (hoz i hi)
      generalize L.getD i default = e0 at he hold hlen
      intro q v hv
      have hq : q < 9 := by have := (List.getElem?_eq_some_iff.1 hv).1; rw [ecl_len ho] at this; exact this
      rw [he] at hv
      unfold splice at hv
      by_cases q1 : q < p
      · rw [World.cell?_setCells_out _ _ _ _ ⟨g, o + i * 9 + q, none⟩ (fun _ _ => by left; show o + i * 9 + q < o + i * 9 + p; omega)]
        rw [List.getElem?_append_left (by simp; omega), List.getElem?_take_of_lt q1] at hv
        exact hold q v hv
      · by_cases q2 : q < p + vs.length
        · have hin := World.cell?_setCells_in g vs (o + i * 9 + p) w (fun k hk => by
            rw [show o + i * 9 + p + k = o + i * 9 + (p + k) by omega, hold (p + k) _ (List.getElem?_eq_getElem (by omega))]; rfl) (q - p) (by omega)
          rw [show o + i * 9 + p + (q - p) = o + i * 9 + q by omega] at hin
          rw [hin]
          rw [List.getElem?_append_right (by simp; omega), List.getElem?_append_left (by simp; omega)] at hv
          rw [← hv, List.length_take, Nat.min_eq_left (by omega), List.getElem?_eq_getElem (by omega)]
        · rw [World.cell?_setCells_out _ _ _ _ ⟨g, o + i * 9 + q, none⟩ (fun _ _ => by right; show o + i * 9 + p + vs.length ≤ o + i * 9 + q; omega)]
          rw [List.getElem?_append_right (by simp; omega), List.getElem?_append_right (by simp; omega), List.length_take, Nat.min_eq_left (by omega), List.getElem?_drop, show p + vs.length + (q - p - vs.length) = q by omega] at hv
          exact hold q v hv
    · have hE : (L.set j e').getD i default = L.getD i default := by rw [List.getD_eq_getElem?_getD, List.getElem?_set_ne (by omega), List.getD_eq_getElem?_getD]
      rw [hE]
      refine World.rangeAt_setCells_apart (hc i hi) _ _ _ (.inr ?_)
      rw [ecl_len (hoz i hi)]
      omega
theorem splice_no (e : Ex) (n : Int) : ecl ⟨n, e.bs⟩ = splice (ecl e) 0 [.int .i64 n] := by simp [ecl, splice]
theorem splice_all {e e' : Ex} (h : e.ok) (h' : e'.ok) : ecl e' = splice (ecl e) 0 (ecl e') := by
  simp [splice, ecl_len h']
  exact Nat.le_of_eq (ecl_len h)
theorem splice_bytes {e : Ex} (k : Nat) (xs : List Int) : ecl ⟨e.no, splice e.bs k xs⟩ = splice (ecl e) (1 + k) (xs.map (Value.int .u8)) := by
  simp [splice, ecl, Nat.add_comm 1 k, Nat.add_right_comm k 1]
theorem ok_splice {e : Ex} (h : e.ok) (k : Nat) (xs : List Int) (hk : k + xs.length ≤ 8) (hx : ∀ x ∈ xs, 0 ≤ x ∧ x ≤ 255) : (Ex.mk e.no (splice e.bs k xs)).ok := by
  refine ⟨by rw [length_splice _ _ _ (by rw [h.1]; omega), h.1], fun x hm => ?_⟩
  simp [splice] at hm
  rcases hm with hm | hm | hm
  · exact h.2 x (List.mem_of_mem_take hm)
  · exact hx x hm
  · exact h.2 x (List.mem_of_mem_drop hm)

theorem own_below {w w' : World} {base : Nat} {e : TypeId} {size : Nat} {v : Value} {n : Nat} {xs : List Value} (h : w.ownsRow base e size v n xs) (hb : Below w.heap.size w w') : w'.ownsRow base e size v n xs :=
  h.kept (row := none) ⟨hb.os, hb.tape, hb.output, hb.size, fun k hk _ => hb.block k hk⟩ (by cases v.ownBlock <;> simp)
/-- A row of one's own. -/
structure Own (B : Nat) (w : World) (v : Value) (L : List Ex) : Prop where
  row : w.ownsRow B 75 9 v L.length (exCells L)
  ok : ∀ e ∈ L, e.ok
theorem own_nil (B : Nat) (w : World) : Own B w (.slice none 0 0) [] := ⟨World.ownsRow_nil _ _ _ _, by simp⟩
theorem Own.exts {B : Nat} {w : World} {v : Value} {L : List Ex} (h : Own B w v L) : ∃ A c, v = .slice A L.length c ∧ Exts w A L.length c L ∧ (∀ g o, A = some ⟨g, o, none⟩ → B ≤ g ∧ o = 0 ∧ ∀ j, w.frozen? ⟨g, j, none⟩ = false) := by
  obtain ⟨hl, ⟨rfl, h0⟩ | ⟨g, cap, cur, rfl, hB, hb, hn, hm, hs, ht⟩⟩ := h.row
  · obtain rfl : L = [] := List.eq_nil_of_length_eq_zero h0
    exact ⟨none, 0, rfl, exts_nil w, fun g o h => by cases h⟩
  · refine ⟨some ⟨g, 0, none⟩, cap, rfl, ⟨rfl, h.ok, hn, hm, (fun h => by cases h), fun hp => ⟨g, 0, rfl, (Array.getElem?_eq_some_iff.1 hb).1, fun j hj q v hv => ?_⟩⟩, ?_⟩
    · have hq : q < 9 := by
        have := (List.getElem?_eq_some_iff.1 hv).1
        rw [List.getD_eq_getElem?_getD, List.getElem?_eq_getElem hj, Option.getD_some, ecl_len (h.ok _ (List.getElem_mem hj))] at this
        exact this
      rw [cell_of_row _ _ _ _ 75 (0, 0) hb, Nat.zero_add, ← hv, ← exCells_at L h.ok j hj q hq, ← ht, List.getElem?_take_of_lt (by omega)]
      simp
    · intro g' o he
      injection he with he; injection he with e1 e2; subst e1 e2
      exact ⟨hB, rfl, fun j => frozen_of_row _ _ _ _ _ hb⟩
theorem Own.on {B : Nat} {w w' : World} {v : Value} {L : List Ex} (h : Own B w v L) (hb : Below w.heap.size w w') : Own B w' v L :=
  ⟨own_below h.row hb, h.ok⟩
end Go.Proofs.YtgaaieipeiekiaaGreat
