/- Bytes in memory, and a struct that holds some of its own: what may change, and what stays. No Go of the program. -/
import Derived.Below
import Derived.WalkKit
import Derived.Deep.AppendSrc
namespace Go.Proofs.Ytghihmmapignmaa
open Go.RowKit

theorem drop_cons (l : List Int) (k : Nat) (h : k < l.length) : l.drop k = l.getD k 0 :: l.drop (k + 1) := by
  rw [List.drop_eq_getElem_cons h, List.getD_eq_getElem?_getD, List.getElem?_eq_getElem h]; rfl

/-- A slice of bytes that reads as a list: nil let in. -/
def Bytes (w : World) (A : Option Addr) (n c : Nat) (zs : List Int) : Prop :=
  zs.length = n ∧ n ≤ c ∧ c ≤ maxLen ∧ (0 < n → ∃ b o, A = some ⟨b, o, none⟩ ∧ b < w.heap.size ∧ ∀ k, k < n → w.cell? ⟨b, o + k, none⟩ = some (.int .u8 (zs.getD k 0)))

/-- One list of bytes as a value. -/
structure El where
  a : Option Addr
  n : Nat
  c : Nat
  zs : List Int
deriving Inhabited

theorem drop_el (l : List El) (k : Nat) (h : k < l.length) : l.drop k = l.getD k default :: l.drop (k + 1) := by
  rw [List.drop_eq_getElem_cons h, List.getD_eq_getElem?_getD, List.getElem?_eq_getElem h]; rfl

/-- What may have changed: the blocks of S alone. -/
structure Only (S : Nat → Prop) (w w' : World) : Prop where
  os : w'.os = w.os
  tape : w'.tape = w.tape
  output : w'.output = w.output
  size : w.heap.size ≤ w'.heap.size
  block : ∀ k, k < w.heap.size → ¬ S k → w'.heap[k]? = w.heap[k]?

theorem Only.refl (S : Nat → Prop) (w : World) : Only S w w := ⟨rfl, rfl, rfl, Nat.le_refl _, fun _ _ _ => rfl⟩
theorem Only.trans {S T : Nat → Prop} {a b c : World} (h : Only S a b) (k : Only T b c) (hT : ∀ d, T d → d < a.heap.size → S d) : Only S a c :=
  ⟨k.os.trans h.os, k.tape.trans h.tape, k.output.trans h.output, Nat.le_trans h.size k.size, fun i hi hn => (k.block i (Nat.lt_of_lt_of_le hi h.size) (fun ht => hn (hT i ht hi))).trans (h.block i hi hn)⟩
theorem Only.mono {S T : Nat → Prop} {w w' : World} (h : Only S w w') (hT : ∀ d, S d → T d) : Only T w w' := ⟨h.os, h.tape, h.output, h.size, fun k hk hn => h.block k hk (fun hs => hn (hT k hs))⟩
theorem Only.drew {S : Nat → Prop} {a w : World} (h : Only S a w) : Only S a w.drew := ⟨h.os, h.tape, h.output, h.size, h.block⟩
theorem Only.alloc {S : Nat → Prop} {a w : World} (h : Only S a w) (o : Obj) : Only S a (w.alloc o) :=
  h.trans (T := fun _ => False) ⟨rfl, rfl, rfl, by simp, fun k hk _ => Below.heap_alloc _ _ _ hk⟩ (fun _ h _ => h.elim)
theorem Only.setCell {S : Nat → Prop} {a w : World} (h : Only S a w) (p : Addr) (hp : p.block < a.heap.size → S p.block) (u : Value) : Only S a (w.setCell p u) :=
  h.trans (T := fun d => d = p.block) ⟨rfl, rfl, rfl, by simp [World.setCell], fun k _ hn => Below.heap_setCell _ _ _ _ hn⟩ (fun d hd hl => by subst hd; exact hp hl)
theorem Only.of_below {S : Nat → Prop} {w w' : World} (h : Below w.heap.size w w') : Only S w w' := ⟨h.os, h.tape, h.output, h.size, fun k hk _ => h.block k hk⟩
theorem Only.below {S : Nat → Prop} {w w' : World} {B : Nat} (h : Only S w w') (hB : B ≤ w.heap.size) (hS : ∀ d, S d → B ≤ d) : Below B w w' :=
  ⟨h.os, h.tape, h.output, h.size, fun k hk => h.block k (by omega) (fun hs => by have := hS k hs; omega)⟩
theorem Only.cell {S : Nat → Prop} {w w' : World} (h : Only S w w') {p : Addr} (hp : p.block < w.heap.size) (hn : ¬ S p.block) : w'.cell? p = w.cell? p := World.cell?_of_block (w := w) (h.block p.block hp hn)
theorem Only.frozen {S : Nat → Prop} {w w' : World} (h : Only S w w') {p : Addr} (hp : p.block < w.heap.size) (hn : ¬ S p.block) : w'.frozen? p = w.frozen? p := World.frozen?_of_block (w := w) (h.block p.block hp hn)
theorem Only.setCells {S : Nat → Prop} {a w : World} (h : Only S a w) (g o : Nat) (hg : g < a.heap.size → S g) (vs : List Value) : Only S a (w.setCells g o vs) := by
  induction vs generalizing o w with
  | nil => exact h
  | cons v r ih => exact ih (h.setCell ⟨g, o, none⟩ hg v) (o + 1)

theorem Bytes.below {w w' : World} {B : Nat} {A : Option Addr} {n c : Nat} {zs : List Int} (h : Bytes w A n c zs) (hb : Below B w w') (hB : ∀ b o, A = some ⟨b, o, none⟩ → 0 < n → b < B) : Bytes w' A n c zs := by
  refine ⟨h.1, h.2.1, h.2.2.1, fun hn => ?_⟩
  obtain ⟨b, o, rfl, hl, hc⟩ := h.2.2.2 hn
  exact ⟨b, o, rfl, Nat.lt_of_lt_of_le hl hb.size, fun k hk => (hb.cell (p := ⟨b, o + k, none⟩) (hB b o rfl hn)).trans (hc k hk)⟩
/-- Behind a call that leaves all that is there as it is. -/
theorem Bytes.on {w w' : World} {A : Option Addr} {n c : Nat} {zs : List Int} (h : Bytes w A n c zs) (hb : Below w.heap.size w w') : Bytes w' A n c zs := by
  refine ⟨h.1, h.2.1, h.2.2.1, fun hn => ?_⟩
  obtain ⟨b, o, rfl, hl, hc⟩ := h.2.2.2 hn
  exact ⟨b, o, rfl, Nat.lt_of_lt_of_le hl hb.size, fun k hk => (hb.cell (p := ⟨b, o + k, none⟩) hl).trans (hc k hk)⟩
theorem Bytes.only {S : Nat → Prop} {w w' : World} {A : Option Addr} {n c : Nat} {zs : List Int} (h : Bytes w A n c zs) (hb : Only S w w') (hS : ∀ g o, A = some ⟨g, o, none⟩ → 0 < n → ¬ S g) : Bytes w' A n c zs := by
  refine ⟨h.1, h.2.1, h.2.2.1, fun hn => ?_⟩
  obtain ⟨b, o, rfl, hl, hc⟩ := h.2.2.2 hn
  exact ⟨b, o, rfl, Nat.lt_of_lt_of_le hl hb.size, fun k hk => (hb.cell (p := ⟨b, o + k, none⟩) hl (hS b o rfl hn)).trans (hc k hk)⟩
/-- A piece of it. -/
theorem Bytes.piece {w : World} {b o n c : Nat} {zs : List Int} (h : Bytes w (some ⟨b, o, none⟩) n c zs) (i m : Nat) (hm : i + m ≤ n) : Bytes w (some ⟨b, o + i, none⟩) m (c - i) ((zs.drop i).take m) := by
  obtain ⟨h1, h2, h3, h4⟩ := h
  refine ⟨by simp; omega, by omega, by omega, fun hp => ?_⟩
  obtain ⟨b', o', he, hl, hc⟩ := h4 (by omega)
  injection he with he
  injection he with e1 e2
  subst e1 e2
  refine ⟨b, o + i, rfl, hl, fun k hk => ?_⟩
  rw [show o + i + k = o + (i + k) by omega, hc (i + k) (by omega)]
  simp [List.getD_eq_getElem?_getD, hk]
/-- The cells, one by one, of whatever address. -/
theorem Bytes.news {w : World} {ad : Addr} {n c : Nat} {zs : List Int} (hb : Bytes w (some ad) n c zs) : ∀ j u, (zs.map (Value.int .u8))[j]? = some u → w.cell? (ad.add j) = some u := by
  intro j u hu
  rw [List.getElem?_map] at hu
  have hj : j < n := by
    have := hb.1
    by_cases hj : j < zs.length
    · omega
    · rw [List.getElem?_eq_none (by omega)] at hu; simp at hu
  obtain ⟨b, o', he, _, hc⟩ := hb.2.2.2 (by omega)
  injection he with he
  subst he
  have hcj := hc j hj
  rw [List.getElem?_eq_getElem (by have := hb.1; omega)] at hu
  simp at hu
  rw [List.getD_eq_getElem?_getD, List.getElem?_eq_getElem (by have := hb.1; omega)] at hcj
  rw [← hu]
  by_cases h0 : j = 0
  · subst h0; simpa [Addr.add] using hcj
  · simpa [Addr.add, h0] using hcj

/-- A slice of bytes whose memory may be written, the spare room too. -/
def Buf (w : World) (A : Option Addr) (n c : Nat) (zs : List Int) : Prop :=
  zs.length = n ∧ n ≤ c ∧ c ≤ maxLen ∧ ((A = none ∧ c = 0) ∨ ∃ g o, A = some ⟨g, o, none⟩ ∧ g < w.heap.size ∧ (∀ k, k < c → (w.cell? ⟨g, o + k, none⟩).isSome = true) ∧ (∀ k, k < c → w.frozen? ⟨g, o + k, none⟩ = false) ∧
    ∀ k, k < n → w.cell? ⟨g, o + k, none⟩ = some (.int .u8 (zs.getD k 0)))

theorem Buf.nil (w : World) : Buf w none 0 0 [] := ⟨rfl, Nat.le_refl _, Nat.zero_le _, .inl ⟨rfl, rfl⟩⟩
theorem Buf.bytes {w : World} {A : Option Addr} {n c : Nat} {zs : List Int} (h : Buf w A n c zs) : Bytes w A n c zs ∧ (A = none → n = 0 ∧ c = 0) := by
  obtain ⟨h1, h2, h3, ⟨rfl, h5⟩ | ⟨g, o, rfl, hl, _, _, hc⟩⟩ := h
  · exact ⟨⟨h1, h2, h3, fun hp => absurd hp (by omega)⟩, fun _ => ⟨by omega, h5⟩⟩
  · exact ⟨⟨h1, h2, h3, fun _ => ⟨g, o, rfl, hl, hc⟩⟩, fun h => by cases h⟩
theorem Buf.only {S : Nat → Prop} {w w' : World} {A : Option Addr} {n c : Nat} {zs : List Int} (h : Buf w A n c zs) (k : Only S w w') (hS : ∀ g o s, A = some ⟨g, o, s⟩ → ¬ S g) : Buf w' A n c zs := by
  obtain ⟨h1, h2, h3, h4 | ⟨g, o, rfl, hl, hs, hf, hc⟩⟩ := h
  · exact ⟨h1, h2, h3, .inl h4⟩
  · have hn := hS g o none rfl
    refine ⟨h1, h2, h3, .inr ⟨g, o, rfl, Nat.lt_of_lt_of_le hl k.size, fun j hj => ?_, fun j hj => ?_, fun j hj => ?_⟩⟩
    · rw [k.cell (p := ⟨g, o + j, none⟩) hl hn]; exact hs j hj
    · rw [k.frozen (p := ⟨g, o + j, none⟩) hl hn]; exact hf j hj
    · rw [k.cell (p := ⟨g, o + j, none⟩) hl hn]; exact hc j hj
/-- What is left behind the first i bytes. -/
theorem Buf.cut {w : World} {g o n c : Nat} {zs : List Int} (h : Buf w (some ⟨g, o, none⟩) n c zs) (i : Nat) (hi : i ≤ n) (A : Option Addr) (hA : A = some ⟨g, o + i, none⟩ ∨ (c = i ∧ A = some ⟨g, o, none⟩)) : Buf w A (n - i) (c - i) (zs.drop i) := by
  obtain ⟨h1, h2, h3, ⟨h4, _⟩ | ⟨g', o', he, hl, hs, hf, hc⟩⟩ := h
  · cases h4
  · injection he with he
    injection he with e1 e2
    subst e1 e2
    rcases hA with rfl | ⟨h5, rfl⟩
    · refine ⟨by simp; omega, by omega, by omega, .inr ⟨g, o + i, rfl, hl, fun k hk => ?_, fun k hk => ?_, fun k hk => ?_⟩⟩
      · rw [show o + i + k = o + (i + k) by omega]; exact hs _ (by omega)
      · rw [show o + i + k = o + (i + k) by omega]; exact hf _ (by omega)
      · rw [show o + i + k = o + (i + k) by omega, hc _ (by omega)]; simp [List.getD_eq_getElem?_getD]
    · exact ⟨by simp; omega, by omega, by omega, .inr ⟨g, o, rfl, hl, fun k hk => absurd hk (by omega), fun k hk => absurd hk (by omega), fun k hk => absurd hk (by omega)⟩⟩

/-- A struct of a value and bytes that it alone holds: S are its blocks. -/
structure Fi (w : World) (b : Nat) (S : Nat → Prop) (k : Value) (zs : List Int) : Prop where
  mine : S b
  lt : ∀ d, S d → d < w.heap.size
  size : w.cell? ⟨b, 0, none⟩ = some k
  free : w.frozen? ⟨b, 1, none⟩ = false
  held : ∃ A n c, w.cell? ⟨b, 1, none⟩ = some (.slice A n c) ∧ Buf w A n c zs ∧ ∀ g o s, A = some ⟨g, o, s⟩ → S g ∧ g ≠ b

theorem Fi.only {S T : Nat → Prop} {w w' : World} {b : Nat} {k : Value} {zs : List Int} (h : Fi w b S k zs) (hk : Only T w w') (hS : ∀ d, S d → ¬ T d) : Fi w' b S k zs := by
  have hb := h.lt b h.mine
  have hn := hS b h.mine
  obtain ⟨A, n, c, h1, h2, h3⟩ := h.held
  exact ⟨h.mine, fun d hd => Nat.lt_of_lt_of_le (h.lt d hd) hk.size, (hk.cell (p := ⟨b, 0, none⟩) hb hn).trans h.size, (hk.frozen (p := ⟨b, 1, none⟩) hb hn).trans h.free,
    A, n, c, (hk.cell (p := ⟨b, 1, none⟩) hb hn).trans h1, h2.only hk (fun g o s he => hS g (h3 g o s he).1), h3⟩
theorem Fi.on {S : Nat → Prop} {w w' : World} {b : Nat} {k : Value} {zs : List Int} (h : Fi w b S k zs) (hk : Below w.heap.size w w') : Fi w' b S k zs :=
  h.only (T := fun _ => False) (Only.of_below hk) (fun _ _ h => h)
/-- The bytes stored anew. -/
theorem Fi.stored {S : Nat → Prop} {w : World} {b : Nat} {k : Value} {zs : List Int} {A : Option Addr} {n c : Nat} {u : Value} (hS : S b) (hl : ∀ d, S d → d < w.heap.size) (h0 : w.cell? ⟨b, 0, none⟩ = some k) (h1 : w.cell? ⟨b, 1, none⟩ = some u) (hf : w.frozen? ⟨b, 1, none⟩ = false)
    (hb : Buf w A n c zs) (hA : ∀ g o s, A = some ⟨g, o, s⟩ → S g ∧ g ≠ b) : Fi (w.setCell ⟨b, 1, none⟩ (.slice A n c)) b S k zs := by
  have ho : Only (fun d => d = b) w (w.setCell ⟨b, 1, none⟩ (.slice A n c)) := (Only.refl (fun d => d = b) w).setCell ⟨b, 1, none⟩ (fun _ => rfl) _
  refine ⟨hS, fun d hd => Nat.lt_of_lt_of_le (hl d hd) ho.size, ?_, ?_, A, n, c, World.cell?_setCell_same _ _ _ h1, hb.only ho (fun g o s he => (hA g o s he).2), hA⟩
  · rw [World.cell?_setCell_other _ _ _ _ (by simp)]; exact h0
  · simpa using hf

end Go.Proofs.Ytghihmmapignmaa
