/- Objects that keep memory of their own, one or two side by side: what stays when the other one changes. No Go of the program. -/
import Derived.Test.YtghihmmapignmaaPlain
namespace Go.Proofs.Ytghihmmapignmaa
open Go.RowKit

/-- What is told of an object, over its blocks, stays as long as none of these changes. -/
structure Keeps (P : World → (Nat → Prop) → Prop) : Prop where
  lt : ∀ {w : World} {S : Nat → Prop}, P w S → ∀ d, S d → d < w.heap.size
  only : ∀ {w w' : World} {S T : Nat → Prop}, P w S → Only T w w' → (∀ d, S d → ¬ T d) → P w' S
theorem Keeps.on {P : World → (Nat → Prop) → Prop} (k : Keeps P) {w w' : World} {S : Nat → Prop} (h : P w S) (hb : Below w.heap.size w w') : P w' S := k.only (T := fun _ => False) h (Only.of_below hb) (fun _ _ h => h)

/-- One that was made behind W; what was there in W is as it was. -/
structure Mine (W w : World) (P : World → (Nat → Prop) → Prop) (S : Nat → Prop) : Prop where
  obj : P w S
  new : ∀ d, S d → W.heap.size ≤ d
  below : Below W.heap.size W w
theorem Mine.next {W w w' : World} {P P' : World → (Nat → Prop) → Prop} {S S' : Nat → Prop} (h : Mine W w P S) (f : P' w' S') (o : Only S w w') (g : ∀ d, S' d → S d ∨ w.heap.size ≤ d) : Mine W w' P' S' :=
  ⟨f, fun d hd => (g d hd).elim (h.new d) (fun hl => Nat.le_trans h.below.size hl), h.below.trans (o.below h.below.size h.new)⟩
theorem Mine.on {W w w' : World} {P : World → (Nat → Prop) → Prop} {S : Nat → Prop} (k : Keeps P) (h : Mine W w P S) (o : Below w.heap.size w w') : Mine W w' P S :=
  ⟨k.on h.obj o, h.new, h.below.trans (o.mono h.below.size)⟩

/-- Two, side by side. -/
structure Both (W w : World) (P : World → (Nat → Prop) → Prop) (S : Nat → Prop) (R : World → (Nat → Prop) → Prop) (T : Nat → Prop) : Prop where
  f : Mine W w P S
  g : Mine W w R T
  apart : ∀ d, S d → ¬ T d
theorem Both.fst {W w w' : World} {P P' R : World → (Nat → Prop) → Prop} {S S' T : Nat → Prop} (kR : Keeps R) (h : Both W w P S R T) (f : P' w' S') (o : Only S w w') (g : ∀ d, S' d → S d ∨ w.heap.size ≤ d) : Both W w' P' S' R T :=
  ⟨h.f.next f o g, ⟨kR.only h.g.obj o (fun d ht hs => h.apart d hs ht), h.g.new, h.f.below.trans (o.below h.f.below.size h.f.new)⟩, fun d hd ht => (g d hd).elim (fun hs => h.apart d hs ht) (fun hl => by have := kR.lt h.g.obj d ht; omega)⟩
theorem Both.snd {W w w' : World} {P R R' : World → (Nat → Prop) → Prop} {S T T' : Nat → Prop} (kP : Keeps P) (h : Both W w P S R T) (f : R' w' T') (o : Only T w w') (g : ∀ d, T' d → T d ∨ w.heap.size ≤ d) : Both W w' P S R' T' :=
  ⟨⟨kP.only h.f.obj o h.apart, h.f.new, h.g.below.trans (o.below h.g.below.size h.g.new)⟩, h.g.next f o g, fun d hs ht => (g d ht).elim (fun hT => h.apart d hs hT) (fun hl => by have := kP.lt h.f.obj d hs; omega)⟩
theorem Both.on {W w w' : World} {P R : World → (Nat → Prop) → Prop} {S T : Nat → Prop} (kP : Keeps P) (kR : Keeps R) (h : Both W w P S R T) (o : Below w.heap.size w w') : Both W w' P S R T :=
  ⟨h.f.on kP o, h.g.on kR o, h.apart⟩
/-- A second one is made beside the first. -/
theorem Mine.both {W w w' : World} {P R : World → (Nat → Prop) → Prop} {S T : Nat → Prop} (kP : Keeps P) (h : Mine W w P S) (f : R w' T) (new : ∀ d, T d → w.heap.size ≤ d) (o : Below w.heap.size w w') : Both W w' P S R T :=
  ⟨h.on kP o, ⟨f, fun d hd => Nat.le_trans h.below.size (new d hd), (h.on kP o).below⟩, fun d hs ht => by have := kP.lt h.obj d hs; have := new d ht; omega⟩

/-- Bytes of new memory are answered; the object is told anew. -/
def Gives (P : World → (Nat → Prop) → Prop) (S : Nat → Prop) (os : List Int) (w : World) (e : Ending) (w' : World) : Prop :=
  ∃ A m c S', e = .returned (.slice A m c) ∧ Buf w' A m c os ∧ (∀ g o s, A = some ⟨g, o, s⟩ → w.heap.size ≤ g ∧ ¬ S' g) ∧ P w' S' ∧ Only S w w' ∧ ∀ d, S' d → S d ∨ w.heap.size ≤ d

/-- What came out of one stays when an object changes whose blocks it does not lie in. -/
theorem Buf.at {w : World} {A : Option Addr} {n c : Nat} {zs : List Int} (h : Buf w A n c zs) : ∀ g o s, A = some ⟨g, o, s⟩ → g < w.heap.size := by
  intro g o s he
  obtain ⟨_, _, _, ⟨h4, _⟩ | ⟨g', o', he', hl, _⟩⟩ := h
  · rw [h4] at he; cases he
  · rw [he'] at he; injection he with he; injection he with he; omega
theorem Bytes.at {w : World} {A : Option Addr} {n c : Nat} {zs : List Int} (h : Bytes w A n c zs) : ∀ g o, A = some ⟨g, o, none⟩ → 0 < n → g < w.heap.size := by
  intro g o he hn
  obtain ⟨g', o', he', hl, _⟩ := h.2.2.2 hn
  rw [he'] at he; injection he with he; injection he with he; omega
theorem Buf.on {w w' : World} {A : Option Addr} {n c : Nat} {zs : List Int} (h : Buf w A n c zs) (k : Below w.heap.size w w') : Buf w' A n c zs :=
  h.only (S := fun _ => False) (Only.of_below k) (fun _ _ _ _ h => h)

/-- The first i of them, the room as it was. -/
theorem Buf.firsts {w : World} {A : Option Addr} {n c : Nat} {zs : List Int} (h : Buf w A n c zs) (i : Nat) (hi : i ≤ n) : Buf w A i c (zs.take i) := by
  obtain ⟨h1, h2, h3, ⟨h4, h5⟩ | ⟨g, o, rfl, hl, hs, hf, hc⟩⟩ := h
  · exact ⟨by simp; omega, by omega, h3, .inl ⟨h4, h5⟩⟩
  · refine ⟨by simp; omega, by omega, h3, .inr ⟨g, o, rfl, hl, hs, hf, fun k hk => ?_⟩⟩
    rw [hc k (by omega)]
    simp [List.getD_eq_getElem?_getD, hk]
theorem Bytes.firsts {w : World} {A : Option Addr} {n c : Nat} {zs : List Int} (h : Bytes w A n c zs) (i : Nat) (hi : i ≤ n) : Bytes w A i c (zs.take i) := by
  obtain ⟨h1, h2, h3, h4⟩ := h
  refine ⟨by simp; omega, by omega, h3, fun hp => ?_⟩
  obtain ⟨b, o, rfl, hl, hc⟩ := h4 (by omega)
  refine ⟨b, o, rfl, hl, fun k hk => ?_⟩
  rw [hc k (by omega)]
  simp [List.getD_eq_getElem?_getD, hk]
theorem Bytes.behind {w : World} {g o n c : Nat} {zs : List Int} (h : Bytes w (some ⟨g, o, none⟩) n c zs) (i : Nat) (hi : i ≤ n) (A : Option Addr) (hA : A = some ⟨g, o + i, none⟩ ∨ (c = i ∧ A = some ⟨g, o, none⟩)) : Bytes w A (n - i) (c - i) (zs.drop i) := by
  rcases hA with rfl | ⟨h5, rfl⟩
  · have h2 := h.piece i (n - i) (by omega)
    have e : (zs.drop i).take (n - i) = zs.drop i := by rw [List.take_of_length_le]; simp; have := h.1; omega
    rwa [e] at h2
  · have h1 := h.1
    have h2 := h.2.1
    exact ⟨by simp; omega, by omega, by have := h.2.2.1; omega, fun hp => absurd hp (by omega)⟩

end Go.Proofs.Ytghihmmapignmaa
