/- Contracts of fixed's New, Cbs, Held, Cut, begin, of the reference's Held, of bytes.IndexByte. -/
import Derived.Test.YtghihmmapignmaaRead
import Derived.Test.YtghihmmapignmaaPlainF
import Derived.Test.YtghihmmapignmaaThings
import Derived.WalkKit
import Derived.WalkSpells
import Derived.WalkLawsBesides
import Derived.Lib.Hide
import Derived.BigQuiet
import Derived.StillTailTactics
import Derived.Deep.RegionLaw
import Derived.Lib.BytesEntry
import Derived.Laws.Externs
namespace Go.Proofs.Ytghihmmapignmaa
open Go.RowKit

/-- A Rec: how long records are, how many bytes are held, the first of them; x is what lies behind it. -/
structure Rx (b : Nat) (K : Nat) (h : Int) (ks : List Int) (x : Option Value) (w : World) (S : Nat → Prop) : Prop where
  mine : S b
  lt : ∀ d, S d → d < w.heap.size
  pos : 1 ≤ K ∧ K ≤ 4096
  cbs : w.cell? ⟨b, 0, none⟩ = some (.int .i64 K)
  held : w.cell? ⟨b, 1, none⟩ = some (.int .i64 h)
  kept : ∃ A n c, w.cell? ⟨b, 2, none⟩ = some (.slice A n c) ∧ Buf w A n c ks ∧ ∀ g o s, A = some ⟨g, o, s⟩ → S g ∧ g ≠ b
  cut : w.cell? ⟨b, 3, none⟩ = x
  f1 : w.frozen? ⟨b, 1, none⟩ = false
  f2 : w.frozen? ⟨b, 2, none⟩ = false
  f3 : w.frozen? ⟨b, 3, none⟩ = false
/-- .. of the line l. -/
abbrev Rc (b : Nat) (K : Nat) (l : List Int) (x : Option Value) : World → (Nat → Prop) → Prop := Rx b K ((l.length : Nat) : Int) (l.take K) x

theorem Rx.keeps (b K : Nat) (h : Int) (ks : List Int) (x : Option Value) : Keeps (Rx b K h ks x) := by
  refine ⟨fun h => h.lt, fun {w w' S T} h hk hS => ?_⟩
  have hb := h.lt b h.mine
  have hn := hS b h.mine
  obtain ⟨A, n, c, h1, h2, h3⟩ := h.kept
  exact ⟨h.mine, fun d hd => Nat.lt_of_lt_of_le (h.lt d hd) hk.size, h.pos, (hk.cell (p := ⟨b, 0, none⟩) hb hn).trans h.cbs, (hk.cell (p := ⟨b, 1, none⟩) hb hn).trans h.held,
    ⟨A, n, c, (hk.cell (p := ⟨b, 2, none⟩) hb hn).trans h1, h2.only hk (fun g o s he => hS g (h3 g o s he).1), h3⟩, (hk.cell (p := ⟨b, 3, none⟩) hb hn).trans h.cut,
    (hk.frozen (p := ⟨b, 1, none⟩) hb hn).trans h.f1, (hk.frozen (p := ⟨b, 2, none⟩) hb hn).trans h.f2, (hk.frozen (p := ⟨b, 3, none⟩) hb hn).trans h.f3⟩
theorem Rc.keeps (b K : Nat) (l : List Int) (x : Option Value) : Keeps (Rc b K l x) := Rx.keeps b K _ _ x
theorem Rx.only {b K : Nat} {h : Int} {ks : List Int} {x : Option Value} {w w' : World} {S T : Nat → Prop} (hr : Rx b K h ks x w S) (hk : Only T w w') (hS : ∀ d, S d → ¬ T d) : Rx b K h ks x w' S := (Rx.keeps b K h ks x).only hr hk hS
theorem Rx.on {b K : Nat} {h : Int} {ks : List Int} {x : Option Value} {w w' : World} {S : Nat → Prop} (hr : Rx b K h ks x w S) (hk : Below w.heap.size w w') : Rx b K h ks x w' S := (Rx.keeps b K h ks x).on hr hk

/-- Held stored anew. -/
theorem Rx.setHeld {b K : Nat} {h : Int} {ks : List Int} {x : Option Value} {w : World} {S : Nat → Prop} (hr : Rx b K h ks x w S) (h' : Int) :
    Rx b K h' ks x (w.setCell ⟨b, 1, none⟩ (.int .i64 h')) S ∧ Only (fun d => d = b) w (w.setCell ⟨b, 1, none⟩ (.int .i64 h')) := by
  have ho : Only (fun d => d = b) w (w.setCell ⟨b, 1, none⟩ (.int .i64 h')) := (Only.refl (fun d => d = b) w).setCell ⟨b, 1, none⟩ (fun _ => rfl) _
  obtain ⟨A, n, c, h1, h2, h3⟩ := hr.kept
  refine ⟨⟨hr.mine, fun d hd => Nat.lt_of_lt_of_le (hr.lt d hd) ho.size, hr.pos, ?_, World.cell?_setCell_same _ _ _ hr.held, ⟨A, n, c, ?_, h2.only ho (fun g o s he => (h3 g o s he).2), h3⟩, ?_, by simpa using hr.f1, by simpa using hr.f2, by simpa using hr.f3⟩, ho⟩
  · rw [World.cell?_setCell_other _ _ _ _ (by simp)]; exact hr.cbs
  · rw [World.cell?_setCell_other _ _ _ _ (by simp)]; exact h1
  · rw [World.cell?_setCell_other _ _ _ _ (by simp)]; exact hr.cut
/-- Kept stored anew, over blocks S'. -/
theorem Rx.setKept {b K : Nat} {h : Int} {ks ks' : List Int} {x : Option Value} {w : World} {S S' : Nat → Prop} {A : Option Addr} {n c : Nat} (hr : Rx b K h ks x w S) (hm : S' b) (hl : ∀ d, S' d → d < w.heap.size) (hB : Buf w A n c ks') (hA : ∀ g o s, A = some ⟨g, o, s⟩ → S' g ∧ g ≠ b) :
    Rx b K h ks' x (w.setCell ⟨b, 2, none⟩ (.slice A n c)) S' ∧ Only (fun d => d = b) w (w.setCell ⟨b, 2, none⟩ (.slice A n c)) := by
  have ho : Only (fun d => d = b) w (w.setCell ⟨b, 2, none⟩ (.slice A n c)) := (Only.refl (fun d => d = b) w).setCell ⟨b, 2, none⟩ (fun _ => rfl) _
  obtain ⟨A0, n0, c0, h1, _, _⟩ := hr.kept
  refine ⟨⟨hm, fun d hd => Nat.lt_of_lt_of_le (hl d hd) ho.size, hr.pos, ?_, ?_, ⟨A, n, c, World.cell?_setCell_same _ _ _ h1, hB.only ho (fun g o s he => (hA g o s he).2), hA⟩, ?_, by simpa using hr.f1, by simpa using hr.f2, by simpa using hr.f3⟩, ho⟩
  · rw [World.cell?_setCell_other _ _ _ _ (by simp)]; exact hr.cbs
  · rw [World.cell?_setCell_other _ _ _ _ (by simp)]; exact hr.held
  · rw [World.cell?_setCell_other _ _ _ _ (by simp)]; exact hr.cut
/-- What lies behind it stored anew. -/
theorem Rx.setCut {b K : Nat} {h : Int} {ks : List Int} {v : Value} {w : World} {S : Nat → Prop} (hr : Rx b K h ks (some v) w S) (u : Value) : Rx b K h ks (some u) (w.setCell ⟨b, 3, none⟩ u) S ∧ Only (fun d => d = b) w (w.setCell ⟨b, 3, none⟩ u) := by
  have ho : Only (fun d => d = b) w (w.setCell ⟨b, 3, none⟩ u) := (Only.refl (fun d => d = b) w).setCell ⟨b, 3, none⟩ (fun _ => rfl) _
  obtain ⟨A, n, c, h1, h2, h3⟩ := hr.kept
  refine ⟨⟨hr.mine, fun d hd => Nat.lt_of_lt_of_le (hr.lt d hd) ho.size, hr.pos, ?_, ?_, ⟨A, n, c, ?_, h2.only ho (fun g o s he => (h3 g o s he).2), h3⟩, World.cell?_setCell_same _ _ _ hr.cut, by simpa using hr.f1, by simpa using hr.f2, by simpa using hr.f3⟩, ho⟩
  · rw [World.cell?_setCell_other _ _ _ _ (by simp)]; exact hr.cbs
  · rw [World.cell?_setCell_other _ _ _ _ (by simp)]; exact hr.held
  · rw [World.cell?_setCell_other _ _ _ _ (by simp)]; exact h1

end Go.Proofs.Ytghihmmapignmaa
