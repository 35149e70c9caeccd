/- Contracts of swab.New, release, End, and of the reference's End. -/
import Derived.Test.YtghihmmapignmaaRead
import Derived.Test.YtghihmmapignmaaPlainS
import Derived.Test.YtghihmmapignmaaPlainO
import Derived.WalkKit
import Derived.WalkSpells
import Derived.WalkLawsBesides
import Derived.Lib.Hide
namespace Go.Proofs.Ytghihmmapignmaa
open Go.RowKit

/-- The program's Swab at block b: ks is what is kept back. -/
structure Sw (w : World) (b : Nat) (on : Bool) (ks : List Int) : Prop where
  lt : b < w.heap.size
  isOn : w.cell? ⟨b, 0, none⟩ = some (.bool on)
  held : w.cell? ⟨b, 1, none⟩ = some (.bool (!ks.isEmpty))
  first : w.cell? ⟨b, 2, none⟩ = some (.int .u8 (ks.getD 0 0))
  f1 : w.frozen? ⟨b, 1, none⟩ = false
  f2 : w.frozen? ⟨b, 2, none⟩ = false
  one : ks.length ≤ 1
  off : on = false → ks = []

theorem Sw.only {S : Nat → Prop} {w w' : World} {b : Nat} {on : Bool} {ks : List Int} (h : Sw w b on ks) (k : Only S w w') (hn : ¬ S b) : Sw w' b on ks :=
  ⟨Nat.lt_of_lt_of_le h.lt k.size, (k.cell (p := ⟨b, 0, none⟩) h.lt hn).trans h.isOn, (k.cell (p := ⟨b, 1, none⟩) h.lt hn).trans h.held, (k.cell (p := ⟨b, 2, none⟩) h.lt hn).trans h.first,
    (k.frozen (p := ⟨b, 1, none⟩) h.lt hn).trans h.f1, (k.frozen (p := ⟨b, 2, none⟩) h.lt hn).trans h.f2, h.one, h.off⟩
theorem Sw.on' {w w' : World} {b : Nat} {on : Bool} {ks : List Int} (h : Sw w b on ks) (k : Below w.heap.size w w') : Sw w' b on ks := h.only (S := fun _ => False) (Only.of_below k) (fun h => h)
/-- Both fields stored anew. -/
theorem Sw.stored {w : World} {b : Nat} {on : Bool} {ks js : List Int} (h : Sw w b on ks) (hj : js.length ≤ 1) (ho : on = false → js = []) (x : Bool) (z : Int) (hx : x = !js.isEmpty) (hz : z = js.getD 0 0) :
    Sw ((w.setCell ⟨b, 1, none⟩ (.bool x)).setCell ⟨b, 2, none⟩ (.int .u8 z)) b on js ∧ Only (fun d => d = b) w ((w.setCell ⟨b, 1, none⟩ (.bool x)).setCell ⟨b, 2, none⟩ (.int .u8 z)) := by
  subst hx hz
  have h2 : (w.setCell ⟨b, 1, none⟩ (.bool (!js.isEmpty))).cell? ⟨b, 2, none⟩ = some (.int .u8 (ks.getD 0 0)) := by rw [World.cell?_setCell_other _ _ _ _ (by simp)]; exact h.first
  have ho2 := ((Only.refl (fun d => d = b) w).setCell ⟨b, 1, none⟩ (fun _ => rfl) (.bool (!js.isEmpty))).setCell ⟨b, 2, none⟩ (fun _ => rfl) (.int .u8 (js.getD 0 0))
  refine ⟨⟨Nat.lt_of_lt_of_le h.lt ho2.size, ?_, ?_, ?_, by simpa using h.f1, by simpa using h.f2, hj, ho⟩, ho2⟩
  · rw [World.cell?_setCell_other _ _ _ _ (by simp), World.cell?_setCell_other _ _ _ _ (by simp)]; exact h.isOn
  · rw [World.cell?_setCell_other _ _ _ _ (by simp)]; exact World.cell?_setCell_same _ _ _ h.held
  · exact World.cell?_setCell_same _ _ _ h2

def SNewPost (on : Bool) (w : World) (e : Ending) (w' : World) : Prop :=
  ∃ b, e = .returned (.pointer (some ⟨b, 0, none⟩)) ∧ Sw w' b on [] ∧ w.heap.size ≤ b ∧ Below w.heap.size w w'
theorem snew_post (on : Bool) (w : World) (t : TypeId) : SNewPost on w (.returned (.pointer (some ⟨w.heap.size, 0, none⟩))) (w.alloc (.cells #[.bool on, .bool false, .int .u8 0] t)) := by
  have hb := heap_alloc_new w (.cells #[.bool on, .bool false, .int .u8 0] t)
  refine ⟨w.heap.size, rfl, ⟨by simp, ?_, ?_, ?_, frozen_of_row _ _ _ _ t hb, frozen_of_row _ _ _ _ t hb, by simp, fun _ => rfl⟩, Nat.le_refl _, (Below.refl _ _).alloc (Nat.le_refl _) _⟩
  · rw [cell_of_row _ _ _ _ t (0, 0) hb]; rfl
  · rw [cell_of_row _ _ _ _ t (0, 0) hb]; rfl
  · rw [cell_of_row _ _ _ _ t (0, 0) hb]; rfl

set_option maxHeartbeats 400000 in
theorem snew_any (on : Bool) (w : World) : Calls Try.prog 36 #[.bool on] w (SNewPost on w) := by
  go_enter Try.func36, Try.ntmps36
  go_wp2
  go_ret
  exact snew_post on w 72

def RelPost (b : Nat) (on : Bool) (a : Int) (w : World) (e : Ending) (w' : World) : Prop :=
  e = .returned (.int .u8 a) ∧ Sw w' b on [] ∧ Only (fun d => d = b) w w'
set_option maxHeartbeats 400000 in
theorem release_any (b : Nat) (on : Bool) (a : Int) (w : World) (h : Sw w b on [a]) : Calls Try.prog 58 #[.pointer (some ⟨b, 0, none⟩)] w (RelPost b on a w) := by
  have X := Lib.hid (h.stored (js := []) (by simp) (fun _ => rfl) false 0 rfl rfl)
  have c1 := h.held; have c2 := h.first; have f1 := h.f1; have f2 := h.f2
  simp only [List.isEmpty_cons, Bool.not_false, List.getD_cons_zero] at c1 c2
  clear h
  go_enter Try.func58, Try.ntmps58
  go_wp2
  go_ret
  exact ⟨rfl, X.out⟩

/-- Bytes of its own come out. -/
def SEndPost (b : Nat) (on : Bool) (ks : List Int) (w : World) (e : Ending) (w' : World) : Prop :=
  ∃ A m c, e = .returned (.slice A m c) ∧ Buf w' A m c ks ∧ (∀ g o s, A = some ⟨g, o, s⟩ → w.heap.size ≤ g) ∧ Sw w' b on [] ∧ Only (fun d => d = b) w w'

set_option maxHeartbeats 400000 in
theorem send_none (b : Nat) (on : Bool) (w : World) (h : Sw w b on []) : Calls Try.prog 48 #[.pointer (some ⟨b, 0, none⟩)] w (SEndPost b on [] w) := by
  have X := Lib.hid h
  have c1 := h.held
  simp only [List.isEmpty_nil, Bool.not_true] at c1
  clear h
  go_enter Try.func48, Try.ntmps48
  go_wp2
  go_ret
  exact ⟨none, 0, 0, rfl, Buf.nil _, (fun g o s he => by cases he), X.out, Only.refl _ _⟩

set_option maxHeartbeats 400000 in
theorem send_some (b : Nat) (on : Bool) (a : Int) (w : World) (h : Sw w b on [a]) : Calls Try.prog 48 #[.pointer (some ⟨b, 0, none⟩)] w (SEndPost b on [a] w) := by
  have X := Lib.hid h
  have c1 := h.held
  simp only [List.isEmpty_cons, Bool.not_false] at c1
  clear h
  go_enter Try.func48, Try.ntmps48
  go_wp2_with fail
  refine (release_any b on a w X.out).mono ?_
  rintro e w1 ⟨rfl, q1, q2⟩
  have Q1 := Lib.hid q1; have Q2 := Lib.hid q2
  clear q1 q2 c1
  go_wp2
  go_ret
  have hb := buf_new w1 [a] #[] 1 1 rfl (Nat.le_refl _) (by decide) rfl
  refine ⟨_, 1, 1, rfl, by simpa using hb, fun g o s he => ?_, Q1.out.on' ((Below.refl _ _).alloc (Nat.le_refl _) _), Q2.out.alloc _⟩
  injection he with he; injection he with he
  have := Q2.out.size
  omega

theorem send_any (b : Nat) (on : Bool) (ks : List Int) (w : World) (h : Sw w b on ks) : Calls Try.prog 48 #[.pointer (some ⟨b, 0, none⟩)] w (SEndPost b on ks w) := by
  match ks, h with
  | [], h => exact send_none b on w h
  | [a], h => exact send_some b on a w h
  | a :: b :: r, h => exact absurd h.one (by simp)

/-- The reference's, inside its Conv: its blocks S. -/
abbrev Rs (X : Nat → Option Value) (b : Nat) (on : Bool) (ks : List Int) (w : World) (S : Nat → Prop) : Prop := Fo 9 10 X w b S (.bool on) ks
theorem Rs.keeps (X : Nat → Option Value) (b : Nat) (on : Bool) (ks : List Int) : Keeps (Rs X b on ks) := ⟨fun h => Fo.lt h, fun h hk hS => Fo.only h hk hS⟩
def REndPost (X : Nat → Option Value) (b : Nat) (S : Nat → Prop) (on : Bool) (zs : List Int) (w : World) (e : Ending) (w' : World) : Prop :=
  ∃ A m c, e = .returned (.slice A m c) ∧ Buf w' A m c zs ∧ (∀ g o s, A = some ⟨g, o, s⟩ → S g ∧ g ≠ b) ∧ Rs X b on [] w' (fun d => d = b) ∧ Only (fun d => d = b) w w'

theorem rend_post {X : Nat → Option Value} {b : Nat} {S : Nat → Prop} {on : Bool} {zs : List Int} {w : World} {A : Option Addr} {n c : Nat} (h : Rs X b on zs w S) (c1 : w.cell? ⟨b, 10, none⟩ = some (.slice A n c)) (hb : Buf w A n c zs) (hA : ∀ g o s, A = some ⟨g, o, s⟩ → S g ∧ g ≠ b) :
    REndPost X b S on zs w (.returned (.slice A n c)) (w.setCell ⟨b, 10, none⟩ (.slice none 0 0)) := by
  have ho : Only (fun d => d = b) w (w.setCell ⟨b, 10, none⟩ (.slice none 0 0)) := (Only.refl (fun d => d = b) w).setCell ⟨b, 10, none⟩ (fun _ => rfl) _
  exact ⟨A, n, c, rfl, hb.only ho (fun g o s he => (hA g o s he).2), hA, Fo.stored (S := fun d => d = b) rfl (fun d hd => by subst hd; exact h.lt _ h.mine) h.tells h.ne h.rest h.frees c1 (Buf.nil w) (fun g o s he => by cases he), ho⟩

set_option maxHeartbeats 400000 in
theorem rend_any (X : Nat → Option Value) (b : Nat) (S : Nat → Prop) (on : Bool) (zs : List Int) (w : World) (h : Rs X b on zs w S) : Calls Try.prog 50 #[.pointer (some ⟨b, 9, none⟩)] w (REndPost X b S on zs w) := by
  obtain ⟨A, n, c, c1, hb, hA⟩ := h.held
  have XX := Lib.hid (rend_post h c1 hb hA)
  have hf := h.free
  clear hb hA h
  go_enter Try.func50, Try.ntmps50
  go_wp2
  go_ret
  exact XX.out

end Go.Proofs.Ytghihmmapignmaa
