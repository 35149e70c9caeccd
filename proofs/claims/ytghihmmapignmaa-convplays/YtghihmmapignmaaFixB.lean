/- Contracts of fixed's New, Cbs, Held, Cut, begin, of bytes.IndexByte. -/
import Derived.Test.YtghihmmapignmaaFixA
import Derived.WalkKit
import Derived.WalkSpells
import Derived.WalkLawsBesides
import Derived.Lib.Hide
import Derived.BigQuiet
import Derived.StillTailTactics
import Derived.Deep.RegionLaw
import Derived.Lib.BytesEntry
import Derived.Laws.Externs
import Derived.Handy
namespace Go.Proofs.Ytghihmmapignmaa
open Go.RowKit

def RecPost (s : Int) (w : World) (e : Ending) (w' : World) : Prop :=
  e = .returned (.agg #[.int .i64 (kOf s : Nat), .int .i64 0, .slice none 0 0]) ∧ Below w.heap.size w w'
set_option maxHeartbeats 400000 in
theorem newrec_any (s : Int) (w : World) (h1 : -9223372036854775808 ≤ s) (h2 : s ≤ 9223372036854775807) : Calls Try.prog 56 #[.int .i64 s] w (RecPost s w) := by
  go_enter Try.func56, Try.ntmps56
  by_cases ha : s < 1
  · have hb : ¬ 1 < s := by omega
    have hk := Lib.hid (show (1 : Int) = (kOf s : Nat) by simp [kOf, ha])
    go_wp2
    go_returns
    exact ⟨by rw [← hk.out], (Below.refl _ _).alloc (Nat.le_refl _) _⟩
  · by_cases hc : 4096 < s
    · have hk := Lib.hid (show (4096 : Int) = (kOf s : Nat) by simp [kOf, ha, hc])
      have hd : 1 < s := by omega
      have he : ¬ s < 4096 := by omega
      go_wp2
      go_returns
      exact ⟨by rw [← hk.out], (Below.refl _ _).alloc (Nat.le_refl _) _⟩
    · have hk := Lib.hid (show s = (kOf s : Nat) by rw [kOf, if_neg ha, if_neg hc]; omega)
      have hd : 1 ≤ s := by omega
      have he : s ≤ 4096 := by omega
      go_wp2
      go_returns
      exact ⟨by rw [← hk.out], (Below.refl _ _).alloc (Nat.le_refl _) _⟩

def NewPost (s : Int) (x : Option Value) (w : World) (e : Ending) (w' : World) : Prop :=
  ∃ b, e = .returned (.pointer (some ⟨b, 0, none⟩)) ∧ Rc b (kOf s) [] x w' (fun d => d = b) ∧ w.heap.size ≤ b ∧ Below w.heap.size w w'
theorem new_post (s : Int) (w w1 : World) (x : Option Value) (arr : Array Value) (t : TypeId) (k : Below w.heap.size w w1) (h0 : arr[0]? = some (.int .i64 (kOf s : Nat))) (h1 : arr[1]? = some (.int .i64 0)) (h2 : arr[2]? = some (.slice none 0 0)) (h3 : arr[3]? = x) :
    NewPost s x w (.returned (.pointer (some ⟨w1.heap.size, 0, none⟩))) (w1.alloc (.cells arr t)) := by
  have hb := heap_alloc_new w1 (.cells arr t)
  refine ⟨w1.heap.size, rfl, ⟨rfl, fun d hd => by subst hd; simp, kOf_pos s, ?_, ?_, ⟨none, 0, 0, ?_, by simpa using Buf.nil _, fun g o s he => by cases he⟩, ?_, frozen_of_row _ _ _ _ t hb, frozen_of_row _ _ _ _ t hb, frozen_of_row _ _ _ _ t hb⟩, k.size, k.alloc k.size _⟩
  · rw [cell_of_row _ _ _ _ t (0, 0) hb, h0]
  · rw [cell_of_row _ _ _ _ t (0, 0) hb, h1]; rfl
  · rw [cell_of_row _ _ _ _ t (0, 0) hb, h2]
  · rw [cell_of_row _ _ _ _ t (0, 0) hb, h3]

set_option maxHeartbeats 400000 in
theorem newp_any (s : Int) (w : World) (h1 : -9223372036854775808 ≤ s) (h2 : s ≤ 9223372036854775807) : Calls Try.prog 39 #[.int .i64 s] w (NewPost s (some (.int .i64 0)) w) := by
  go_enter Try.func39, Try.ntmps39
  go_wp2_with fail
  refine (newrec_any s w h1 h2).mono ?_
  rintro e w1 ⟨rfl, k1⟩
  have K1 := Lib.hid k1
  clear k1
  go_wp2
  go_ret
  exact new_post s w w1 _ _ _ K1.out rfl rfl rfl rfl
set_option maxHeartbeats 400000 in
theorem newu_any (s : Int) (w : World) (h1 : -9223372036854775808 ≤ s) (h2 : s ≤ 9223372036854775807) : Calls Try.prog 40 #[.int .i64 s] w (NewPost s none w) := by
  go_enter Try.func40, Try.ntmps40
  go_wp2_with fail
  refine (newrec_any s w h1 h2).mono ?_
  rintro e w1 ⟨rfl, k1⟩
  have K1 := Lib.hid k1
  clear k1
  go_wp2
  go_ret
  exact new_post s w w1 _ _ _ K1.out rfl rfl rfl rfl

set_option maxHeartbeats 400000 in
theorem cut_any {b K : Nat} {l : List Int} {v : Value} {S : Nat → Prop} (w : World) (h : Rc b K l (some v) w S) : Calls Try.prog 47 #[.pointer (some ⟨b, 0, none⟩)] w fun e w' => e = .returned v ∧ w = w' := by
  have c1 := h.cut
  clear h
  go_enter Try.func47, Try.ntmps47
  go_wp2
  go_ret
  exact ⟨rfl, by simp⟩

theorem index_none (x : Addr) (c : Nat) (w : World) (cv : Int) : (Extern.BytealgIndexByte.indexByte #[.slice (some x) 0 c, .int .u8 cv]).run Try.prog w = .ok (.int .i64 (-1)) w := by
  have hs := Lib.run_indexByteString (P := Try.prog) .empty cv w
  exact hs
theorem index_run (A : Option Addr) (n c : Nat) (zs : List Int) (w : World) (h : Bytes w A n c zs) : (Extern.BytealgIndexByte.indexByte #[.slice A n c, .int .u8 10]).run Try.prog w = .ok (.int .i64 (Lib.indexByte (Lib.bytesOf zs) 10)) w := by
  rcases Nat.eq_zero_or_pos n with h0 | h0
  · subst h0
    have hz : zs = [] := List.eq_nil_of_length_eq_zero h.1
    subst hz
    cases A with
    | none => exact Lib.run_indexByteNil w 0 c 10
    | some x => exact index_none x c w 10
  · obtain ⟨b, o, rfl, _, hc⟩ := h.2.2.2 h0
    exact Lib.run_indexByteSlice w b o n c zs h.1 hc 10
set_option maxHeartbeats 1000000 in
set_option maxRecDepth 100000 in
theorem index_any (A : Option Addr) (n c : Nat) (zs : List Int) (w : World) (h : Bytes w A n c zs) (i : Int) (hi : Lib.indexByte (Lib.bytesOf zs) 10 = i) : Calls Try.prog 81 #[.slice A n c, .int .u8 10] w fun e w' => e = .returned (.int .i64 i) ∧ w = w' := by
  have H := index_run A n c zs w h
  rw [hi] at H
  clear h hi
  go_enter Try.func81, Try.ntmps81
  go_wp2
  rw [run_callFunc_extern Try.func84 (by kernel_rfl) (by kernel_rfl) (by kernel_rfl) (e := Extern.BytealgIndexByte.indexByte) (by kernel_rfl), H]
  simp only [Result.andThen]
  rw [Oper.upon_value]
  go_wp2
  go_ret
  exact ⟨rfl, by simp⟩

/-- The object is told anew. -/
def Puts (P : World → (Nat → Prop) → Prop) (S : Nat → Prop) (w : World) (e : Ending) (w' : World) : Prop :=
  ∃ v S', e = .returned v ∧ P w' S' ∧ Only S w w' ∧ ∀ d, S' d → S d ∨ w.heap.size ≤ d

def BeginPost (b K : Nat) (x : Option Value) (S : Nat → Prop) (w : World) (e : Ending) (w' : World) : Prop := ∃ v, e = .returned v ∧ Rc b K [] x w' S ∧ Only (fun d => d = b) w w'
theorem begin_post {b K : Nat} {l : List Int} {x : Option Value} {S : Nat → Prop} {w : World} {A : Option Addr} {n c : Nat} (h : Rc b K l x w S) (hB : Buf w A n c (l.take K)) (hA : ∀ g o s, A = some ⟨g, o, s⟩ → S g ∧ g ≠ b) (W : World) (hW : Below w.heap.size w W ∧ W.heap.size = w.heap.size) :
    Rc b K [] x ((W.setCell ⟨b, 1, none⟩ (.int .i64 0)).setCell ⟨b, 2, none⟩ (.slice A 0 c)) S ∧ Only (fun d => d = b) w ((W.setCell ⟨b, 1, none⟩ (.int .i64 0)).setCell ⟨b, 2, none⟩ (.slice A 0 c)) := by
  have h2 := (Rx.on h hW.1).setHeld 0
  have hB2 := ((hB.firsts 0 (Nat.zero_le _)).on hW.1).only h2.2 (fun g o s he => (hA g o s he).2)
  rw [show List.take 0 (l.take K) = ([] : List Int).take K by simp] at hB2
  have h3 := h2.1.setKept h2.1.mine h2.1.lt hB2 hA
  exact ⟨h3.1, (Only.of_below hW.1).trans (T := fun d => d = b) (h2.2.trans h3.2 (fun d h _ => h)) (fun d h _ => h)⟩

set_option maxHeartbeats 1000000 in
theorem begin_any (b K : Nat) (l : List Int) (x : Option Value) (S : Nat → Prop) (w : World) (h : Rc b K l x w S) : Calls Try.prog 83 #[.pointer (some ⟨b, 0, none⟩)] w (BeginPost b K x S w) := by
  obtain ⟨A, n, c, c2, hB, hA⟩ := h.kept
  have X := Lib.hid (begin_post h hB hA w.drew ⟨(Below.refl _ _).drew, rfl⟩)
  have c1 := h.held; have f1 := h.f1; have f2 := h.f2
  have hnc := hB.2.1
  have hcm : c ≤ 9223372036854775807 := by have := hB.2.2.1; unfold maxLen at this; omega
  have hN := hB.bytes.2
  clear hB hA h
  go_enter Try.func83, Try.ntmps83
  cases A with
  | none =>
    obtain ⟨rfl, rfl⟩ := hN rfl
    go_wp2
    go_region
    all_goals
      go_wp2
      go_end0
      exact ⟨_, rfl, X.out⟩
  | some a =>
    go_wp2
    go_region
    all_goals
      go_wp2
      go_end0
      exact ⟨_, rfl, X.out⟩

end Go.Proofs.Ytghihmmapignmaa
