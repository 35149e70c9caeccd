/- Contracts of fifo.New, Len, Rest and of the reference's. -/
import Derived.Test.YtbmcaldeiddgeaaRead
import Derived.WalkKit
import Derived.WalkSpells
import Derived.WalkLawsBesides
import Derived.Lib.Hide
namespace Go.Proofs.Ytbmcaldeiddgeaa
open Go.RowKit

/-- How long blocks are. -/
def sizeOfBlocks (s : Int) : Nat := if s < 1 then 1 else if 4096 < s then 4096 else s.toNat
theorem blocks_pos (s : Int) : 1 ≤ sizeOfBlocks s ∧ sizeOfBlocks s ≤ 4096 := by unfold sizeOfBlocks; split <;> (try split) <;> omega

theorem Fi.new (w : World) (k : Int) (t : TypeId) (o : Nat) (ho : o = w.heap.size) : Fi (w.alloc (.cells #[.int .i64 k, .slice none 0 0] t)) o (fun d => d = o) k [] := by
  subst ho
  have hb := heap_alloc_new w (.cells #[.int .i64 k, .slice none 0 0] t)
  refine ⟨rfl, fun d hd => by subst hd; simp, ?_, frozen_of_row _ _ _ _ t hb, none, 0, 0, ?_, Buf.nil _, fun g o s he => by cases he⟩
  · rw [cell_of_row _ _ _ _ t (0, 0) hb]; rfl
  · rw [cell_of_row _ _ _ _ t (0, 0) hb]; rfl

def NewPost (s : Int) (w : World) (e : Ending) (w' : World) : Prop :=
  ∃ b S, e = .returned (.pointer (some ⟨b, 0, none⟩)) ∧ Fi w' b S (sizeOfBlocks s : Nat) [] ∧ (∀ d, S d → w.heap.size ≤ d) ∧ Below w.heap.size w w'

theorem new_post (s : Int) (w : World) (k : Int) (t : TypeId) (hk : k = (sizeOfBlocks s : Nat)) : NewPost s w (.returned (.pointer (some ⟨w.heap.size, 0, none⟩))) (w.alloc (.cells #[.int .i64 k, .slice none 0 0] t)) := by
  subst hk
  exact ⟨w.heap.size, fun d => d = w.heap.size, rfl, Fi.new w _ t _ rfl, fun d hd => by omega, (Below.refl _ _).alloc (Nat.le_refl _) _⟩

set_option maxHeartbeats 400000 in
theorem new_any (s : Int) (w : World) (h1 : -9223372036854775808 ≤ s) (h2 : s ≤ 9223372036854775807) : Calls Try.prog 7 #[.int .i64 s] w (NewPost s w) := by
  go_enter Try.func7, Try.ntmps7
  by_cases ha : s < 1
  · have hb : ¬ 1 < s := by omega
    have hk := Lib.hid (show (1 : Int) = (sizeOfBlocks s : Nat) by simp [sizeOfBlocks, ha])
    go_wp2
    go_ret
    exact new_post s w _ 43 hk.out
  · by_cases hc : 4096 < s
    · have hk := Lib.hid (show (4096 : Int) = (sizeOfBlocks s : Nat) by simp [sizeOfBlocks, ha, hc])
      have hd : 1 < s := by omega
      have he : ¬ s < 4096 := by omega
      go_wp2
      go_ret
      exact new_post s w _ 43 hk.out
    · have hk := Lib.hid (show s = (sizeOfBlocks s : Nat) by rw [sizeOfBlocks, if_neg ha, if_neg hc]; omega)
      have hd : 1 ≤ s := by omega
      have he : s ≤ 4096 := by omega
      go_wp2
      go_ret
      exact new_post s w _ 43 hk.out

set_option maxHeartbeats 400000 in
theorem rnew_any (s : Int) (w : World) (h1 : -9223372036854775808 ≤ s) (h2 : s ≤ 9223372036854775807) : Calls Try.prog 13 #[.int .i64 s] w (NewPost s w) := by
  go_enter Try.func13, Try.ntmps13
  by_cases ha : s < 1
  · have hb : ¬ 1 < s := by omega
    have hk := Lib.hid (show (1 : Int) = (sizeOfBlocks s : Nat) by simp [sizeOfBlocks, ha])
    go_wp2
    go_ret
    exact new_post s w _ 39 hk.out
  · by_cases hc : 4096 < s
    · have hk := Lib.hid (show (4096 : Int) = (sizeOfBlocks s : Nat) by simp [sizeOfBlocks, ha, hc])
      have hd : 1 < s := by omega
      have he : ¬ s < 4096 := by omega
      go_wp2
      go_ret
      exact new_post s w _ 39 hk.out
    · have hk := Lib.hid (show s = (sizeOfBlocks s : Nat) by rw [sizeOfBlocks, if_neg ha, if_neg hc]; omega)
      have hd : 1 ≤ s := by omega
      have he : s ≤ 4096 := by omega
      go_wp2
      go_ret
      exact new_post s w _ 39 hk.out

set_option maxHeartbeats 400000 in
theorem len_any (b : Nat) (S : Nat → Prop) (k : Int) (zs : List Int) (w : World) (h : Fi w b S k zs) :
    Calls Try.prog 10 #[.pointer (some ⟨b, 0, none⟩)] w fun e w' => e = .returned (.int .i64 (zs.length : Nat)) ∧ w = w' := by
  obtain ⟨A, n, c, c1, hb, _⟩ := h.held
  have hl := Lib.hid hb.1
  clear hb h
  go_enter Try.func10, Try.ntmps10
  go_wp2
  go_ret
  exact ⟨by rw [hl.out]; rfl, by simp⟩

def RestPost (b : Nat) (S : Nat → Prop) (k : Int) (zs : List Int) (w : World) (e : Ending) (w' : World) : Prop :=
  ∃ A c, e = .returned (.slice A zs.length c) ∧ Bytes w' A zs.length c zs ∧ (A = none → zs.length = 0 ∧ c = 0) ∧ (∀ g o s, A = some ⟨g, o, s⟩ → S g ∧ g ≠ b) ∧ Fi w' b (fun d => d = b) k [] ∧ Only (fun d => d = b) w w'

theorem rest_post {b : Nat} {S : Nat → Prop} {k : Int} {zs : List Int} {w : World} {A : Option Addr} {n c : Nat} (h : Fi w b S k zs) (c1 : w.cell? ⟨b, 1, none⟩ = some (.slice A n c)) (hb : Buf w A n c zs) (hA : ∀ g o s, A = some ⟨g, o, s⟩ → S g ∧ g ≠ b) :
    RestPost b S k zs w (.returned (.slice A n c)) (w.setCell ⟨b, 1, none⟩ (.slice none 0 0)) := by
  have ho : Only (fun d => d = b) w (w.setCell ⟨b, 1, none⟩ (.slice none 0 0)) := (Only.refl (fun d => d = b) w).setCell ⟨b, 1, none⟩ (fun _ => rfl) _
  have h1 := hb.1
  subst h1
  have hB := (hb.only ho (fun g o s he => (hA g o s he).2)).bytes
  exact ⟨A, c, rfl, hB.1, hB.2, hA, Fi.stored (S := fun d => d = b) rfl (fun d hd => by subst hd; exact h.lt _ h.mine) h.size c1 h.free (Buf.nil w) (fun g o s he => by cases he), ho⟩

set_option maxHeartbeats 400000 in
theorem rest_any (b : Nat) (S : Nat → Prop) (k : Int) (zs : List Int) (w : World) (h : Fi w b S k zs) : Calls Try.prog 11 #[.pointer (some ⟨b, 0, none⟩)] w (RestPost b S k zs w) := by
  obtain ⟨A, n, c, c1, hb, hA⟩ := h.held
  have X := Lib.hid (rest_post h c1 hb hA)
  have hf := h.free
  clear hb hA h
  go_enter Try.func11, Try.ntmps11
  go_wp2
  go_ret
  exact X.out
set_option maxHeartbeats 400000 in
theorem rrest_any (b : Nat) (S : Nat → Prop) (k : Int) (zs : List Int) (w : World) (h : Fi w b S k zs) : Calls Try.prog 16 #[.pointer (some ⟨b, 0, none⟩)] w (RestPost b S k zs w) := by
  obtain ⟨A, n, c, c1, hb, hA⟩ := h.held
  have X := Lib.hid (rest_post h c1 hb hA)
  have hf := h.free
  clear hb hA h
  go_enter Try.func16, Try.ntmps16
  go_wp2
  go_ret
  exact X.out

end Go.Proofs.Ytbmcaldeiddgeaa
