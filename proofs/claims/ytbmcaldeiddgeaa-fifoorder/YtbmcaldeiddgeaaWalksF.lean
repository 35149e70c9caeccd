/- Rest, told by what is held; a byte stored; sums of texts. -/
import Derived.Test.YtbmcaldeiddgeaaWalksR
import Derived.Test.YtbmcaldeiddgeaaWalksD
import Derived.Laws.Concat
namespace Go.Proofs.Ytbmcaldeiddgeaa
open Go.RowKit

def RestAt (b : Nat) (k : Int) (A : Option Addr) (n c : Nat) (w : World) (e : Ending) (w' : World) : Prop :=
  e = .returned (.slice A n c) ∧ Fi w' b (fun d => d = b) k [] ∧ Only (fun d => d = b) w w'
theorem rest_got {b : Nat} {S : Nat → Prop} {k : Int} {zs : List Int} {w : World} {A : Option Addr} {n c : Nat} (h : Fi w b S k zs) (c1 : w.cell? ⟨b, 1, none⟩ = some (.slice A n c)) : RestAt b k A n c w (.returned (.slice A n c)) (w.setCell ⟨b, 1, none⟩ (.slice none 0 0)) :=
  ⟨rfl, Fi.stored (S := fun d => d = b) rfl (fun d hd => by subst hd; exact h.lt _ h.mine) h.size c1 h.free (Buf.nil w) (fun g o s he => by cases he), (Only.refl (fun d => d = b) w).setCell ⟨b, 1, none⟩ (fun _ => rfl) _⟩

set_option maxHeartbeats 400000 in
theorem rest_at (b : Nat) (S : Nat → Prop) (k : Int) (zs : List Int) (A : Option Addr) (n c : Nat) (w : World) (h : Fi w b S k zs) (c1 : w.cell? ⟨b, 1, none⟩ = some (.slice A n c)) : Calls Try.prog 11 #[.pointer (some ⟨b, 0, none⟩)] w (RestAt b k A n c w) := by
  have X := Lib.hid (rest_got h c1)
  have hf := h.free
  clear h
  go_enter Try.func11, Try.ntmps11
  go_wp2
  go_ret
  exact X.out
set_option maxHeartbeats 400000 in
theorem rrest_at (b : Nat) (S : Nat → Prop) (k : Int) (zs : List Int) (A : Option Addr) (n c : Nat) (w : World) (h : Fi w b S k zs) (c1 : w.cell? ⟨b, 1, none⟩ = some (.slice A n c)) : Calls Try.prog 16 #[.pointer (some ⟨b, 0, none⟩)] w (RestAt b k A n c w) := by
  have X := Lib.hid (rest_got h c1)
  have hf := h.free
  clear h
  go_enter Try.func16, Try.ntmps16
  go_wp2
  go_ret
  exact X.out

/-- A byte of it stored. -/
theorem Buf.set {w : World} {g o n c : Nat} {zs : List Int} (h : Buf w (some ⟨g, o, none⟩) n c zs) (j : Nat) (hj : j < n) (z : Int) : Buf (w.setCell ⟨g, o + j, none⟩ (.int .u8 z)) (some ⟨g, o, none⟩) n c (zs.set j z) := by
  obtain ⟨h1, h2, h3, ⟨h4, _⟩ | ⟨g', o', he, hl, hs, hf, hc⟩⟩ := h
  · cases h4
  · injection he with he
    injection he with e1 e2
    subst e1 e2
    have hsame : (w.setCell ⟨g, o + j, none⟩ (.int .u8 z)).cell? ⟨g, o + j, none⟩ = some (.int .u8 z) := World.cell?_setCell_same _ _ _ (hc j hj)
    have hother : ∀ k, k ≠ j → (w.setCell ⟨g, o + j, none⟩ (.int .u8 z)).cell? ⟨g, o + k, none⟩ = w.cell? ⟨g, o + k, none⟩ := fun k hk => World.cell?_setCell_other _ _ _ _ (by intro h; injection h with _ h; omega)
    refine ⟨by simp [h1], h2, h3, .inr ⟨g, o, rfl, by simpa [World.setCell] using hl, fun k hk => ?_, fun k hk => by simpa using hf k hk, fun k hk => ?_⟩⟩
    · by_cases hkj : k = j
      · subst hkj; rw [hsame]; rfl
      · rw [hother k hkj]; exact hs k hk
    · by_cases hkj : k = j
      · subst hkj; rw [hsame]; simp [List.getD_eq_getElem?_getD, h1, hk]
      · rw [hother k hkj, hc k hk]; simp [List.getD_eq_getElem?_getD, Ne.symm hkj]

theorem Mine.on2 {W w w' : World} {b : Nat} {S T : Nat → Prop} {k : Int} {zs : List Int} (h : Mine W w b S k zs) (o : Only T w w') (hn : ∀ d, T d → ¬ S d) (hT : ∀ d, T d → W.heap.size ≤ d) : Mine W w' b S k zs :=
  ⟨h.fi.only o (fun d hd ht => hn d ht hd), h.new, h.below.trans (o.below h.below.size hT)⟩

theorem str_append (a b : List Int) : strOfNums a ++ strOfNums b = strOfNums (a ++ b) := by
  apply ByteArray.ext
  simp [strOfNums, ByteArray.data_append]
theorem str_size (a : List Int) : (strOfNums a).size = a.length := by simp [strOfNums, ByteArray.size]
theorem str_add (a b c : List Int) (h : a ++ b = c) (hl : c.length ≤ 1000000) (w : World) : (Op.stringOp .add (strOfNums a) (strOfNums b)).run Try.prog w = .ok (.string (strOfNums c)) w := by
  rw [run_string_add_sum w _ _ (by rw [str_size, str_size]; have : c.length = a.length + b.length := by rw [← h]; simp
                                   omega), str_append, h]

end Go.Proofs.Ytbmcaldeiddgeaa
