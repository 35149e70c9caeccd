/- Contracts of same and of the reference's Id. -/
import Derived.Test.YtghihmmapignmaaTabs
import Derived.WalkKit
import Derived.WalkSpells
import Derived.WalkLawsBesides
import Derived.Lib.Hide
namespace Go.Proofs.Ytghihmmapignmaa
open Go.RowKit

/-- A table comes back; what was there is as it was. -/
def TabPost (l : List Int) (w : World) (e : Ending) (w' : World) : Prop := e = .returned (tv l) ∧ Below w.heap.size w w'

theorem Row.at {w : World} {b : Nat} {t : TypeId} {c : Array Value} (h : Row w b t c) (k : Nat) : w.cell? ⟨b, k, none⟩ = c[k]? := cell_of_row w b k c t (0, 0) h
theorem len_zeros : zeros.length = 256 := List.length_replicate
theorem len_nos : nos.length = 256 := List.length_replicate
theorem len_idTo : ∀ k, (idTo k).length = 256
  | 0 => len_zeros
  | k + 1 => by rw [idTo, List.length_set]; exact len_idTo k

set_option maxRecDepth 100000 in
set_option maxHeartbeats 400000 in
theorem same_any (w : World) : Calls Try.prog 55 #[] w (TabPost ids w) := by
  go_enter Try.func55, Try.ntmps55
  go_wp2_with (refine st_alloc rfl rfl ?_)
  intro b0 w0 r0 k0 l0
  go_wp2_with (refine st_alloc rfl rfl ?_)
  intro b1 w1 r1 k1 l1
  have R0 := Lib.hid (r0.on k1); have K := Lib.hid (k0.trans (k1.mono k0.size))
  have hne : b0 ≠ b1 := by have := r0.lt; omega
  have h1 : w.heap.size ≤ b1 := by have := k0.size; omega
  clear r0 k0 k1
  go_wp2
  go_loopw [3] (fun i wr => ∃ k : Nat, k ≤ 256 ∧ i = .int .i64 k ∧ Hid (Row wr b0 50 (cs zeros)) ∧ Hid (Row wr b1 50 (cs (idTo k))) ∧ Hid (Below w.heap.size w wr)) (fun i _ => 256 - (intOf i).toNat)
  case atStart => exact ⟨0, by omega, rfl, R0, r1, K⟩
  case round =>
    clear R0 r1 K
    obtain ⟨k, hk, rfl, R0, R1, K⟩ := hrel
    have L := Lib.hid (len_idTo k)
    by_cases hlt : k < 256
    · have c1 := R1.out.cell k (by rw [L.out]; exact hlt)
      have f1 := R1.out.free k
      have hw : IntKind.u8.wrap (k : Int) = k := IntWalk.u8_in _ (by omega)
      go_wp2
      go_roundw
      case rel => exact ⟨k + 1, by omega, by go_num, R0.out.past b1 k _ hne, R1.out.set k _, K.out.setCell (by omega) _⟩
      case measure => simp [intOf]; omega
    · have E := Lib.hid (show idTo k = ids by rw [show k = 256 by omega]; rfl)
      generalize idTo k = l at R1 L E
      go_wp2_with (first | (refine st_load rfl _ rfl b1 rfl _ R1.out L.out ?_) | (refine st_store rfl _ _ rfl b0 rfl _ rfl _ R0.out len_zeros L.out ?_))
      intro w2 r2 o2
      go_wp2
      exact res_tab rfl b0 rfl _ r2 L.out rfl ⟨by rw [E.out], K.out.trans (o2.below K.out.size (fun d hd => by rw [hd]; omega))⟩

set_option maxRecDepth 100000 in
set_option maxHeartbeats 400000 in
theorem id_any (w : World) : Calls Try.prog 78 #[] w (TabPost ids w) := by
  go_enter Try.func78, Try.ntmps78
  go_wp2_with (refine st_alloc rfl rfl ?_)
  intro b0 w0 r0 k0 l0
  go_wp2_with (refine st_alloc rfl rfl ?_)
  intro b1 w1 r1 k1 l1
  have R0 := Lib.hid (r0.on k1); have K := Lib.hid (k0.trans (k1.mono k0.size))
  have hne : b0 ≠ b1 := by have := r0.lt; omega
  have h1 : w.heap.size ≤ b1 := by have := k0.size; omega
  clear r0 k0 k1
  go_wp2
  go_loopw [2] (fun i wr => ∃ k : Nat, k ≤ 256 ∧ i = .int .i64 k ∧ Hid (Row wr b0 50 (cs zeros)) ∧ Hid (Row wr b1 50 (cs (idTo k))) ∧ Hid (Below w.heap.size w wr)) (fun i _ => 256 - (intOf i).toNat)
  case atStart => exact ⟨0, by omega, rfl, R0, r1, K⟩
  case round =>
    clear R0 r1 K
    obtain ⟨k, hk, rfl, R0, R1, K⟩ := hrel
    have L := Lib.hid (len_idTo k)
    by_cases hlt : k < 256
    · have c1 := R1.out.cell k (by rw [L.out]; exact hlt)
      have f1 := R1.out.free k
      have hw : IntKind.u8.wrap (k : Int) = k := IntWalk.u8_in _ (by omega)
      go_wp2
      go_roundw
      case rel => exact ⟨k + 1, by omega, by go_num, R0.out.past b1 k _ hne, R1.out.set k _, K.out.setCell (by omega) _⟩
      case measure => simp [intOf]; omega
    · have E := Lib.hid (show idTo k = ids by rw [show k = 256 by omega]; rfl)
      generalize idTo k = l at R1 L E
      go_wp2_with (first | (refine st_load rfl _ rfl b1 rfl _ R1.out L.out ?_) | (refine st_store rfl _ _ rfl b0 rfl _ rfl _ R0.out len_zeros L.out ?_))
      intro w2 r2 o2
      go_wp2
      exact res_tab rfl b0 rfl _ r2 L.out rfl ⟨by rw [E.out], K.out.trans (o2.below K.out.size (fun d hd => by rw [hd]; omega))⟩

end Go.Proofs.Ytghihmmapignmaa
