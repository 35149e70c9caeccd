/- Contracts of letters, Lower, Upper, and of the reference's Lower and Upper. -/
import Derived.Test.YtghihmmapignmaaTabB
import Derived.WalkKit
import Derived.WalkSpells
import Derived.WalkLawsBesides
import Derived.Lib.Hide
namespace Go.Proofs.Ytghihmmapignmaa
open Go.RowKit

set_option maxRecDepth 100000 in
set_option maxHeartbeats 400000 in
theorem letters_any (f g : Nat) (w : World) (hf : f + 26 ≤ 256) (hg : g + 26 ≤ 256) : Calls Try.prog 53 #[.int .u8 f, .int .u8 g] w (TabPost (layL ids f g 26) w) := by
  have LI := Lib.hid len_ids
  have LL := Lib.hid ((len_layL ids f g 26).trans len_ids)
  have SA := same_any
  generalize ids = l at LI LL SA ⊢
  have LA := fun b w h => lay_any b f g 26 l w h LI.out hf hg
  generalize layL l f g 26 = m at LL LA ⊢
  go_enter Try.func53, Try.ntmps53
  go_wp2_with (refine st_alloc rfl rfl ?_)
  intro b0 w0 r0 k0 l0
  go_wp2_with fail
  refine (SA w0).mono ?_
  rintro e w1 ⟨rfl, k1⟩
  have R0 := Lib.hid (r0.on k1); have K1 := Lib.hid (k0.trans (k1.mono k0.size))
  clear r0 k0 k1
  go_wp2_with (refine st_alloc rfl rfl ?_)
  intro b1 w2 r1 k2 l2
  have hne : b0 ≠ b1 := by have := R0.out.lt; omega
  have hb1 : w.heap.size ≤ b1 := by have := K1.out.size; omega
  have R2 := Lib.hid (R0.out.on k2); have K2 := Lib.hid (K1.out.trans (k2.mono K1.out.size))
  clear R0 K1 k2
  go_wp2_with (refine st_store rfl _ _ rfl b1 rfl _ rfl _ r1 len_zeros LI.out ?_)
  intro w3 r3 o3
  have R3 := Lib.hid (R2.out.only o3 hne); have K3 := Lib.hid (K2.out.trans (o3.below K2.out.size (fun d hd => by rw [hd]; exact hb1)))
  clear R2 K2 o3 r1
  go_wp2_with fail
  refine (LA b1 w3 r3).mono ?_
  rintro e w4 ⟨v, rfl, r4, o4⟩
  have R4 := Lib.hid (R3.out.only o4 hne); have K4 := Lib.hid (K3.out.trans (o4.below K3.out.size (fun d hd => by rw [hd]; exact hb1)))
  clear R3 K3 o4 r3
  go_wp2_with (first | (refine st_load rfl _ rfl b1 rfl _ r4 LL.out ?_) | (refine st_store rfl _ _ rfl b0 rfl _ rfl _ R4.out len_zeros LL.out ?_))
  intro w5 r5 o5
  go_wp2
  exact res_tab rfl b0 rfl _ r5 LL.out rfl ⟨rfl, K4.out.trans (o5.below K4.out.size (fun d hd => by rw [hd]; exact l0))⟩

set_option maxRecDepth 100000 in
set_option maxHeartbeats 400000 in
theorem lower_any (w : World) : Calls Try.prog 25 #[] w (TabPost lower w) := by
  have L := Lib.hid len_lower
  have C : ∀ w, Calls Try.prog 53 #[.int .u8 65, .int .u8 97] w (TabPost lower w) := fun w => letters_any 65 97 w (by omega) (by omega)
  generalize lower = l at L C ⊢
  go_enter Try.func25, Try.ntmps25
  go_wp2_with (refine st_alloc rfl rfl ?_)
  intro b0 w0 r0 k0 l0
  go_wp2_with fail
  refine (C w0).mono ?_
  rintro e w1 ⟨rfl, k1⟩
  have R0 := Lib.hid (r0.on k1); have K1 := Lib.hid (k0.trans (k1.mono k0.size))
  clear r0 k0 k1
  go_wp2_with (refine st_store rfl _ _ rfl b0 rfl _ rfl _ R0.out len_zeros L.out ?_)
  intro w2 r2 o2
  go_wp2
  exact res_tab rfl b0 rfl _ r2 L.out rfl ⟨rfl, K1.out.trans (o2.below K1.out.size (fun d hd => by rw [hd]; exact l0))⟩

set_option maxRecDepth 100000 in
set_option maxHeartbeats 400000 in
theorem upper_any (w : World) : Calls Try.prog 24 #[] w (TabPost upper w) := by
  have L := Lib.hid len_upper
  have C : ∀ w, Calls Try.prog 53 #[.int .u8 97, .int .u8 65] w (TabPost upper w) := fun w => letters_any 97 65 w (by omega) (by omega)
  generalize upper = l at L C ⊢
  go_enter Try.func24, Try.ntmps24
  go_wp2_with (refine st_alloc rfl rfl ?_)
  intro b0 w0 r0 k0 l0
  go_wp2_with fail
  refine (C w0).mono ?_
  rintro e w1 ⟨rfl, k1⟩
  have R0 := Lib.hid (r0.on k1); have K1 := Lib.hid (k0.trans (k1.mono k0.size))
  clear r0 k0 k1
  go_wp2_with (refine st_store rfl _ _ rfl b0 rfl _ rfl _ R0.out len_zeros L.out ?_)
  intro w2 r2 o2
  go_wp2
  exact res_tab rfl b0 rfl _ r2 L.out rfl ⟨rfl, K1.out.trans (o2.below K1.out.size (fun d hd => by rw [hd]; exact l0))⟩

set_option maxRecDepth 100000 in
set_option maxHeartbeats 800000 in
theorem rlower_any (w : World) : Calls Try.prog 65 #[] w (TabPost lower w) := by
  have LI := Lib.hid len_ids
  have C := id_any
  have E := Lib.hid (show ∀ k, k = 26 → layL ids 65 97 k = lower from fun k hk => by rw [hk]; rfl)
  generalize ids = l at LI C E
  generalize lower = m at E ⊢
  go_enter Try.func65, Try.ntmps65
  go_wp2_with (refine st_alloc rfl rfl ?_)
  intro b0 w0 r0 k0 l0
  go_wp2_with fail
  refine (C w0).mono ?_
  rintro e w1 ⟨rfl, k1⟩
  have R0 := Lib.hid (r0.on k1); have K1 := Lib.hid (k0.trans (k1.mono k0.size))
  clear r0 k0 k1
  go_wp2_with (refine st_alloc rfl rfl ?_)
  intro b1 w2 r1 k2 l2
  have hne : b0 ≠ b1 := by have := R0.out.lt; omega
  have hb1 : w.heap.size ≤ b1 := by have := K1.out.size; omega
  have R2 := Lib.hid (R0.out.on k2); have K2 := Lib.hid (K1.out.trans (k2.mono K1.out.size))
  clear R0 K1 k2
  go_wp2_with (refine st_store rfl _ _ rfl b1 rfl _ rfl _ r1 len_zeros LI.out ?_)
  intro w3 r3 o3
  have R3 := Lib.hid (R2.out.only o3 hne); have K3 := Lib.hid (K2.out.trans (o3.below K2.out.size (fun d hd => by rw [hd]; exact hb1)))
  clear R2 K2 o3 r1
  go_wp2
  go_loopw [2] (fun i wr => ∃ k : Nat, k ≤ 26 ∧ i = .int .i64 k ∧ Hid (Row wr b0 50 (cs zeros)) ∧ Hid (Row wr b1 50 (cs (layL l 65 97 k))) ∧ Hid (Below w.heap.size w wr)) (fun i _ => 26 - (intOf i).toNat)
  case atStart => exact ⟨0, by omega, rfl, R3, r3, K3⟩
  case round =>
    clear R3 r3 K3
    obtain ⟨k, hk, rfl, R0, R1, K⟩ := hrel
    have L := Lib.hid ((len_layL l 65 97 k).trans LI.out)
    by_cases hlt : k < 26
    · have c1 := R1.out.cell (65 + k) (by rw [L.out]; omega)
      have f1 := R1.out.free (65 + k)
      have hi : ((65 : Int) + (k : Int)).toNat = 65 + k := by omega
      go_wp2
      go_roundw
      case rel =>
        refine ⟨k + 1, by omega, by go_num, R0.out.past b1 _ _ hne, ?_, K.out.setCell (by omega) _⟩
        have := R1.out.set (65 + k) ((97 : Int) + (k : Int))
        rw [layL, show (((97 + k) % 256 : Nat) : Int) = (97 : Int) + (k : Int) by omega]
        exact this
      case measure => simp [intOf]; omega
    · have E2 := Lib.hid (E.out k (by omega))
      generalize layL l 65 97 k = x at R1 L E2
      go_wp2_with (first | (refine st_load rfl _ rfl b1 rfl _ R1.out L.out ?_) | (refine st_store rfl _ _ rfl b0 rfl _ rfl _ R0.out len_zeros L.out ?_))
      intro w5 r5 o5
      go_wp2
      exact res_tab rfl b0 rfl _ r5 L.out rfl ⟨by rw [E2.out], K.out.trans (o5.below K.out.size (fun d hd => by rw [hd]; exact l0))⟩

set_option maxRecDepth 100000 in
set_option maxHeartbeats 800000 in
theorem rupper_any (w : World) : Calls Try.prog 66 #[] w (TabPost upper w) := by
  have LI := Lib.hid len_ids
  have C := id_any
  have E := Lib.hid (show ∀ k, k = 26 → layL ids 97 65 k = upper from fun k hk => by rw [hk]; rfl)
  generalize ids = l at LI C E
  generalize upper = m at E ⊢
  go_enter Try.func66, Try.ntmps66
  go_wp2_with (refine st_alloc rfl rfl ?_)
  intro b0 w0 r0 k0 l0
  go_wp2_with fail
  refine (C w0).mono ?_
  rintro e w1 ⟨rfl, k1⟩
  have R0 := Lib.hid (r0.on k1); have K1 := Lib.hid (k0.trans (k1.mono k0.size))
  clear r0 k0 k1
  go_wp2_with (refine st_alloc rfl rfl ?_)
  intro b1 w2 r1 k2 l2
  have hne : b0 ≠ b1 := by have := R0.out.lt; omega
  have hb1 : w.heap.size ≤ b1 := by have := K1.out.size; omega
  have R2 := Lib.hid (R0.out.on k2); have K2 := Lib.hid (K1.out.trans (k2.mono K1.out.size))
  clear R0 K1 k2
  go_wp2_with (refine st_store rfl _ _ rfl b1 rfl _ rfl _ r1 len_zeros LI.out ?_)
  intro w3 r3 o3
  have R3 := Lib.hid (R2.out.only o3 hne); have K3 := Lib.hid (K2.out.trans (o3.below K2.out.size (fun d hd => by rw [hd]; exact hb1)))
  clear R2 K2 o3 r1
  go_wp2
  go_loopw [2] (fun i wr => ∃ k : Nat, k ≤ 26 ∧ i = .int .i64 k ∧ Hid (Row wr b0 50 (cs zeros)) ∧ Hid (Row wr b1 50 (cs (layL l 97 65 k))) ∧ Hid (Below w.heap.size w wr)) (fun i _ => 26 - (intOf i).toNat)
  case atStart => exact ⟨0, by omega, rfl, R3, r3, K3⟩
  case round =>
    clear R3 r3 K3
    obtain ⟨k, hk, rfl, R0, R1, K⟩ := hrel
    have L := Lib.hid ((len_layL l 97 65 k).trans LI.out)
    by_cases hlt : k < 26
    · have c1 := R1.out.cell (97 + k) (by rw [L.out]; omega)
      have f1 := R1.out.free (97 + k)
      have hi : ((97 : Int) + (k : Int)).toNat = 97 + k := by omega
      go_wp2
      go_roundw
      case rel =>
        refine ⟨k + 1, by omega, by go_num, R0.out.past b1 _ _ hne, ?_, K.out.setCell (by omega) _⟩
        have := R1.out.set (97 + k) ((65 : Int) + (k : Int))
        rw [layL, show (((65 + k) % 256 : Nat) : Int) = (65 : Int) + (k : Int) by omega]
        exact this
      case measure => simp [intOf]; omega
    · have E2 := Lib.hid (E.out k (by omega))
      generalize layL l 97 65 k = x at R1 L E2
      go_wp2_with (first | (refine st_load rfl _ rfl b1 rfl _ R1.out L.out ?_) | (refine st_store rfl _ _ rfl b0 rfl _ rfl _ R0.out len_zeros L.out ?_))
      intro w5 r5 o5
      go_wp2
      exact res_tab rfl b0 rfl _ r5 L.out rfl ⟨by rw [E2.out], K.out.trans (o5.below K.out.size (fun d hd => by rw [hd]; exact l0))⟩

end Go.Proofs.Ytghihmmapignmaa
