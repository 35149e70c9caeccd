/- Contracts of Ebcdic, Ibm, Ascii. -/
import Derived.Test.YtghihmmapignmaaTabF
import Derived.WalkKit
import Derived.WalkSpells
import Derived.WalkLawsBesides
import Derived.Lib.Hide
namespace Go.Proofs.Ytghihmmapignmaa
open Go.RowKit

theorem rows_fit (i : Bool) : ∀ j, j < 44 → ((rowsOf (cOf i) (tOf i)).getD j (0, 0, 0)).1 + ((rowsOf (cOf i) (tOf i)).getD j (0, 0, 0)).2.2 ≤ 256 ∧ ((rowsOf (cOf i) (tOf i)).getD j (0, 0, 0)).2.1 + ((rowsOf (cOf i) (tOf i)).getD j (0, 0, 0)).2.2 ≤ 256 := by
  cases i <;> decide +kernel

theorem whole_any (i : Bool) (w : World) : Calls Try.prog 54 #[.int .u8 (cOf i : Nat), .int .u8 (tOf i : Nat)] w (TabPost (tbL i) w) := by
  have h := whole_gen (cOf i) (tOf i) (stI i) (rowsOf (cOf i) (tOf i)) w 256 rfl rfl rfl (fun j _ => rfl) (rows_fit i) ?_ (fun w => named_any _ _ w)
  · rw [st_t, st_g, st_k, fill_all] at h
    exact h
  · intro n hn hg
    rw [st_g] at hg ⊢
    rw [st_k, nx_all i n (by omega)]
    exact nx_lt i n hn hg

set_option maxRecDepth 100000 in
set_option maxHeartbeats 400000 in
theorem ebcdic_any (w : World) : Calls Try.prog 26 #[] w (TabPost tbE w) := by
  have L := Lib.hid (len_tb false)
  have C := Lib.hid (show ∀ w, Calls Try.prog 54 #[.int .u8 154, .int .u8 95] w (TabPost (tbL false) w) from fun w => whole_any false w)
  show Calls Try.prog 26 #[] w (TabPost (tbL false) w)
  generalize tbL false = l at L C ⊢
  go_enter Try.func26, Try.ntmps26
  go_wp2_with (refine st_alloc rfl rfl ?_)
  intro b0 w0 r0 k0 l0
  go_wp2_with fail
  refine (C.out w0).mono ?_
  rintro e w1 ⟨rfl, k1⟩
  have R0 := Lib.hid (r0.on k1); have K1 := Lib.hid (k0.trans (k1.mono k0.size))
  clear r0 k0 k1
  go_wp2_with (refine st_store rfl _ _ rfl b0 rfl _ rfl _ R0.out len_zeros L.out ?_)
  intro w2 r2 o2
  go_wp2
  exact res_tab rfl b0 rfl _ r2 L.out rfl ⟨rfl, K1.out.trans (o2.below K1.out.size (fun d hd => by rw [hd]; exact l0))⟩

set_option maxRecDepth 100000 in
set_option maxHeartbeats 400000 in
theorem ibm_any (w : World) : Calls Try.prog 27 #[] w (TabPost tbI w) := by
  have L := Lib.hid (len_tb true)
  have C := Lib.hid (show ∀ w, Calls Try.prog 54 #[.int .u8 95, .int .u8 161] w (TabPost (tbL true) w) from fun w => whole_any true w)
  show Calls Try.prog 27 #[] w (TabPost (tbL true) w)
  generalize tbL true = l at L C ⊢
  go_enter Try.func27, Try.ntmps27
  go_wp2_with (refine st_alloc rfl rfl ?_)
  intro b0 w0 r0 k0 l0
  go_wp2_with fail
  refine (C.out w0).mono ?_
  rintro e w1 ⟨rfl, k1⟩
  have R0 := Lib.hid (r0.on k1); have K1 := Lib.hid (k0.trans (k1.mono k0.size))
  clear r0 k0 k1
  go_wp2_with (refine st_store rfl _ _ rfl b0 rfl _ rfl _ R0.out len_zeros L.out ?_)
  intro w2 r2 o2
  go_wp2
  exact res_tab rfl b0 rfl _ r2 L.out rfl ⟨rfl, K1.out.trans (o2.below K1.out.size (fun d hd => by rw [hd]; exact l0))⟩

theorem len_backTo (e : List Int) : ∀ k, (backTo e k).length = 256
  | 0 => len_zeros
  | k + 1 => by rw [backTo, List.length_set]; exact len_backTo e k
theorem in_tbE : ∀ k < 256, 0 ≤ tbE.getD k 0 ∧ tbE.getD k 0 < 256 := by decide +kernel

set_option maxRecDepth 100000 in
set_option maxHeartbeats 400000 in
theorem ascii_any (w : World) : Calls Try.prog 29 #[] w (TabPost tbA w) := by
  have L := Lib.hid (show tbE.length = 256 from len_tb false)
  have C := Lib.hid ebcdic_any
  have I := Lib.hid in_tbE
  have E := Lib.hid (show ∀ k, k = 256 → backTo tbE k = tbA from fun k hk => by rw [hk]; exact back_all)
  generalize tbE = l at L C I E
  generalize tbA = m at E ⊢
  go_enter Try.func29, Try.ntmps29
  go_wp2_with (refine st_alloc rfl rfl ?_)
  intro b0 w0 r0 k0 l0
  go_wp2_with (refine st_alloc rfl rfl ?_)
  intro b1 w1 r1 k1 l1
  have hne : b0 ≠ b1 := by have := r0.lt; omega
  have h1 : w.heap.size ≤ b1 := by have := k0.size; omega
  have R0 := Lib.hid (r0.on k1); have K1 := Lib.hid (k0.trans (k1.mono k0.size))
  clear r0 k0 k1
  go_wp2_with fail
  refine (C.out w1).mono ?_
  rintro e w2 ⟨rfl, k2⟩
  have R0' := Lib.hid (R0.out.on k2); have R1 := Lib.hid (r1.on k2); have K2 := Lib.hid (K1.out.trans (k2.mono K1.out.size))
  clear R0 r1 K1 k2
  go_wp2
  go_loopw [5] (fun i wr => ∃ k : Nat, k ≤ 256 ∧ i = .int .i64 k ∧ Hid (Row wr b0 50 (cs zeros)) ∧ Hid (Row wr b1 50 (cs (backTo l k))) ∧ Hid (Below w.heap.size w wr)) (fun i _ => 256 - (intOf i).toNat)
  case atStart => exact ⟨0, by omega, rfl, R0', R1, K2⟩
  case round =>
    clear R0' R1 K2
    obtain ⟨k, hk, rfl, R0, R1, K⟩ := hrel
    have LB := Lib.hid (len_backTo l k)
    by_cases hlt : k < 256
    · obtain ⟨i0, i1⟩ := I.out k hlt
      have EB := Lib.hid (show backTo l (k + 1) = (backTo l k).set (l.getD k 0).toNat k from rfl)
      have LL := L.out
      generalize hx : l.getD k 0 = x at i0 i1 EB
      obtain ⟨y, rfl⟩ : ∃ y : Nat, x = y := ⟨x.toNat, by omega⟩
      have HX := Lib.hid hx; have LL := Lib.hid LL
      clear hx
      have c1 := R1.out.cell y (by rw [LB.out]; omega)
      have f1 := R1.out.free y
      have hw : IntKind.u8.wrap (k : Int) = k := IntWalk.u8_in _ (by omega)
      go_wp2_with (refine st_index rfl _ _ rfl l rfl _ _ rfl k rfl LL.out hlt ?_; rw [HX.out])
      go_roundw
      case rel => exact ⟨k + 1, by omega, by go_num, R0.out.past b1 _ _ hne, by rw [EB.out]; exact R1.out.set y _, K.out.setCell (by omega) _⟩
      case measure => simp [intOf]; omega
    · have E2 := Lib.hid (E.out k (by omega))
      generalize backTo l k = x at R1 LB E2
      go_wp2_with (first | (refine st_load rfl _ rfl b1 rfl _ R1.out LB.out ?_) | (refine st_store rfl _ _ rfl b0 rfl _ rfl _ R0.out len_zeros LB.out ?_))
      intro w5 r5 o5
      go_wp2
      exact res_tab rfl b0 rfl _ r5 LB.out rfl ⟨by rw [E2.out], K.out.trans (o5.below K.out.size (fun d hd => by rw [hd]; exact l0))⟩

end Go.Proofs.Ytghihmmapignmaa
