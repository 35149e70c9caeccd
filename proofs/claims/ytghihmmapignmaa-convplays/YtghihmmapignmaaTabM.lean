/- Contracts of the reference's Ebcdic, Ibm, Ascii. -/
import Derived.Test.YtghihmmapignmaaPlainR
import Derived.Test.YtghihmmapignmaaTabG
import Derived.WalkKit
import Derived.WalkSpells
import Derived.WalkLawsBesides
import Derived.Lib.Hide
namespace Go.Proofs.Ytghihmmapignmaa
open Go.RowKit

set_option maxRecDepth 100000 in
set_option maxHeartbeats 1000000 in
theorem rebcdic_any (w : World) : Calls Try.prog 60 #[] w (TabPost tbE w) := by
  have L := Lib.hid (len_tb false)
  have CN := Lib.hid rnamed_any
  have CR := Lib.hid (show ∀ (B : Nat) (A : Option Addr) (n c : Nat) (W w : World), Own B W w A n c namedL → n ≤ 1000 → Calls Try.prog 76 #[.slice A n c] w (RRowsPost B (pairsL false) W) from fun B A n c W w h hn => rrows_any B A n c namedL _ W w h hn rfl)
  have CF := Lib.hid (show ∀ (A : Option Addr) (n c : Nat) (w : World), Bytes w A n c (pairsL false) → Calls Try.prog 75 #[.slice A n c] w (TabPost (tbL false) w) from fun A n c w h => rfill_any false A n c w h)
  show Calls Try.prog 60 #[] w (TabPost (tbL false) w)
  generalize pairsL false = p at *
  generalize tbL false = l at *
  go_enter Try.func60, Try.ntmps60
  go_wp2_with (refine st_alloc rfl rfl ?_)
  intro b0 w0 r0 k0 l0
  go_wp2_with fail
  refine (CN.out w0).mono ?_
  rintro e w1 ⟨b, rfl, r1, l1, k1⟩
  have R0 := Lib.hid (r0.on k1)
  have O1 := Lib.hid (show Own w0.heap.size w0 w1 (some ⟨b, 0, none⟩) 74 74 namedL from ⟨row_buf r1 len_named (by decide), (fun g o s h => by injection h with h; injection h with h; omega), k1, Nat.le_refl _⟩)
  have h0 := r0.lt
  clear r1 k1
  go_wp2_with fail
  refine (CR.out _ _ _ _ _ _ O1.out (by omega)).mono ?_
  rintro e w2 ⟨A2, n2, c2, rfl, o2⟩
  have O2 := Lib.hid o2
  have R2 := Lib.hid (r0.on o2.below)
  clear o2 R0 O1
  go_wp2_with fail
  refine (CF.out _ _ _ _ O2.out.buf.bytes.1).mono ?_
  rintro e w3 ⟨rfl, k3⟩
  have R3 := Lib.hid (R2.out.on k3); have K3 := Lib.hid (k0.trans ((O2.out.below.trans (k3.mono O2.out.below.size)).mono k0.size))
  clear R2 k3 k0 O2 r0
  go_wp2_with (refine st_store rfl _ _ rfl b0 rfl _ rfl _ R3.out len_zeros L.out ?_)
  intro w5 r5 o5
  go_wp2
  exact res_tab rfl b0 rfl _ r5 L.out rfl ⟨rfl, K3.out.trans (o5.below K3.out.size (fun d hd => by rw [hd]; exact l0))⟩

set_option maxRecDepth 100000 in
set_option maxHeartbeats 4000000 in
theorem ribm_any (w : World) : Calls Try.prog 61 #[] w (TabPost tbI w) := by
  have L := Lib.hid (len_tb true)
  have CN := Lib.hid (show ∀ w, Calls Try.prog 77 #[] w fun e w' => ∃ b, e = .returned (.slice (some ⟨b, 0, none⟩) 74 74) ∧ Row w' b 5 (cs (ibmTo 0)) ∧ w.heap.size ≤ b ∧ Below w.heap.size w w' from rnamed_any)
  have CR := Lib.hid (show ∀ (B : Nat) (A : Option Addr) (n c : Nat) (W w : World), Own B W w A n c (ibmTo 37) → n ≤ 1000 → Calls Try.prog 76 #[.slice A n c] w (RRowsPost B (pairsL true) W) from fun B A n c W w h hn => rrows_any B A n c (ibmTo 37) _ W w h hn (by rw [ibm_all]; rfl))
  have CF := Lib.hid (show ∀ (A : Option Addr) (n c : Nat) (w : World), Bytes w A n c (pairsL true) → Calls Try.prog 75 #[.slice A n c] w (TabPost (tbL true) w) from fun A n c w h => rfill_any true A n c w h)
  have LI := Lib.hid len_ibmTo
  have SI := Lib.hid (show ∀ m, ibmTo (m + 1) = if (ibmTo m).getD (2 * m) 0 = 94 then (ibmTo m).set (2 * m + 1) 95 else if (ibmTo m).getD (2 * m) 0 = 126 then (ibmTo m).set (2 * m + 1) 161 else ibmTo m from fun m => rfl)
  show Calls Try.prog 61 #[] w (TabPost (tbL true) w)
  generalize pairsL true = p at *
  generalize tbL true = l at *
  generalize ibmTo = f at *
  go_enter Try.func61, Try.ntmps61
  go_wp2_with (refine st_alloc rfl rfl ?_)
  intro b0 w0 r0 k0 l0
  go_wp2_with fail
  refine (CN.out w0).mono ?_
  rintro e w1 ⟨b, rfl, r1, l1, k1⟩
  have R0 := Lib.hid (r0.on k1); have R1 := Lib.hid r1; have K1 := Lib.hid k1; have K0 := Lib.hid k0; have RZ := Lib.hid r0
  have h0 := r0.lt
  have hs0 := k0.size
  clear r1 k1 r0 k0
  go_wp2
  go_loopw [2] (fun i wr => ∃ k m : Nat, m ≤ 37 ∧ Hid (k = 2 * m) ∧ i = .int .i64 k ∧ Hid (Row wr b0 50 (cs zeros)) ∧ Hid (Row wr b 5 (cs (f m))) ∧ Hid (Below w0.heap.size w0 wr)) (fun i _ => 74 - (intOf i).toNat)
  case atStart => exact ⟨0, 0, by omega, rfl, rfl, R0, R1, K1⟩
  case round =>
    clear R0 R1 K1
    obtain ⟨k, m, hm, EK, rfl, R0, R1, K⟩ := hrel
    have hk4 : k ≤ 1000 := by have := EK.out; omega
    have LM := Lib.hid (LI.out m)
    by_cases hlt : m < 37
    · have hk1 : k + 1 < 74 := by have := EK.out; omega
      have hk2 : (k : Int) + 1 < 74 := by omega
      have c0 := R1.out.cell k (by rw [LM.out]; omega)
      have c1 := R1.out.cell (k + 1) (by rw [LM.out]; omega)
      have f1 := R1.out.free (k + 1)
      have ES := Lib.hid (SI.out m)
      rw [← EK.out] at ES
      have i3 : ((k : Int) + 1).toNat = k + 1 := by omega
      generalize hx : (f m).getD k 0 = x at c0 ES
      clear hx
      by_cases h94 : x = 94
      · subst h94
        have ES2 := Lib.hid (show f (m + 1) = (f m).set (k + 1) 95 by rw [ES.out, if_pos rfl])
        clear ES
        go_wp2
        go_roundw
        case rel => exact ⟨k + 2, m + 1, by omega, by have := EK.out; unfold Hid; omega, by go_num, R0.out.past b _ _ (by omega), by rw [ES2.out]; exact R1.out.set (k + 1) _, K.out.setCell (p := ⟨b, k + 1, none⟩) (by show w0.heap.size ≤ b; omega) _⟩
        case measure => simp [intOf]; omega
      · have hb94 : (x == 94) = false := by simpa using h94
        by_cases h126 : x = 126
        · subst h126
          have ES2 := Lib.hid (show f (m + 1) = (f m).set (k + 1) 161 by rw [ES.out, if_neg h94, if_pos rfl])
          clear ES
          go_wp2
          go_roundw
          case rel => exact ⟨k + 2, m + 1, by omega, by have := EK.out; unfold Hid; omega, by go_num, R0.out.past b _ _ (by omega), by rw [ES2.out]; exact R1.out.set (k + 1) _, K.out.setCell (p := ⟨b, k + 1, none⟩) (by show w0.heap.size ≤ b; omega) _⟩
          case measure => simp [intOf]; omega
        · have hb126 : (x == 126) = false := by simpa using h126
          have ES2 := Lib.hid (show f (m + 1) = f m by rw [ES.out, if_neg h94, if_neg h126])
          clear ES
          go_wp2
          go_roundw
          case rel => exact ⟨k + 2, m + 1, by omega, by have := EK.out; unfold Hid; omega, by go_num, R0, by rw [ES2.out]; exact R1, K⟩
          case measure => simp [intOf]; omega
    · have hk2 : ¬ (k : Int) + 1 < 74 := by have := EK.out; omega
      obtain rfl : m = 37 := by omega
      have O1 := Lib.hid (show Own w0.heap.size w0 wr (some ⟨b, 0, none⟩) 74 74 (f 37) from ⟨row_buf R1.out LM.out (by decide), (fun g o s h => by injection h with h; injection h with h; omega), K.out, Nat.le_refl _⟩)
      clear R1
      go_wp2_with fail
      refine (CR.out _ _ _ _ _ _ O1.out (by omega)).mono ?_
      rintro e w2 ⟨A2, n2, c2, rfl, o2⟩
      have O2 := Lib.hid o2
      have R2 := Lib.hid (RZ.out.on o2.below)
      clear o2 O1
      go_wp2_with fail
      refine (CF.out _ _ _ _ O2.out.buf.bytes.1).mono ?_
      rintro e w3 ⟨rfl, k3⟩
      have R3 := Lib.hid (R2.out.on k3); have K3 := Lib.hid (K0.out.trans ((O2.out.below.trans (k3.mono O2.out.below.size)).mono K0.out.size))
      clear R2 k3 K0 O2
      go_wp2_with (refine st_store rfl _ _ rfl b0 rfl _ rfl _ R3.out len_zeros L.out ?_)
      intro w5 r5 o5
      go_wp2
      exact res_tab rfl b0 rfl _ r5 L.out rfl ⟨rfl, K3.out.trans (o5.below K3.out.size (fun d hd => by rw [hd]; exact l0))⟩

set_option maxRecDepth 100000 in
set_option maxHeartbeats 1000000 in
theorem rascii_any (w : World) : Calls Try.prog 64 #[] w (TabPost tbA w) := by
  have L := Lib.hid (show tbE.length = 256 from len_tb false)
  have C := Lib.hid rebcdic_any
  have I := Lib.hid in_tbE
  have E := Lib.hid (show ∀ k, k = 256 → backTo tbE k = tbA from fun k hk => by rw [hk]; exact back_all)
  generalize tbE = l at L C I E
  generalize tbA = m at E ⊢
  go_enter Try.func64, Try.ntmps64
  go_wp2_with (refine st_alloc rfl rfl ?_)
  intro b0 w0 r0 k0 l0
  go_wp2_with fail
  refine (C.out w0).mono ?_
  rintro e w1 ⟨rfl, k1⟩
  have R0 := Lib.hid (r0.on k1); have K1 := Lib.hid (k0.trans (k1.mono k0.size))
  clear r0 k0 k1
  go_wp2_with (refine st_alloc rfl rfl ?_)
  intro b1 w2 r1 k2 l1
  have h01 : b0 < b1 := by have := R0.out.lt; omega
  have R0a := Lib.hid (R0.out.on k2); have K2 := Lib.hid (K1.out.trans (k2.mono K1.out.size))
  clear R0 K1 k2
  go_wp2_with (refine st_store rfl _ _ rfl b1 rfl _ rfl _ r1 len_zeros L.out ?_)
  intro w3 r3 o3
  have R0b := Lib.hid (R0a.out.only o3 (by omega)); have K3 := Lib.hid (K2.out.trans (o3.below K2.out.size (fun d hd => by rw [hd]; omega)))
  clear R0a K2 o3 r1
  go_wp2_with (refine st_alloc rfl rfl ?_)
  intro b2 w4 r2 k4 l2
  have h12 : b1 < b2 := by have := r3.lt; omega
  have Ra := Lib.hid (R0b.out.on k4); have Rb := Lib.hid (r3.on k4); have K4 := Lib.hid (K3.out.trans (k4.mono K3.out.size))
  clear R0b r3 K3 k4
  go_wp2
  go_loopw [3] (fun i wr => ∃ k : Nat, k ≤ 256 ∧ i = .int .i64 k ∧ Hid (Row wr b0 50 (cs zeros)) ∧ Hid (Row wr b1 50 (cs l)) ∧ Hid (Row wr b2 50 (cs (backTo l k))) ∧ Hid (Below w.heap.size w wr)) (fun i _ => 256 - (intOf i).toNat)
  case atStart => exact ⟨0, by omega, rfl, Ra, Rb, r2, K4⟩
  case round =>
    clear Ra Rb r2 K4
    obtain ⟨k, hk, rfl, R0, R1, R2, K⟩ := hrel
    have LB := Lib.hid (len_backTo l k)
    by_cases hlt : k < 256
    · obtain ⟨i0, i1⟩ := I.out k hlt
      have EB := Lib.hid (show backTo l (k + 1) = (backTo l k).set (l.getD k 0).toNat k from rfl)
      have c0 := R1.out.cell k (by rw [L.out]; exact hlt)
      generalize l.getD k 0 = x at i0 i1 EB c0
      obtain ⟨y, rfl⟩ : ∃ y : Nat, x = y := ⟨x.toNat, by omega⟩
      have c1 := R2.out.cell y (by rw [LB.out]; omega)
      have f1 := R2.out.free y
      have hw : IntKind.u8.wrap (k : Int) = k := IntWalk.u8_in _ (by omega)
      go_wp2
      go_roundw
      case rel => exact ⟨k + 1, by omega, by go_num, R0.out.past b2 _ _ (by omega), R1.out.past b2 _ _ (by omega), by rw [EB.out]; exact R2.out.set y _, K.out.setCell (p := ⟨b2, y, none⟩) (by show w.heap.size ≤ b2; omega) _⟩
      case measure => simp [intOf]; omega
    · have E2 := Lib.hid (E.out k (by omega))
      generalize backTo l k = x at R2 LB E2
      go_wp2_with (first | (refine st_load rfl _ rfl b2 rfl _ R2.out LB.out ?_) | (refine st_store rfl _ _ rfl b0 rfl _ rfl _ R0.out len_zeros LB.out ?_))
      intro w5 r5 o5
      go_wp2
      exact res_tab rfl b0 rfl _ r5 LB.out rfl ⟨by rw [E2.out], K.out.trans (o5.below K.out.size (fun d hd => by rw [hd]; exact l0))⟩

end Go.Proofs.Ytghihmmapignmaa
