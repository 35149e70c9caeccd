/- Contract of the law TabOnce. -/
import Derived.Test.YtoccnhajfmkpoaaLawCodes
import Derived.WalkKit
import Derived.WalkSpells
import Derived.WalkLawsBesides
import Derived.Lib.Hide
import Derived.Deep.RegionHeld3
namespace Go.Proofs.Ytoccnhajfmkpoaa
open Go.RowKit

/-- The place of a number in a list, or 256. -/
def placeOf : List Int → Int → Nat
  | [], _ => 0
  | x :: l, z => if x = z then 0 else placeOf l z + 1
theorem place_E : ∀ k < 256, placeOf tbE (tbE.getD k 0) = k := by decide +kernel
theorem place_I : ∀ k < 256, placeOf tbI (tbI.getD k 0) = k := by decide +kernel
theorem place_A : ∀ k < 256, placeOf tbA (tbA.getD k 0) = k := by decide +kernel
theorem once_of {l : List Int} (h : ∀ k < 256, placeOf l (l.getD k 0) = k) (a b : Nat) (ha : a < 256) (hb : b < 256) (hn : a ≠ b) : (l.getD a 0 == l.getD b 0) = false := by
  simp only [beq_eq_false_iff_ne]
  intro e
  have h1 := h a ha
  rw [e, h b hb] at h1
  exact hn h1.symm

def Six (w : World) (p1 p2 p3 p4 p5 p6 : Addr) (v1 v2 v3 v4 v5 v6 : Value) (w1 : World) : Prop :=
  w1.cell? p1 = some v1 ∧ w1.cell? p2 = some v2 ∧ w1.cell? p3 = some v3 ∧ w1.cell? p4 = some v4 ∧ w1.cell? p5 = some v5 ∧ w1.cell? p6 = some v6 ∧ Below w.heap.size w w1
theorem six_next {w w1 w2 : World} {p1 p2 p3 p4 p5 p6 : Addr} {v1 v2 v3 v4 v5 v6 : Value} (h : Six w p1 p2 p3 p4 p5 p6 v1 v2 v3 v4 v5 v6 w1) (k : Below w1.heap.size w1 w2) : Six w p1 p2 p3 p4 p5 p6 v1 v2 v3 v4 v5 v6 w2 := by
  obtain ⟨c1, c2, c3, c4, c5, c6, b⟩ := h
  have f : ∀ {p v}, w1.cell? p = some v → w2.cell? p = some v := fun {p v} hp => (k.cell (World.block_lt_of_cell? w1 p hp)).trans hp
  exact ⟨f c1, f c2, f c3, f c4, f c5, f c6, below_next b k⟩

set_option maxRecDepth 100000 in
set_option maxHeartbeats 4000000 in
theorem law_once (a b : Int) (w : World) (a0 : 0 ≤ a) (a1 : a ≤ 255) (b0 : 0 ≤ b) (b1 : b ≤ 255) : Calls Try.prog 7 #[.int .u8 a, .int .u8 b] w fun e w' => e = .returned (.bool true) ∧ Below w.heap.size w w' := by
  have CE := Lib.hid ebcdic_any; have CI := Lib.hid ibm_any; have CA := Lib.hid ascii_any; have CR := Lib.hid law_runs
  have LE := Lib.hid (show tbE.length = 256 from len_tb false); have LI := Lib.hid (show tbI.length = 256 from len_tb true); have LA := Lib.hid len_asc
  have OE := Lib.hid (show a ≠ b → (tbE.getD a.toNat 0 == tbE.getD b.toNat 0) = false from fun h => once_of place_E _ _ (by omega) (by omega) (by omega))
  have OI := Lib.hid (show a ≠ b → (tbI.getD a.toNat 0 == tbI.getD b.toNat 0) = false from fun h => once_of place_I _ _ (by omega) (by omega) (by omega))
  have OA := Lib.hid (show a ≠ b → (tbA.getD a.toNat 0 == tbA.getD b.toNat 0) = false from fun h => once_of place_A _ _ (by omega) (by omega) (by omega))
  have a2 : a < 256 := by omega
  have b2 : b < 256 := by omega
  generalize tbE = E at *
  generalize tbI = I at *
  generalize tbA = A at *
  go_enter Try.func7, Try.ntmps7
  go_wp2_with fail
  refine (CE.out _).mono ?_
  rintro e w1 ⟨rfl, k1⟩
  have K1 := Lib.hid k1
  clear k1
  go_wp2_with fail
  refine (CI.out _).mono ?_
  rintro e w2 ⟨rfl, k2⟩
  have K2 := Lib.hid (below_next K1.out k2)
  clear k2 K1
  go_wp2_with fail
  refine (CA.out _).mono ?_
  rintro e w2a ⟨rfl, k2⟩
  have K2a := Lib.hid (below_next K2.out k2)
  clear k2 K2
  go_wp2_with (refine st_alloc rfl rfl ?_)
  intro b3 w3 r3 k3 l3
  go_wp2_with (refine st_alloc rfl rfl ?_)
  intro b4 w4 r4 k4 l4
  go_wp2_with (refine st_alloc rfl rfl ?_)
  intro b5 w5 r5 k5 l5
  have h34 : b3 < b4 := by have := r3.lt; omega
  have h45 : b4 < b5 := by have := r4.lt; omega
  have hb3 : w.heap.size ≤ b3 := by have := K2a.out.size; omega
  have R3 := Lib.hid ((r3.on k4).on k5); have R4 := Lib.hid (r4.on k5); have K5 := Lib.hid (below_next (below_next (below_next K2a.out k3) k4) k5)
  clear K2a k3 k4 k5 r3 r4 l3 l4 l5
  go_wp2_with (refine st_store rfl _ _ rfl b3 rfl _ rfl _ R3.out len_zeros LE.out ?_)
  intro w6 r6 o6
  have R4' := Lib.hid (R4.out.only o6 (by omega)); have R5' := Lib.hid (r5.only o6 (by omega)); have K6 := Lib.hid (K5.out.trans (o6.below K5.out.size (fun d hd => by rw [hd]; exact hb3)))
  clear R3 R4 r5 o6 K5
  go_wp2_with (refine st_store rfl _ _ rfl b4 rfl _ rfl _ R4'.out len_zeros LI.out ?_)
  intro w7 r7 o7
  have Q3 := Lib.hid (r6.only o7 (by omega)); have Q5 := Lib.hid (R5'.out.only o7 (by omega)); have K7 := Lib.hid (K6.out.trans (o7.below K6.out.size (fun d hd => by rw [hd]; omega)))
  clear R4' R5' r6 o7 K6
  go_wp2_with (refine st_store rfl _ _ rfl b5 rfl _ rfl _ Q5.out len_zeros LA.out ?_)
  intro w8 r8 o8
  have P3 := Lib.hid (Q3.out.only o8 (by omega)); have P4 := Lib.hid (r7.only o8 (by omega)); have P5 := Lib.hid r8; have K8 := Lib.hid (K7.out.trans (o8.below K7.out.size (fun d hd => by rw [hd]; omega)))
  clear Q3 Q5 r7 r8 o8 K7
  have H := Lib.hid (show Six w ⟨b3, a.toNat, none⟩ ⟨b3, b.toNat, none⟩ ⟨b4, a.toNat, none⟩ ⟨b4, b.toNat, none⟩ ⟨b5, a.toNat, none⟩ ⟨b5, b.toNat, none⟩ _ _ _ _ _ _ w8 from
    ⟨P3.out.is LE.out a _ a0 a1 rfl, P3.out.is LE.out b _ b0 b1 rfl, P4.out.is LI.out a _ a0 a1 rfl, P4.out.is LI.out b _ b0 b1 rfl, P5.out.is LA.out a _ a0 a1 rfl, P5.out.is LA.out b _ b0 b1 rfl, K8.out⟩)
  clear P3 P4 P5 K8
  by_cases hab : a = b
  · subst hab
    clear OE OI OA
    generalize E.getD a.toNat 0 = x1 at *
    generalize I.getD a.toNat 0 = x3 at *
    generalize A.getD a.toNat 0 = x5 at *
    go_wp2_with fail
    go_region_held3 (fun w' => w'.cell? ⟨b3, a.toNat, none⟩ = some (.int .u8 x1) ∧ w'.cell? ⟨b3, a.toNat, none⟩ = some (.int .u8 x1) ∧ w'.cell? ⟨b4, a.toNat, none⟩ = some (.int .u8 x3) ∧ w'.cell? ⟨b4, a.toNat, none⟩ = some (.int .u8 x3) ∧ w'.cell? ⟨b5, a.toNat, none⟩ = some (.int .u8 x5) ∧ w'.cell? ⟨b5, a.toNat, none⟩ = some (.int .u8 x5) ∧ Below w.heap.size w w')
      (first | assumption | exact H.out | exact six_next H.out (Below.refl _ _).drew | exact six_next (by assumption) k9)
      (first | (go_at_call 3; ((with_reducible refine (CR.out _).mono ?_); rintro e w9 ⟨rfl, k9⟩)))
    rename_i hH
    have K9 := Lib.hid hH.2.2.2.2.2.2
    clear hH k9 H
    go_wp2
    go_ret
    exact ⟨rfl, K9.out⟩
  · have e1 := OE.out hab; have e3 := OI.out hab; have e5 := OA.out hab
    have hf : (a == b) = false := by simpa using hab
    clear OE OI OA hab
    generalize E.getD a.toNat 0 = x1 at *
    generalize E.getD b.toNat 0 = x2 at *
    generalize I.getD a.toNat 0 = x3 at *
    generalize I.getD b.toNat 0 = x4 at *
    generalize A.getD a.toNat 0 = x5 at *
    generalize A.getD b.toNat 0 = x6 at *
    go_wp2_with fail
    go_region_held3 (fun w' => w'.cell? ⟨b3, a.toNat, none⟩ = some (.int .u8 x1) ∧ w'.cell? ⟨b3, b.toNat, none⟩ = some (.int .u8 x2) ∧ w'.cell? ⟨b4, a.toNat, none⟩ = some (.int .u8 x3) ∧ w'.cell? ⟨b4, b.toNat, none⟩ = some (.int .u8 x4) ∧ w'.cell? ⟨b5, a.toNat, none⟩ = some (.int .u8 x5) ∧ w'.cell? ⟨b5, b.toNat, none⟩ = some (.int .u8 x6) ∧ Below w.heap.size w w')
      (first | assumption | exact H.out | exact six_next H.out (Below.refl _ _).drew | exact six_next (by assumption) k9)
      (first | (go_at_call 3; ((with_reducible refine (CR.out _).mono ?_); rintro e w9 ⟨rfl, k9⟩)))
    rename_i hH
    have K9 := Lib.hid hH.2.2.2.2.2.2
    clear hH k9 H
    go_wp2
    go_ret
    exact ⟨rfl, K9.out⟩

theorem law_once_said (a b : Int) (w : World) (h : (Lit.int .u8 a).wf = true) (h' : (Lit.int .u8 b).wf = true) : Calls Try.prog 7 #[.int .u8 a, .int .u8 b] w fun e w' => e = .returned (.bool true) ∧ Below w.heap.size w w' :=
  law_once a b w (u8_bounds h).1 (u8_bounds h).2 (u8_bounds h').1 (u8_bounds h').2

end Go.Proofs.Ytoccnhajfmkpoaa
