/- Contract of the law ExtentRoom. -/
import Derived.Test.YtigfimlpjmmpoaaLawR
import Derived.Test.YtigfimlpjmmpoaaLawC
import Derived.WalkKit
import Derived.WalkSpells
import Derived.WalkLawsBesides
import Derived.Lib.Hide
import Derived.BigQuiet
import Derived.OpenShut
namespace Go.Proofs.Ytigfimlpjmmpoaa
open Go.RowKit

set_option maxRecDepth 100000 in
set_option maxHeartbeats 4000000 in
theorem law_room (s : Int) (A : Option Addr) (n c : Nat) (L : List Ex) (x y : Int) (keep : Bool) (t : Int) (w : World) (h : Exts w A n c L) (hs : (Lit.int .i64 s).wf = true) (hx : (Lit.int .u16 x).wf = true) (hy : (Lit.int .u16 y).wf = true) (ht : (Lit.int .i64 t).wf = true) :
    Calls Try.prog 10 #[ct s A n c, .int .u16 x, .int .u16 y, .bool keep, .int .i64 t] w (TruthPost true w) := by
  have bx := bounds_u16 hx
  have bY := bounds_u16 hy
  have bt := bounds_i64 ht
  have bs := bounds_i64 hs
  clear hs hx hy ht
  have K0 := Lib.hid (show Below w.heap.size w (w.alloc (.cells #[.int .i64 s, .slice A n c] 24)) from (Below.refl _ _).alloc (Nat.le_refl _) _)
  have B0 := Lib.hid (box_new w s A n c)
  have X0 := Lib.hid (h.on K0.out)
  have b0 := B0.out.c0; have b1 := B0.out.c1
  clear h
  show Calls Try.prog 10 #[.agg #[.int .i64 s, .slice A n c], .int .u16 x, .int .u16 y, .bool keep, .int .i64 t] w _
  go_enter Try.func10, Try.ntmps10
  go_wp2_with fail
  refine (few_any s A n c _).mono ?_
  rintro e w1 ⟨rfl, k1⟩
  have K1 := Lib.hid (K0.out.trans (k1.mono K0.out.size)); have B1 := Lib.hid (B0.out.on k1); have X1 := Lib.hid (X0.out.on k1)
  clear k1 b0 b1
  have b0 := B1.out.c0; have b1 := B1.out.c1
  by_cases g : n ≤ 60
  · rw [show decide (n ≤ 60) = true from decide_eq_true g]
    go_wp2_with fail
    by_cases gm : may s L = true
    · refine (may_any s A n c L w1 X1.out true gm).mono ?_
      rintro e w2 ⟨rfl, k2⟩
      have K2 := Lib.hid (K1.out.trans (k2.mono K1.out.size)); have B2 := Lib.hid (B1.out.on k2); have X2 := Lib.hid (X1.out.on k2)
      clear k2 b0 b1
      have b0 := B2.out.c0; have b1 := B2.out.c1
      have GM := Lib.hid gm
      have hlen : n ≤ 60 := g
      clear g gm
      obtain ⟨a, ha, a0, a1⟩ : ∃ a : Int, x.tmod 600 = a ∧ 0 ≤ a ∧ a < 600 := ⟨_, rfl, by rw [Int.tmod_eq_emod_of_nonneg bx.1]; omega, by rw [Int.tmod_eq_emod_of_nonneg bx.1]; omega⟩
      obtain ⟨d, hd, d0, d1⟩ : ∃ d : Int, y.tmod 200 = d ∧ 0 ≤ d ∧ d < 200 := ⟨_, rfl, by rw [Int.tmod_eq_emod_of_nonneg bY.1]; omega, by rw [Int.tmod_eq_emod_of_nonneg bY.1]; omega⟩
      go_wp2_with fail
      have hs0 := ((may_iff _ _).1 GM.out).s0
      have hs1 := ((may_iff _ _).1 GM.out).s1
      have HR := Lib.hid (room_is GM.out (p := a) (k := d + 1) keep a0 (by omega) (by omega))
      have HA := Lib.hid (room_at GM.out (p := a) (k := d + 1) keep a0 (by omega) (by omega) t)
      have HL := Lib.hid (alo_len L a (d + 1))
      have hpk : (eo a (d + 1)).isSome = true := by
        cases he : eo a (d + 1) with
        | some _ => rfl
        | none => exact absurd ⟨a0, by omega, by omega⟩ (eo_none he)
      obtain ⟨z, hz⟩ : ∃ z, asz s a (d + 1) keep = z := ⟨_, rfl⟩
      rw [hz] at HR HA
      have hzz : z = (if keep = true then s else max s (a + (d + 1))) := hz.symm
      refine (alloc_any s A n c L a (d + 1) keep w2 X2.out (by omega) true (by simp [hpk, GM.out]; omega)).mono ?_
      rintro e w3 ⟨A1, n1, c1, M1, rfl, hM1, x1, k3⟩
      rw [if_pos rfl] at hM1 ⊢
      rw [hz]
      rw [← hM1] at HR HA HL
      have N1 := Lib.hid (show n1 ≤ 1000 by have := HL.out; have := X2.out.len; have := x1.len; omega)
      have K3 := Lib.hid (K2.out.trans (k3.mono K2.out.size)); have B3 := Lib.hid (B2.out.on k3); have X3 := Lib.hid (X2.out.on k3)
      obtain ⟨W3, hW3⟩ : ∃ W, w3.alloc (.cells #[.int .i64 z, .slice A1 n1 c1] 24) = W := ⟨_, rfl⟩
      have KW3 := Lib.hid (show Below w3.heap.size w3 W3 by rw [← hW3]; exact (Below.refl _ _).alloc (Nat.le_refl _) _)
      have C3 := Lib.hid (show Box W3 w3.heap.size z A1 n1 c1 by rw [← hW3]; exact box_new w3 z A1 n1 c1)
      have Y3 := Lib.hid (x1.on KW3.out)
      have B3' := Lib.hid (B3.out.on KW3.out); have X3' := Lib.hid (X3.out.on KW3.out)
      have K3' := Lib.hid (K3.out.trans (KW3.out.mono K3.out.size))
      have HW3 := Lib.hid hW3
      clear k3 b0 b1 x1 hW3 hM1 hpk hz
      have b0 := B3'.out.c0; have b1 := B3'.out.c1; have d0' := C3.out.c0; have d1' := C3.out.c1
      rw [← HW3.out] at b0 b1 d0' d1'
      have hzs : s ≤ z := by rw [hzz]; split <;> omega
      have hz1 : z ≤ 1099511627776 := by rw [hzz]; split <;> omega
      unfold ct
      cases keep with
      | true =>
        have hze : s = z := by rw [hzz]; rfl
        clear hzz
        subst hze
        go_wp2_with fail
        rw [HW3.out]
        refine (may_any s A1 n1 c1 M1 W3 Y3.out true HR.out.1).mono ?_
        rintro e w5 ⟨rfl, k5⟩
        have K5 := Lib.hid (K3'.out.trans (k5.mono K3'.out.size)); have B5 := Lib.hid (B3'.out.on k5); have X5 := Lib.hid (X3'.out.on k5); have C5 := Lib.hid (C3.out.on k5); have Y5 := Lib.hid (Y3.out.on k5)
        clear k5 b0 b1 d0' d1'
        have b0 := B5.out.c0; have b1 := B5.out.c1; have d0' := C5.out.c0; have d1' := C5.out.c1
        go_wp2_with fail
        obtain ⟨v0, hv0⟩ : ∃ v, atv s L t = v := ⟨_, rfl⟩
        rw [hv0] at HA
        have HV0 := Lib.hid hv0
        clear hv0
        refine (at_any s A n c L t w5 X5.out (by omega) bt.1 bt.2 v0 HV0.out).mono ?_
        rintro e wz ⟨rfl, k6⟩
        have K6 := Lib.hid (K5.out.trans (k6.mono K5.out.size)); have B6 := Lib.hid (B5.out.on k6); have X6 := Lib.hid (X5.out.on k6); have C6 := Lib.hid (C5.out.on k6); have Y6 := Lib.hid (Y5.out.on k6)
        clear k6 b0 b1 d0' d1'
        have b0 := B6.out.c0; have b1 := B6.out.c1; have d0' := C6.out.c0; have d1' := C6.out.c1
        by_cases q0 : s ≤ t
        · by_cases q1 : t < s
          · exact absurd q1 (by omega)
          · have HV := Lib.hid (HA.out.trans (if_neg (fun g => q1 g.2)))
            go_wp2
            go_loopw [17, 18, 19] (fun i _ _ wr => ∃ r : Int, a ≤ r ∧ r ≤ a + (d + 1) ∧ i = .int .i64 r ∧ Hid (Below w.heap.size w wr) ∧ Hid (Box wr w3.heap.size s A1 n1 c1) ∧ Hid (Exts wr A1 n1 c1 M1)) (fun i _ _ _ => (a + (d + 1) - intOf i).toNat)
            case atStart => exact ⟨a, Int.le_refl _, by omega, rfl, K6.out, C6.out, Y6.out⟩
            case round =>
              obtain ⟨r, r0, r1, rfl, KR, BR, XR⟩ := hrel
              clear b0 b1 d0' d1'
              have d0' := BR.out.c0; have d1' := BR.out.c1
              by_cases hlt : r < a + (d + 1)
              · by_cases hlz : r < s
                · have HD := Lib.hid (dat_here HR.out.1 (show 0 ≤ r by omega) hlz (HR.out.2.1 r r0 hlt))
                  go_wp2_with fail
                  refine (data_any s A1 n1 c1 M1 r wr XR.out (by have := N1.out; omega) (by omega) (by omega) _ HD.out).mono ?_
                  rintro e w8 ⟨rfl, k8⟩
                  have K8 := Lib.hid (KR.out.trans (k8.mono KR.out.size)); have B8 := Lib.hid (BR.out.on k8); have X8 := Lib.hid (XR.out.on k8)
                  simp only [Option.getD_some, Option.isSome_some]
                  clear k8 d0' d1'
                  go_wp2
                  go_roundw
                  case rel => exact ⟨r + 1, by omega, by omega, by go_num, K8.out, B8.out, X8.out⟩
                  case measure => simp [intOf]; omega
                · go_wp2_with fail
                  refine (at_any s A1 n1 c1 M1 t wr XR.out (by have := N1.out; omega) bt.1 bt.2 _ HV.out).mono ?_
                  rintro e w8 ⟨rfl, k8⟩
                  have K8 := Lib.hid (KR.out.trans (k8.mono KR.out.size))
                  clear k8 d0' d1'
                  go_wp2_with fail
                  refine (law_runs _).mono ?_
                  rintro e w9 ⟨rfl, k9⟩
                  have K9 := Lib.hid (K8.out.trans (k9.mono K8.out.size))
                  go_wp2
                  go_ret
                  exact ⟨rfl, K9.out⟩
              · obtain rfl : r = a + (d + 1) := by omega
                go_wp2_with fail
                refine (at_any s A1 n1 c1 M1 t wr XR.out (by have := N1.out; omega) bt.1 bt.2 _ HV.out).mono ?_
                rintro e w8 ⟨rfl, k8⟩
                have K8 := Lib.hid (KR.out.trans (k8.mono KR.out.size))
                clear k8 d0' d1'
                go_wp2_with fail
                refine (law_runs _).mono ?_
                rintro e w9 ⟨rfl, k9⟩
                have K9 := Lib.hid (K8.out.trans (k9.mono K8.out.size))
                go_wp2
                go_ret
                exact ⟨rfl, K9.out⟩
        · have HV := Lib.hid (HA.out.trans (if_neg (fun g => q0 g.1)))
          go_wp2
          go_loopw [17, 18, 19] (fun i _ _ wr => ∃ r : Int, a ≤ r ∧ r ≤ a + (d + 1) ∧ i = .int .i64 r ∧ Hid (Below w.heap.size w wr) ∧ Hid (Box wr w3.heap.size s A1 n1 c1) ∧ Hid (Exts wr A1 n1 c1 M1)) (fun i _ _ _ => (a + (d + 1) - intOf i).toNat)
          case atStart => exact ⟨a, Int.le_refl _, by omega, rfl, K6.out, C6.out, Y6.out⟩
          case round =>
            obtain ⟨r, r0, r1, rfl, KR, BR, XR⟩ := hrel
            clear b0 b1 d0' d1'
            have d0' := BR.out.c0; have d1' := BR.out.c1
            by_cases hlt : r < a + (d + 1)
            · by_cases hlz : r < s
              · have HD := Lib.hid (dat_here HR.out.1 (show 0 ≤ r by omega) hlz (HR.out.2.1 r r0 hlt))
                go_wp2_with fail
                refine (data_any s A1 n1 c1 M1 r wr XR.out (by have := N1.out; omega) (by omega) (by omega) _ HD.out).mono ?_
                rintro e w8 ⟨rfl, k8⟩
                have K8 := Lib.hid (KR.out.trans (k8.mono KR.out.size)); have B8 := Lib.hid (BR.out.on k8); have X8 := Lib.hid (XR.out.on k8)
                simp only [Option.getD_some, Option.isSome_some]
                clear k8 d0' d1'
                go_wp2
                go_roundw
                case rel => exact ⟨r + 1, by omega, by omega, by go_num, K8.out, B8.out, X8.out⟩
                case measure => simp [intOf]; omega
              · go_wp2_with fail
                refine (at_any s A1 n1 c1 M1 t wr XR.out (by have := N1.out; omega) bt.1 bt.2 _ HV.out).mono ?_
                rintro e w8 ⟨rfl, k8⟩
                have K8 := Lib.hid (KR.out.trans (k8.mono KR.out.size))
                clear k8 d0' d1'
                go_wp2_with fail
                refine (law_runs _).mono ?_
                rintro e w9 ⟨rfl, k9⟩
                have K9 := Lib.hid (K8.out.trans (k9.mono K8.out.size))
                go_wp2
                go_ret
                exact ⟨rfl, K9.out⟩
            · obtain rfl : r = a + (d + 1) := by omega
              go_wp2_with fail
              refine (at_any s A1 n1 c1 M1 t wr XR.out (by have := N1.out; omega) bt.1 bt.2 _ HV.out).mono ?_
              rintro e w8 ⟨rfl, k8⟩
              have K8 := Lib.hid (KR.out.trans (k8.mono KR.out.size))
              clear k8 d0' d1'
              go_wp2_with fail
              refine (law_runs _).mono ?_
              rintro e w9 ⟨rfl, k9⟩
              have K9 := Lib.hid (K8.out.trans (k9.mono K8.out.size))
              go_wp2
              go_ret
              exact ⟨rfl, K9.out⟩
      | false =>
        have hzm : z = max s (a + (d + 1)) := by rw [hzz]; rfl
        clear hzz
        by_cases gz : s < a + (d + 1)
        · have hze : z = a + (d + 1) := by omega
          clear hzm
          subst hze
          go_wp2_with fail
          rw [HW3.out]
          refine (may_any (a + (d + 1)) A1 n1 c1 M1 W3 Y3.out true HR.out.1).mono ?_
          rintro e w5 ⟨rfl, k5⟩
          have K5 := Lib.hid (K3'.out.trans (k5.mono K3'.out.size)); have B5 := Lib.hid (B3'.out.on k5); have X5 := Lib.hid (X3'.out.on k5); have C5 := Lib.hid (C3.out.on k5); have Y5 := Lib.hid (Y3.out.on k5)
          clear k5 b0 b1 d0' d1'
          have b0 := B5.out.c0; have b1 := B5.out.c1; have d0' := C5.out.c0; have d1' := C5.out.c1
          go_wp2_with fail
          obtain ⟨v0, hv0⟩ : ∃ v, atv s L t = v := ⟨_, rfl⟩
          rw [hv0] at HA
          have HV0 := Lib.hid hv0
          clear hv0
          refine (at_any s A n c L t w5 X5.out (by omega) bt.1 bt.2 v0 HV0.out).mono ?_
          rintro e wz ⟨rfl, k6⟩
          have K6 := Lib.hid (K5.out.trans (k6.mono K5.out.size)); have B6 := Lib.hid (B5.out.on k6); have X6 := Lib.hid (X5.out.on k6); have C6 := Lib.hid (C5.out.on k6); have Y6 := Lib.hid (Y5.out.on k6)
          clear k6 b0 b1 d0' d1'
          have b0 := B6.out.c0; have b1 := B6.out.c1; have d0' := C6.out.c0; have d1' := C6.out.c1
          by_cases q0 : s ≤ t
          · by_cases q1 : t < (a + (d + 1))
            · have HV := Lib.hid (HA.out.trans (if_pos ⟨q0, q1⟩))
              go_wp2
              go_loopw [17, 18, 19] (fun i _ _ wr => ∃ r : Int, a ≤ r ∧ r ≤ a + (d + 1) ∧ i = .int .i64 r ∧ Hid (Below w.heap.size w wr) ∧ Hid (Box wr w3.heap.size (a + (d + 1)) A1 n1 c1) ∧ Hid (Exts wr A1 n1 c1 M1)) (fun i _ _ _ => (a + (d + 1) - intOf i).toNat)
              case atStart => exact ⟨a, Int.le_refl _, by omega, rfl, K6.out, C6.out, Y6.out⟩
              case round =>
                obtain ⟨r, r0, r1, rfl, KR, BR, XR⟩ := hrel
                clear b0 b1 d0' d1'
                have d0' := BR.out.c0; have d1' := BR.out.c1
                by_cases hlt : r < a + (d + 1)
                · by_cases hlz : r < (a + (d + 1))
                  · have HD := Lib.hid (dat_here HR.out.1 (show 0 ≤ r by omega) hlz (HR.out.2.1 r r0 hlt))
                    go_wp2_with fail
                    refine (data_any (a + (d + 1)) A1 n1 c1 M1 r wr XR.out (by have := N1.out; omega) (by omega) (by omega) _ HD.out).mono ?_
                    rintro e w8 ⟨rfl, k8⟩
                    have K8 := Lib.hid (KR.out.trans (k8.mono KR.out.size)); have B8 := Lib.hid (BR.out.on k8); have X8 := Lib.hid (XR.out.on k8)
                    simp only [Option.getD_some, Option.isSome_some]
                    clear k8 d0' d1'
                    go_wp2
                    go_roundw
                    case rel => exact ⟨r + 1, by omega, by omega, by go_num, K8.out, B8.out, X8.out⟩
                    case measure => simp [intOf]; omega
                  · exact absurd hlt hlz
                · obtain rfl : r = a + (d + 1) := by omega
                  go_wp2_with fail
                  refine (at_any (a + (d + 1)) A1 n1 c1 M1 t wr XR.out (by have := N1.out; omega) bt.1 bt.2 _ HV.out).mono ?_
                  rintro e w8 ⟨rfl, k8⟩
                  have K8 := Lib.hid (KR.out.trans (k8.mono KR.out.size))
                  clear k8 d0' d1'
                  go_wp2_with fail
                  refine (law_runs _).mono ?_
                  rintro e w9 ⟨rfl, k9⟩
                  have K9 := Lib.hid (K8.out.trans (k9.mono K8.out.size))
                  go_wp2
                  go_ret
                  exact ⟨rfl, K9.out⟩
            · have HV := Lib.hid (HA.out.trans (if_neg (fun g => q1 g.2)))
              go_wp2
              go_loopw [17, 18, 19] (fun i _ _ wr => ∃ r : Int, a ≤ r ∧ r ≤ a + (d + 1) ∧ i = .int .i64 r ∧ Hid (Below w.heap.size w wr) ∧ Hid (Box wr w3.heap.size (a + (d + 1)) A1 n1 c1) ∧ Hid (Exts wr A1 n1 c1 M1)) (fun i _ _ _ => (a + (d + 1) - intOf i).toNat)
              case atStart => exact ⟨a, Int.le_refl _, by omega, rfl, K6.out, C6.out, Y6.out⟩
              case round =>
                obtain ⟨r, r0, r1, rfl, KR, BR, XR⟩ := hrel
                clear b0 b1 d0' d1'
                have d0' := BR.out.c0; have d1' := BR.out.c1
                by_cases hlt : r < a + (d + 1)
                · by_cases hlz : r < (a + (d + 1))
                  · have HD := Lib.hid (dat_here HR.out.1 (show 0 ≤ r by omega) hlz (HR.out.2.1 r r0 hlt))
                    go_wp2_with fail
                    refine (data_any (a + (d + 1)) A1 n1 c1 M1 r wr XR.out (by have := N1.out; omega) (by omega) (by omega) _ HD.out).mono ?_
                    rintro e w8 ⟨rfl, k8⟩
                    have K8 := Lib.hid (KR.out.trans (k8.mono KR.out.size)); have B8 := Lib.hid (BR.out.on k8); have X8 := Lib.hid (XR.out.on k8)
                    simp only [Option.getD_some, Option.isSome_some]
                    clear k8 d0' d1'
                    go_wp2
                    go_roundw
                    case rel => exact ⟨r + 1, by omega, by omega, by go_num, K8.out, B8.out, X8.out⟩
                    case measure => simp [intOf]; omega
                  · exact absurd hlt hlz
                · obtain rfl : r = a + (d + 1) := by omega
                  go_wp2_with fail
                  refine (at_any (a + (d + 1)) A1 n1 c1 M1 t wr XR.out (by have := N1.out; omega) bt.1 bt.2 _ HV.out).mono ?_
                  rintro e w8 ⟨rfl, k8⟩
                  have K8 := Lib.hid (KR.out.trans (k8.mono KR.out.size))
                  clear k8 d0' d1'
                  go_wp2_with fail
                  refine (law_runs _).mono ?_
                  rintro e w9 ⟨rfl, k9⟩
                  have K9 := Lib.hid (K8.out.trans (k9.mono K8.out.size))
                  go_wp2
                  go_ret
                  exact ⟨rfl, K9.out⟩
          · have HV := Lib.hid (HA.out.trans (if_neg (fun g => q0 g.1)))
            go_wp2
            go_loopw [17, 18, 19] (fun i _ _ wr => ∃ r : Int, a ≤ r ∧ r ≤ a + (d + 1) ∧ i = .int .i64 r ∧ Hid (Below w.heap.size w wr) ∧ Hid (Box wr w3.heap.size (a + (d + 1)) A1 n1 c1) ∧ Hid (Exts wr A1 n1 c1 M1)) (fun i _ _ _ => (a + (d + 1) - intOf i).toNat)
            case atStart => exact ⟨a, Int.le_refl _, by omega, rfl, K6.out, C6.out, Y6.out⟩
            case round =>
              obtain ⟨r, r0, r1, rfl, KR, BR, XR⟩ := hrel
              clear b0 b1 d0' d1'
              have d0' := BR.out.c0; have d1' := BR.out.c1
              by_cases hlt : r < a + (d + 1)
              · by_cases hlz : r < (a + (d + 1))
                · have HD := Lib.hid (dat_here HR.out.1 (show 0 ≤ r by omega) hlz (HR.out.2.1 r r0 hlt))
                  go_wp2_with fail
                  refine (data_any (a + (d + 1)) A1 n1 c1 M1 r wr XR.out (by have := N1.out; omega) (by omega) (by omega) _ HD.out).mono ?_
                  rintro e w8 ⟨rfl, k8⟩
                  have K8 := Lib.hid (KR.out.trans (k8.mono KR.out.size)); have B8 := Lib.hid (BR.out.on k8); have X8 := Lib.hid (XR.out.on k8)
                  simp only [Option.getD_some, Option.isSome_some]
                  clear k8 d0' d1'
                  go_wp2
                  go_roundw
                  case rel => exact ⟨r + 1, by omega, by omega, by go_num, K8.out, B8.out, X8.out⟩
                  case measure => simp [intOf]; omega
                · exact absurd hlt hlz
              · obtain rfl : r = a + (d + 1) := by omega
                go_wp2_with fail
                refine (at_any (a + (d + 1)) A1 n1 c1 M1 t wr XR.out (by have := N1.out; omega) bt.1 bt.2 _ HV.out).mono ?_
                rintro e w8 ⟨rfl, k8⟩
                have K8 := Lib.hid (KR.out.trans (k8.mono KR.out.size))
                clear k8 d0' d1'
                go_wp2_with fail
                refine (law_runs _).mono ?_
                rintro e w9 ⟨rfl, k9⟩
                have K9 := Lib.hid (K8.out.trans (k9.mono K8.out.size))
                go_wp2
                go_ret
                exact ⟨rfl, K9.out⟩
        · have hze : s = z := by omega
          clear hzm
          subst hze
          go_wp2_with fail
          rw [HW3.out]
          refine (may_any s A1 n1 c1 M1 W3 Y3.out true HR.out.1).mono ?_
          rintro e w5 ⟨rfl, k5⟩
          have K5 := Lib.hid (K3'.out.trans (k5.mono K3'.out.size)); have B5 := Lib.hid (B3'.out.on k5); have X5 := Lib.hid (X3'.out.on k5); have C5 := Lib.hid (C3.out.on k5); have Y5 := Lib.hid (Y3.out.on k5)
          clear k5 b0 b1 d0' d1'
          have b0 := B5.out.c0; have b1 := B5.out.c1; have d0' := C5.out.c0; have d1' := C5.out.c1
          go_wp2_with fail
          obtain ⟨v0, hv0⟩ : ∃ v, atv s L t = v := ⟨_, rfl⟩
          rw [hv0] at HA
          have HV0 := Lib.hid hv0
          clear hv0
          refine (at_any s A n c L t w5 X5.out (by omega) bt.1 bt.2 v0 HV0.out).mono ?_
          rintro e wz ⟨rfl, k6⟩
          have K6 := Lib.hid (K5.out.trans (k6.mono K5.out.size)); have B6 := Lib.hid (B5.out.on k6); have X6 := Lib.hid (X5.out.on k6); have C6 := Lib.hid (C5.out.on k6); have Y6 := Lib.hid (Y5.out.on k6)
          clear k6 b0 b1 d0' d1'
          have b0 := B6.out.c0; have b1 := B6.out.c1; have d0' := C6.out.c0; have d1' := C6.out.c1
          by_cases q0 : s ≤ t
          · by_cases q1 : t < s
            · exact absurd q1 (by omega)
            · have HV := Lib.hid (HA.out.trans (if_neg (fun g => q1 g.2)))
              go_wp2
              go_loopw [17, 18, 19] (fun i _ _ wr => ∃ r : Int, a ≤ r ∧ r ≤ a + (d + 1) ∧ i = .int .i64 r ∧ Hid (Below w.heap.size w wr) ∧ Hid (Box wr w3.heap.size s A1 n1 c1) ∧ Hid (Exts wr A1 n1 c1 M1)) (fun i _ _ _ => (a + (d + 1) - intOf i).toNat)
              case atStart => exact ⟨a, Int.le_refl _, by omega, rfl, K6.out, C6.out, Y6.out⟩
              case round =>
                obtain ⟨r, r0, r1, rfl, KR, BR, XR⟩ := hrel
                clear b0 b1 d0' d1'
                have d0' := BR.out.c0; have d1' := BR.out.c1
                by_cases hlt : r < a + (d + 1)
                · by_cases hlz : r < s
                  · have HD := Lib.hid (dat_here HR.out.1 (show 0 ≤ r by omega) hlz (HR.out.2.1 r r0 hlt))
                    go_wp2_with fail
                    refine (data_any s A1 n1 c1 M1 r wr XR.out (by have := N1.out; omega) (by omega) (by omega) _ HD.out).mono ?_
                    rintro e w8 ⟨rfl, k8⟩
                    have K8 := Lib.hid (KR.out.trans (k8.mono KR.out.size)); have B8 := Lib.hid (BR.out.on k8); have X8 := Lib.hid (XR.out.on k8)
                    simp only [Option.getD_some, Option.isSome_some]
                    clear k8 d0' d1'
                    go_wp2
                    go_roundw
                    case rel => exact ⟨r + 1, by omega, by omega, by go_num, K8.out, B8.out, X8.out⟩
                    case measure => simp [intOf]; omega
                  · go_wp2_with fail
                    refine (at_any s A1 n1 c1 M1 t wr XR.out (by have := N1.out; omega) bt.1 bt.2 _ HV.out).mono ?_
                    rintro e w8 ⟨rfl, k8⟩
                    have K8 := Lib.hid (KR.out.trans (k8.mono KR.out.size))
                    clear k8 d0' d1'
                    go_wp2_with fail
                    refine (law_runs _).mono ?_
                    rintro e w9 ⟨rfl, k9⟩
                    have K9 := Lib.hid (K8.out.trans (k9.mono K8.out.size))
                    go_wp2
                    go_ret
                    exact ⟨rfl, K9.out⟩
                · obtain rfl : r = a + (d + 1) := by omega
                  go_wp2_with fail
                  refine (at_any s A1 n1 c1 M1 t wr XR.out (by have := N1.out; omega) bt.1 bt.2 _ HV.out).mono ?_
                  rintro e w8 ⟨rfl, k8⟩
                  have K8 := Lib.hid (KR.out.trans (k8.mono KR.out.size))
                  clear k8 d0' d1'
                  go_wp2_with fail
                  refine (law_runs _).mono ?_
                  rintro e w9 ⟨rfl, k9⟩
                  have K9 := Lib.hid (K8.out.trans (k9.mono K8.out.size))
                  go_wp2
                  go_ret
                  exact ⟨rfl, K9.out⟩
          · have HV := Lib.hid (HA.out.trans (if_neg (fun g => q0 g.1)))
            go_wp2
            go_loopw [17, 18, 19] (fun i _ _ wr => ∃ r : Int, a ≤ r ∧ r ≤ a + (d + 1) ∧ i = .int .i64 r ∧ Hid (Below w.heap.size w wr) ∧ Hid (Box wr w3.heap.size s A1 n1 c1) ∧ Hid (Exts wr A1 n1 c1 M1)) (fun i _ _ _ => (a + (d + 1) - intOf i).toNat)
            case atStart => exact ⟨a, Int.le_refl _, by omega, rfl, K6.out, C6.out, Y6.out⟩
            case round =>
              obtain ⟨r, r0, r1, rfl, KR, BR, XR⟩ := hrel
              clear b0 b1 d0' d1'
              have d0' := BR.out.c0; have d1' := BR.out.c1
              by_cases hlt : r < a + (d + 1)
              · by_cases hlz : r < s
                · have HD := Lib.hid (dat_here HR.out.1 (show 0 ≤ r by omega) hlz (HR.out.2.1 r r0 hlt))
                  go_wp2_with fail
                  refine (data_any s A1 n1 c1 M1 r wr XR.out (by have := N1.out; omega) (by omega) (by omega) _ HD.out).mono ?_
                  rintro e w8 ⟨rfl, k8⟩
                  have K8 := Lib.hid (KR.out.trans (k8.mono KR.out.size)); have B8 := Lib.hid (BR.out.on k8); have X8 := Lib.hid (XR.out.on k8)
                  simp only [Option.getD_some, Option.isSome_some]
                  clear k8 d0' d1'
                  go_wp2
                  go_roundw
                  case rel => exact ⟨r + 1, by omega, by omega, by go_num, K8.out, B8.out, X8.out⟩
                  case measure => simp [intOf]; omega
                · go_wp2_with fail
                  refine (at_any s A1 n1 c1 M1 t wr XR.out (by have := N1.out; omega) bt.1 bt.2 _ HV.out).mono ?_
                  rintro e w8 ⟨rfl, k8⟩
                  have K8 := Lib.hid (KR.out.trans (k8.mono KR.out.size))
                  clear k8 d0' d1'
                  go_wp2_with fail
                  refine (law_runs _).mono ?_
                  rintro e w9 ⟨rfl, k9⟩
                  have K9 := Lib.hid (K8.out.trans (k9.mono K8.out.size))
                  go_wp2
                  go_ret
                  exact ⟨rfl, K9.out⟩
              · obtain rfl : r = a + (d + 1) := by omega
                go_wp2_with fail
                refine (at_any s A1 n1 c1 M1 t wr XR.out (by have := N1.out; omega) bt.1 bt.2 _ HV.out).mono ?_
                rintro e w8 ⟨rfl, k8⟩
                have K8 := Lib.hid (KR.out.trans (k8.mono KR.out.size))
                clear k8 d0' d1'
                go_wp2_with fail
                refine (law_runs _).mono ?_
                rintro e w9 ⟨rfl, k9⟩
                have K9 := Lib.hid (K8.out.trans (k9.mono K8.out.size))
                go_wp2
                go_ret
                exact ⟨rfl, K9.out⟩
    · refine (may_any s A n c L w1 X1.out false (by simpa using gm)).mono ?_
      rintro e w2 ⟨rfl, k2⟩
      have K2 := Lib.hid (K1.out.trans (k2.mono K1.out.size))
      go_wp2_with fail
      refine (law_runs _).mono ?_
      rintro e w3 ⟨rfl, k3⟩
      have K3 := Lib.hid (K2.out.trans (k3.mono K2.out.size))
      go_wp2
      go_ret
      exact ⟨rfl, K3.out⟩
  · rw [show decide (n ≤ 60) = false from decide_eq_false g]
    go_wp2_with fail
    refine (law_runs _).mono ?_
    rintro e w2 ⟨rfl, k2⟩
    have K2 := Lib.hid (K1.out.trans (k2.mono K1.out.size))
    go_wp2
    go_ret
    exact ⟨rfl, K2.out⟩
end Go.Proofs.Ytigfimlpjmmpoaa
