/- Contract of the law ExtentSized. -/
import Derived.Test.YtigfimlpjmmpoaaLawR
import Derived.Test.YtigfimlpjmmpoaaLawB
import Derived.Test.YtigfimlpjmmpoaaWalksG
import Derived.WalkKit
import Derived.WalkSpells
import Derived.WalkLawsBesides
import Derived.Lib.Hide
import Derived.BigQuiet
import Derived.OpenShut
namespace Go.Proofs.Ytigfimlpjmmpoaa
open Go.RowKit

set_option maxRecDepth 100000 in
set_option maxHeartbeats 4000000 in
theorem law_sized (s : Int) (A : Option Addr) (n c : Nat) (L : List Ex) (x y t : Int) (w : World) (h : Exts w A n c L) (_ : (Lit.int .i64 s).wf = true) (hx : (Lit.int .u16 x).wf = true) (hy : (Lit.int .u16 y).wf = true) (ht : (Lit.int .i64 t).wf = true) :
    Calls Try.prog 8 #[ct s A n c, .int .u16 x, .int .u16 y, .int .i64 t] w (TruthPost true w) := by
  have bx := bounds_u16 hx
  have bY := bounds_u16 hy
  have bt := bounds_i64 ht
  clear hx hy ht
  have K0 := Lib.hid (show Below w.heap.size w (w.alloc (.cells #[.int .i64 s, .slice A n c] 24)) from (Below.refl _ _).alloc (Nat.le_refl _) _)
  have B0 := Lib.hid (box_new w s A n c)
  have X0 := Lib.hid (h.on K0.out)
  have b0 := B0.out.c0; have b1 := B0.out.c1
  clear h
  show Calls Try.prog 8 #[.agg #[.int .i64 s, .slice A n c], .int .u16 x, .int .u16 y, .int .i64 t] w _
  go_enter Try.func8, Try.ntmps8
  go_wp2_with fail
  refine (few_any s A n c _).mono ?_
  rintro e w1 ⟨rfl, k1⟩
  have K1 := Lib.hid (K0.out.trans (k1.mono K0.out.size)); have B1 := Lib.hid (B0.out.on k1); have X1 := Lib.hid (X0.out.on k1)
  clear k1 b0 b1
  have b0 := B1.out.c0; have b1 := B1.out.c1
  by_cases g : n ≤ 60
  · rw [show decide (n ≤ 60) = true from decide_eq_true g]
    go_wp2_with fail
    by_cases gm : may s L = true
    · refine (may_any s A n c L w1 X1.out true gm).mono ?_
      rintro e w2 ⟨rfl, k2⟩
      have K2 := Lib.hid (K1.out.trans (k2.mono K1.out.size)); have B2 := Lib.hid (B1.out.on k2); have X2 := Lib.hid (X1.out.on k2)
      clear k2 b0 b1
      have b0 := B2.out.c0; have b1 := B2.out.c1
      have GM := Lib.hid gm
      have hlen : n ≤ 60 := g
      clear g gm
      obtain ⟨a, ha, a0, a1⟩ : ∃ a : Int, x.tmod 600 = a ∧ 0 ≤ a ∧ a < 600 := ⟨_, rfl, by rw [Int.tmod_eq_emod_of_nonneg bx.1]; omega, by rw [Int.tmod_eq_emod_of_nonneg bx.1]; omega⟩
      obtain ⟨d, hd, d0, d1⟩ : ∃ d : Int, y.tmod 600 = d ∧ 0 ≤ d ∧ d < 600 := ⟨_, rfl, by rw [Int.tmod_eq_emod_of_nonneg bY.1]; omega, by rw [Int.tmod_eq_emod_of_nonneg bY.1]; omega⟩
      go_wp2_with fail
      refine (trunc_any s A n c L a w2 X2.out (by omega) true (by simp [a0, GM.out]; omega)).mono ?_
      rintro e w3 ⟨A1, n1, c1, M1, rfl, hM1, x1, k3⟩
      rw [if_pos rfl] at hM1 ⊢
      subst hM1
      have N1 := Lib.hid (show n1 ≤ 60 by have := wo_le L a 1099511627776; have := X2.out.len; have := x1.len; omega)
      have K3 := Lib.hid (K2.out.trans (k3.mono K2.out.size)); have B3 := Lib.hid (B2.out.on k3); have X3 := Lib.hid (X2.out.on k3)
      obtain ⟨W3, hW3⟩ : ∃ W, w3.alloc (.cells #[.int .i64 a, .slice A1 n1 c1] 24) = W := ⟨_, rfl⟩
      have KW3 := Lib.hid (show Below w3.heap.size w3 W3 by rw [← hW3]; exact (Below.refl _ _).alloc (Nat.le_refl _) _)
      have C3 := Lib.hid (show Box W3 w3.heap.size a A1 n1 c1 by rw [← hW3]; exact box_new w3 a A1 n1 c1)
      have Y3 := Lib.hid (x1.on KW3.out)
      have B3' := Lib.hid (B3.out.on KW3.out); have X3' := Lib.hid (X3.out.on KW3.out)
      have K3' := Lib.hid (K3.out.trans (KW3.out.mono K3.out.size))
      have HW3 := Lib.hid hW3
      clear k3 b0 b1 x1 hW3
      unfold ct
      go_wp2_with fail
      rw [HW3.out]
      have b0 := B3'.out.c0; have b1 := B3'.out.c1; have d0' := C3.out.c0; have d1' := C3.out.c1
      go_wp2_with fail
      refine (trunc_any a A1 n1 c1 _ (a + d) W3 Y3.out (by have := N1.out; omega) true (by simp [may_cut GM.out a0 (by omega : a ≤ 1099511627776)]; omega)).mono ?_
      rintro e w4 ⟨A2, n2, c2, M2, rfl, hM2, x2, k4⟩
      rw [if_pos rfl] at hM2 ⊢
      subst hM2
      have K4 := Lib.hid (K3'.out.trans (k4.mono K3'.out.size)); have B4 := Lib.hid (B3'.out.on k4); have C4 := Lib.hid (C3.out.on k4); have Y4 := Lib.hid (Y3.out.on k4); have X4 := Lib.hid (X3'.out.on k4)
      have N2 := Lib.hid (show n2 ≤ 60 by have := wo_le (wo L a 1099511627776) (a + d) 1099511627776; have := Y3.out.len; have := x2.len; have := N1.out; omega)
      obtain ⟨W4, hW4⟩ : ∃ W, w4.alloc (.cells #[.int .i64 (a + d), .slice A2 n2 c2] 24) = W := ⟨_, rfl⟩
      have KW4 := Lib.hid (show Below w4.heap.size w4 W4 by rw [← hW4]; exact (Below.refl _ _).alloc (Nat.le_refl _) _)
      have D4 := Lib.hid (show Box W4 w4.heap.size (a + d) A2 n2 c2 by rw [← hW4]; exact box_new w4 (a + d) A2 n2 c2)
      have Z4 := Lib.hid (x2.on KW4.out)
      have B4' := Lib.hid (B4.out.on KW4.out); have C4' := Lib.hid (C4.out.on KW4.out); have Y4' := Lib.hid (Y4.out.on KW4.out); have X4' := Lib.hid (X4.out.on KW4.out)
      have K4' := Lib.hid (K4.out.trans (KW4.out.mono K4.out.size))
      have HW4 := Lib.hid hW4
      clear k4 b0 b1 d0' d1' x2 hW4
      have b0 := B4'.out.c0; have b1 := B4'.out.c1; have d0' := C4'.out.c0; have d1' := C4'.out.c1; have e0 := D4.out.c0; have e1 := D4.out.c1
      rw [← HW4.out] at b0 b1 d0' d1' e0 e1
      unfold ct
      go_wp2_with fail
      rw [HW4.out]
      have G1 := Lib.hid (may_cut GM.out a0 (by omega : a ≤ 1099511627776))
      have G2 := Lib.hid (may_cut G1.out (by omega : 0 ≤ a + d) (by omega : a + d ≤ 1099511627776))
      have HA := Lib.hid (sized_at GM.out a0 (by omega : a ≤ a + d) (by omega) t)
      have HN := Lib.hid (fun j hj => sized_no (a := a) (b := a + d) GM.out j hj)
      generalize hM1 : wo L a 1099511627776 = M1 at *
      generalize hM2 : wo M1 (a + d) 1099511627776 = M2 at *
      refine (may_any a A1 n1 c1 M1 W4 Y4'.out true G1.out).mono ?_
      rintro e w5 ⟨rfl, k5⟩
      have K5 := Lib.hid (K4'.out.trans (k5.mono K4'.out.size)); have B5 := Lib.hid (B4'.out.on k5); have X5 := Lib.hid (X4'.out.on k5); have D5 := Lib.hid (D4.out.on k5); have Z5 := Lib.hid (Z4.out.on k5)
      clear k5 b0 b1 d0' d1' e0 e1
      have b0 := B5.out.c0; have b1 := B5.out.c1; have e0 := D5.out.c0; have e1 := D5.out.c1
      go_wp2_with fail
      refine (may_any (a + d) A2 n2 c2 M2 w5 Z5.out true G2.out).mono ?_
      rintro e wz ⟨rfl, k6⟩
      have K6 := Lib.hid (K5.out.trans (k6.mono K5.out.size)); have B6 := Lib.hid (B5.out.on k6); have X6 := Lib.hid (X5.out.on k6); have D6 := Lib.hid (D5.out.on k6); have Z6 := Lib.hid (Z5.out.on k6)
      clear k6 b0 b1 e0 e1
      have b0 := B6.out.c0; have b1 := B6.out.c1; have e0 := D6.out.c0; have e1 := D6.out.c1
      have hmx := Z6.out.max
      have HN2 := Lib.hid N2.out
      clear hM1 hM2
      by_cases q0 : t < 0 ∨ a + d ≤ t
      · have HV := Lib.hid (HA.out.trans (if_pos q0))
        rcases q0 with q0 | q0
        all_goals
          go_wp2
          go_loop [16] (fun i => ∃ j : Nat, j ≤ n2 ∧ i = .int .i64 j) (fun i => n2 - (intOf i).toNat)
          case atStart => exact ⟨0, Nat.zero_le _, rfl⟩
          case round =>
            obtain ⟨j, hj, rfl⟩ := hrel
            by_cases hlt : j < n2
            · obtain ⟨b, o, rfl, hb, _⟩ := Z6.out.cells (by omega)
              have cn := Z6.out.no j hlt
              have hji : (j : Int) < (n2 : Int) := by omega
              have hn := HN.out j (by rw [Z6.out.len]; exact hlt)
              generalize (M2.getD j default).no = no at *
              obtain ⟨n0, n1'⟩ := hn
              go_wp2
              go_round
              case rel => exact ⟨j + 1, by omega, by go_num⟩
              case measure => simp [intOf]; omega
            · obtain rfl : j = n2 := by omega
              go_wp2_with fail
              refine (at_any (a + d) A2 j c2 M2 t wz Z6.out (by have := N2.out; omega) bt.1 bt.2 _ HV.out).mono ?_
              rintro e w8 ⟨rfl, k8⟩
              have K8 := Lib.hid (K6.out.trans (k8.mono K6.out.size))
              clear k8 b0 b1 e0 e1
              go_wp2_with fail
              refine (law_runs _).mono ?_
              rintro e w9 ⟨rfl, k9⟩
              have K9 := Lib.hid (K8.out.trans (k9.mono K8.out.size))
              go_wp2
              go_ret
              exact ⟨rfl, K9.out⟩
      · obtain ⟨q1, q2⟩ : 0 ≤ t ∧ t < a + d := by omega
        have HV0 := Lib.hid (HA.out.trans (if_neg q0))
        clear q0
        by_cases q3 : t < a
        · by_cases q4 : t < s
          · have HV := Lib.hid (HV0.out.trans (if_pos ⟨q3, q4⟩))
            have HC := Lib.hid (show atv s L t = at_ L t by rw [atv_eq GM.out, if_pos ⟨q1, q4⟩])
            clear HV0
            go_wp2_with fail
            refine (at_any s A n c L t wz X6.out (by omega) bt.1 bt.2 _ HC.out).mono ?_
            rintro e wy ⟨rfl, k7⟩
            have K6 := Lib.hid (K6.out.trans (k7.mono K6.out.size)); have D6 := Lib.hid (D6.out.on k7); have Z6 := Lib.hid (Z6.out.on k7)
            clear k7 b0 b1 e0 e1
            have b0 := K6.out.size; have b1 := b0
            have e0 := D6.out.c0; have e1 := D6.out.c1
            go_wp2
            go_loop [16] (fun i => ∃ j : Nat, j ≤ n2 ∧ i = .int .i64 j) (fun i => n2 - (intOf i).toNat)
            case atStart => exact ⟨0, Nat.zero_le _, rfl⟩
            case round =>
              obtain ⟨j, hj, rfl⟩ := hrel
              by_cases hlt : j < n2
              · obtain ⟨b, o, rfl, hb, _⟩ := Z6.out.cells (by omega)
                have cn := Z6.out.no j hlt
                have hji : (j : Int) < (n2 : Int) := by omega
                have hn := HN.out j (by rw [Z6.out.len]; exact hlt)
                generalize (M2.getD j default).no = no at *
                obtain ⟨n0, n1'⟩ := hn
                go_wp2
                go_round
                case rel => exact ⟨j + 1, by omega, by go_num⟩
                case measure => simp [intOf]; omega
              · obtain rfl : j = n2 := by omega
                go_wp2_with fail
                refine (at_any (a + d) A2 j c2 M2 t wy Z6.out (by have := N2.out; omega) bt.1 bt.2 _ HV.out).mono ?_
                rintro e w8 ⟨rfl, k8⟩
                have K8 := Lib.hid (K6.out.trans (k8.mono K6.out.size))
                clear k8 b0 b1 e0 e1
                go_wp2_with fail
                refine (law_runs _).mono ?_
                rintro e w9 ⟨rfl, k9⟩
                have K9 := Lib.hid (K8.out.trans (k9.mono K8.out.size))
                go_wp2
                go_ret
                exact ⟨rfl, K9.out⟩
          · have HV := Lib.hid (HV0.out.trans (if_neg (fun g => q4 g.2)))
            go_wp2
            go_loop [16] (fun i => ∃ j : Nat, j ≤ n2 ∧ i = .int .i64 j) (fun i => n2 - (intOf i).toNat)
            case atStart => exact ⟨0, Nat.zero_le _, rfl⟩
            case round =>
              obtain ⟨j, hj, rfl⟩ := hrel
              by_cases hlt : j < n2
              · obtain ⟨b, o, rfl, hb, _⟩ := Z6.out.cells (by omega)
                have cn := Z6.out.no j hlt
                have hji : (j : Int) < (n2 : Int) := by omega
                have hn := HN.out j (by rw [Z6.out.len]; exact hlt)
                generalize (M2.getD j default).no = no at *
                obtain ⟨n0, n1'⟩ := hn
                go_wp2
                go_round
                case rel => exact ⟨j + 1, by omega, by go_num⟩
                case measure => simp [intOf]; omega
              · obtain rfl : j = n2 := by omega
                go_wp2_with fail
                refine (at_any (a + d) A2 j c2 M2 t wz Z6.out (by have := N2.out; omega) bt.1 bt.2 _ HV.out).mono ?_
                rintro e w8 ⟨rfl, k8⟩
                have K8 := Lib.hid (K6.out.trans (k8.mono K6.out.size))
                clear k8 b0 b1 e0 e1
                go_wp2_with fail
                refine (law_runs _).mono ?_
                rintro e w9 ⟨rfl, k9⟩
                have K9 := Lib.hid (K8.out.trans (k9.mono K8.out.size))
                go_wp2
                go_ret
                exact ⟨rfl, K9.out⟩
        · have HV := Lib.hid (HV0.out.trans (if_neg (fun g => q3 g.1)))
          go_wp2
          go_loop [16] (fun i => ∃ j : Nat, j ≤ n2 ∧ i = .int .i64 j) (fun i => n2 - (intOf i).toNat)
          case atStart => exact ⟨0, Nat.zero_le _, rfl⟩
          case round =>
            obtain ⟨j, hj, rfl⟩ := hrel
            by_cases hlt : j < n2
            · obtain ⟨b, o, rfl, hb, _⟩ := Z6.out.cells (by omega)
              have cn := Z6.out.no j hlt
              have hji : (j : Int) < (n2 : Int) := by omega
              have hn := HN.out j (by rw [Z6.out.len]; exact hlt)
              generalize (M2.getD j default).no = no at *
              obtain ⟨n0, n1'⟩ := hn
              go_wp2
              go_round
              case rel => exact ⟨j + 1, by omega, by go_num⟩
              case measure => simp [intOf]; omega
            · obtain rfl : j = n2 := by omega
              go_wp2_with fail
              refine (at_any (a + d) A2 j c2 M2 t wz Z6.out (by have := N2.out; omega) bt.1 bt.2 _ HV.out).mono ?_
              rintro e w8 ⟨rfl, k8⟩
              have K8 := Lib.hid (K6.out.trans (k8.mono K6.out.size))
              clear k8 b0 b1 e0 e1
              go_wp2_with fail
              refine (law_runs _).mono ?_
              rintro e w9 ⟨rfl, k9⟩
              have K9 := Lib.hid (K8.out.trans (k9.mono K8.out.size))
              go_wp2
              go_ret
              exact ⟨rfl, K9.out⟩
    · refine (may_any s A n c L w1 X1.out false (by simpa using gm)).mono ?_
      rintro e w2 ⟨rfl, k2⟩
      have K2 := Lib.hid (K1.out.trans (k2.mono K1.out.size))
      go_wp2_with fail
      refine (law_runs _).mono ?_
      rintro e w3 ⟨rfl, k3⟩
      have K3 := Lib.hid (K2.out.trans (k3.mono K2.out.size))
      go_wp2
      go_ret
      exact ⟨rfl, K3.out⟩
  · rw [show decide (n ≤ 60) = false from decide_eq_false g]
    go_wp2_with fail
    refine (law_runs _).mono ?_
    rintro e w2 ⟨rfl, k2⟩
    have K2 := Lib.hid (K1.out.trans (k2.mono K1.out.size))
    go_wp2
    go_ret
    exact ⟨rfl, K2.out⟩
end Go.Proofs.Ytigfimlpjmmpoaa
