/- Contract of the law ExtentSeeks. -/
import Derived.Test.YtigfimlpjmmpoaaLawR
import Derived.Test.YtigfimlpjmmpoaaLawC
import Derived.WalkKit
import Derived.WalkSpells
import Derived.WalkLawsBesides
import Derived.Lib.Hide
import Derived.BigQuiet
import Derived.OpenShut
namespace Go.Proofs.Ytigfimlpjmmpoaa
open Go.RowKit

set_option maxRecDepth 100000 in
set_option maxHeartbeats 4000000 in
theorem law_seeks (s : Int) (A : Option Addr) (n c : Nat) (L : List Ex) (x : Int) (w : World) (h : Exts w A n c L) (hs : (Lit.int .i64 s).wf = true) (hx : (Lit.int .u16 x).wf = true) :
    Calls Try.prog 11 #[ct s A n c, .int .u16 x] w (TruthPost true w) := by
  have bx := bounds_u16 hx
  have bs := bounds_i64 hs
  clear hs hx
  have K0 := Lib.hid (show Below w.heap.size w (w.alloc (.cells #[.int .i64 s, .slice A n c] 24)) from (Below.refl _ _).alloc (Nat.le_refl _) _)
  have B0 := Lib.hid (box_new w s A n c)
  have X0 := Lib.hid (h.on K0.out)
  have b0 := B0.out.c0; have b1 := B0.out.c1
  clear h
  show Calls Try.prog 11 #[.agg #[.int .i64 s, .slice A n c], .int .u16 x] w _
  go_enter Try.func11, Try.ntmps11
  go_wp2_with fail
  refine (few_any s A n c _).mono ?_
  rintro e w1 ⟨rfl, k1⟩
  have K1 := Lib.hid (K0.out.trans (k1.mono K0.out.size)); have B1 := Lib.hid (B0.out.on k1); have X1 := Lib.hid (X0.out.on k1)
  clear k1 b0 b1
  have b0 := B1.out.c0; have b1 := B1.out.c1
  by_cases g : n ≤ 60
  · rw [show decide (n ≤ 60) = true from decide_eq_true g]
    go_wp2_with fail
    by_cases gm : may s L = true
    · refine (may_any s A n c L w1 X1.out true gm).mono ?_
      rintro e w2 ⟨rfl, k2⟩
      have K2 := Lib.hid (K1.out.trans (k2.mono K1.out.size)); have B2 := Lib.hid (B1.out.on k2); have X2 := Lib.hid (X1.out.on k2)
      clear k2 b0 b1
      have b0 := B2.out.c0; have b1 := B2.out.c1
      have GM := Lib.hid gm
      have hlen : n ≤ 60 := g
      clear g gm
      by_cases sz : s ≤ 2000
      · have hs0 := ((may_iff _ _).1 GM.out).s0
        obtain ⟨p, hp, p0, p1⟩ : ∃ p : Int, x.tmod (s + 1) = p ∧ 0 ≤ p ∧ p ≤ s := ⟨_, rfl, by rw [Int.tmod_eq_emod_of_nonneg bx.1]; exact Int.emod_nonneg _ (by omega), by rw [Int.tmod_eq_emod_of_nonneg bx.1]; have := Int.emod_lt_of_pos x (show 0 < s + 1 by omega); omega⟩
        obtain ⟨dd, hdd⟩ : ∃ d, dat s L p = d := ⟨_, rfl⟩
        obtain ⟨uu, huu⟩ : ∃ d, hol s L p = d := ⟨_, rfl⟩
        have HD := Lib.hid hdd; have HU := Lib.hid huu
        clear hdd huu
        have hn1 : ¬ (s + 1 = 0) := by omega
        go_wp2_with fail
        refine (data_any s A n c L p w2 X2.out (by omega) (by omega) (by omega) dd HD.out).mono ?_
        rintro e w3 ⟨rfl, k3⟩
        have K3 := Lib.hid (K2.out.trans (k3.mono K2.out.size)); have B3 := Lib.hid (B2.out.on k3); have X3 := Lib.hid (X2.out.on k3)
        clear k3 b0 b1
        have b0 := B3.out.c0; have b1 := B3.out.c1
        go_wp2_with fail
        refine (hole_any s A n c L p w3 X3.out (by omega) (by omega) (by omega) uu HU.out).mono ?_
        rintro e wz ⟨rfl, k4⟩
        have K4 := Lib.hid (K3.out.trans (k4.mono K3.out.size)); have B4 := Lib.hid (B3.out.on k4); have X4 := Lib.hid (X3.out.on k4)
        clear k4 b0 b1
        have b0 := B4.out.c0; have b1 := B4.out.c1
        by_cases q : p < s
        · obtain ⟨u, hu, u0, u1, u2, u3⟩ := hol_is GM.out p0 q
          obtain rfl : uu = some u := HU.out.symm.trans hu
          simp only [Option.getD_some, Option.isSome_some]
          by_cases g : look L (p / 8) = none
          · obtain rfl : u = p := u2 g
            clear u2 u3 hu
            have HZ := Lib.hid (fun i h1 h2 => dat_zero GM.out p0 i h1 h2)
            cases dd with
            | none =>
              have HZ2 := Lib.hid (show ∀ i, u ≤ i → i < s → at_ L i = 0 from fun i h1 h2 => HZ.out i h1 (by rw [HD.out]; exact h2))
              simp only [Option.getD_none, Option.isSome_none]
              clear g HZ
              go_wp2
              go_loopw [11] (fun i wr => ∃ z : Int, u ≤ z ∧ z ≤ s ∧ i = .int .i64 z ∧ Hid (Below w.heap.size w wr) ∧ Hid (Box wr w.heap.size s A n c) ∧ Hid (Exts wr A n c L)) (fun i _ => (s - intOf i).toNat)
              case atStart => exact ⟨u, Int.le_refl _, by omega, rfl, K4.out, B4.out, X4.out⟩
              case round =>
                obtain ⟨z, z0, z1, rfl, KR, BR, XR⟩ := hrel
                clear b0 b1
                have b0 := BR.out.c0; have b1 := BR.out.c1
                by_cases hlt : z < s
                · have HV := Lib.hid (show atv s L z = 0 by rw [atv_eq GM.out, if_pos (by omega)]; exact HZ2.out z z0 hlt)
                  go_wp2_with fail
                  refine (at_any s A n c L z wr XR.out (by omega) (by omega) (by omega) _ HV.out).mono ?_
                  rintro e w8 ⟨rfl, k8⟩
                  have K8 := Lib.hid (KR.out.trans (k8.mono KR.out.size)); have B8 := Lib.hid (BR.out.on k8); have X8 := Lib.hid (XR.out.on k8)
                  clear k8
                  go_wp2
                  go_roundw
                  case rel => exact ⟨z + 1, by omega, by omega, by go_num, K8.out, B8.out, X8.out⟩
                  case measure => simp [intOf]; omega
                · obtain rfl : z = s := by omega
                  go_wp2_with fail
                  refine (law_runs _).mono ?_
                  rintro e w9 ⟨rfl, k9⟩
                  have K9 := Lib.hid (KR.out.trans (k9.mono KR.out.size))
                  go_wp2
                  go_ret
                  exact ⟨by first | rfl | exact ret_bool (by simp; omega), K9.out⟩
            | some d =>
              obtain ⟨g1, g2⟩ := dat_not GM.out g d HD.out
              have HZ2 := Lib.hid (show ∀ i, u ≤ i → i < d → at_ L i = 0 from fun i h1 h2 => HZ.out i h1 (by rw [HD.out]; exact h2))
              simp only [Option.getD_some, Option.isSome_some]
              clear g HZ
              go_wp2
              go_loopw [11] (fun i wr => ∃ z : Int, u ≤ z ∧ z ≤ d ∧ i = .int .i64 z ∧ Hid (Below w.heap.size w wr) ∧ Hid (Box wr w.heap.size s A n c) ∧ Hid (Exts wr A n c L)) (fun i _ => (d - intOf i).toNat)
              case atStart => exact ⟨u, Int.le_refl _, by omega, rfl, K4.out, B4.out, X4.out⟩
              case round =>
                obtain ⟨z, z0, z1, rfl, KR, BR, XR⟩ := hrel
                clear b0 b1
                have b0 := BR.out.c0; have b1 := BR.out.c1
                by_cases hlt : z < d
                · have HV := Lib.hid (show atv s L z = 0 by rw [atv_eq GM.out, if_pos (by omega)]; exact HZ2.out z z0 hlt)
                  go_wp2_with fail
                  refine (at_any s A n c L z wr XR.out (by omega) (by omega) (by omega) _ HV.out).mono ?_
                  rintro e w8 ⟨rfl, k8⟩
                  have K8 := Lib.hid (KR.out.trans (k8.mono KR.out.size)); have B8 := Lib.hid (BR.out.on k8); have X8 := Lib.hid (XR.out.on k8)
                  clear k8
                  go_wp2
                  go_roundw
                  case rel => exact ⟨z + 1, by omega, by omega, by go_num, K8.out, B8.out, X8.out⟩
                  case measure => simp [intOf]; omega
                · obtain rfl : z = d := by omega
                  go_wp2_with fail
                  refine (law_runs _).mono ?_
                  rintro e w9 ⟨rfl, k9⟩
                  have K9 := Lib.hid (KR.out.trans (k9.mono KR.out.size))
                  go_wp2
                  go_ret
                  exact ⟨by first | rfl | exact ret_bool (by simp; omega), K9.out⟩
          · have u4 := u3 g
            obtain rfl : dd = some p := HD.out.symm.trans (dat_here GM.out p0 q g)
            have HZ2 := Lib.hid (show ∀ i, p ≤ i → i < p → at_ L i = 0 from fun i h1 h2 => by omega)
            simp only [Option.getD_some, Option.isSome_some]
            clear u2 u3 hu g
            have hup : ¬ (u = p) := by omega
            go_wp2
            go_loopw [11] (fun i wr => ∃ z : Int, p ≤ z ∧ z ≤ p ∧ i = .int .i64 z ∧ Hid (Below w.heap.size w wr) ∧ Hid (Box wr w.heap.size s A n c) ∧ Hid (Exts wr A n c L)) (fun i _ => (p - intOf i).toNat)
            case atStart => exact ⟨p, Int.le_refl _, by omega, rfl, K4.out, B4.out, X4.out⟩
            case round =>
              obtain ⟨z, z0, z1, rfl, KR, BR, XR⟩ := hrel
              clear b0 b1
              have b0 := BR.out.c0; have b1 := BR.out.c1
              by_cases hlt : z < p
              · have HV := Lib.hid (show atv s L z = 0 by rw [atv_eq GM.out, if_pos (by omega)]; exact HZ2.out z z0 hlt)
                go_wp2_with fail
                refine (at_any s A n c L z wr XR.out (by omega) (by omega) (by omega) _ HV.out).mono ?_
                rintro e w8 ⟨rfl, k8⟩
                have K8 := Lib.hid (KR.out.trans (k8.mono KR.out.size)); have B8 := Lib.hid (BR.out.on k8); have X8 := Lib.hid (XR.out.on k8)
                clear k8
                go_wp2
                go_roundw
                case rel => exact ⟨z + 1, by omega, by omega, by go_num, K8.out, B8.out, X8.out⟩
                case measure => simp [intOf]; omega
              · obtain rfl : z = p := by omega
                go_wp2_with fail
                refine (law_runs _).mono ?_
                rintro e w9 ⟨rfl, k9⟩
                have K9 := Lib.hid (KR.out.trans (k9.mono KR.out.size))
                go_wp2
                go_ret
                exact ⟨by first | rfl | exact ret_bool (by simp; omega), K9.out⟩
        · obtain ⟨g1, g2⟩ := both_none (L := L) (show s ≤ p by omega)
          obtain rfl : dd = none := HD.out.symm.trans g1
          obtain rfl : uu = none := HU.out.symm.trans g2
          simp only [Option.getD_none, Option.isSome_none]
          clear g1 g2
          go_wp2_with fail
          refine (law_runs _).mono ?_
          rintro e w9 ⟨rfl, k9⟩
          have K9 := Lib.hid (K4.out.trans (k9.mono K4.out.size))
          go_wp2
          go_ret
          exact ⟨by first | rfl | exact ret_bool (by simp; omega), K9.out⟩
      · go_wp2_with fail
        refine (law_runs _).mono ?_
        rintro e w3 ⟨rfl, k3⟩
        have K3 := Lib.hid (K2.out.trans (k3.mono K2.out.size))
        go_wp2
        go_ret
        exact ⟨rfl, K3.out⟩
    · refine (may_any s A n c L w1 X1.out false (by simpa using gm)).mono ?_
      rintro e w2 ⟨rfl, k2⟩
      have K2 := Lib.hid (K1.out.trans (k2.mono K1.out.size))
      go_wp2_with fail
      refine (law_runs _).mono ?_
      rintro e w3 ⟨rfl, k3⟩
      have K3 := Lib.hid (K2.out.trans (k3.mono K2.out.size))
      go_wp2
      go_ret
      exact ⟨rfl, K3.out⟩
  · rw [show decide (n ≤ 60) = false from decide_eq_false g]
    go_wp2_with fail
    refine (law_runs _).mono ?_
    rintro e w2 ⟨rfl, k2⟩
    have K2 := Lib.hid (K1.out.trans (k2.mono K1.out.size))
    go_wp2
    go_ret
    exact ⟨rfl, K2.out⟩
end Go.Proofs.Ytigfimlpjmmpoaa
