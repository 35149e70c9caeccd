/- Contract of the law ExtentPunched. -/
import Derived.Test.YtigfimlpjmmpoaaLawR
import Derived.Test.YtigfimlpjmmpoaaLawB
import Derived.Test.YtigfimlpjmmpoaaWalksH
import Derived.WalkKit
import Derived.WalkSpells
import Derived.WalkLawsBesides
import Derived.Lib.Hide
import Derived.BigQuiet
import Derived.OpenShut
namespace Go.Proofs.Ytigfimlpjmmpoaa
open Go.RowKit

/-- How many blocks stay when p to q is taken. -/
def keep (L : List Ex) (p q : Int) : Nat := (L.filter fun e => !whole e.no p q).length
theorem keep_step (L : List Ex) (p q : Int) (j : Nat) (hj : j < L.length) : keep (L.take (j + 1)) p q = keep (L.take j) p q + (if whole (L.getD j default).no p q = true then 0 else 1) := by
  unfold keep
  rw [List.take_add_one, List.getD_eq_getElem?_getD, List.getElem?_eq_getElem hj, List.filter_append, List.length_append]
  simp only [Option.toList, Option.getD_some, List.filter_cons, List.filter_nil]
  by_cases h : whole L[j].no p q = true
  · simp [h]
  · simp [h]
theorem keep_wo (L : List Ex) (p q : Int) : (wo L p q).length = keep L p q := by simp [wo, keep]
theorem punched_at {s : Int} {L : List Ex} (hok : ∀ e ∈ L, e.ok) (gm : may s L = true) {p q : Int} (g2 : may s (wo L p q) = true) (t : Int) :
    atv s (wo L p q) t = if 0 ≤ atv s L t ∧ p ≤ t ∧ t < q then 0 else atv s L t := by
  rw [atv_eq g2, atv_eq gm]
  by_cases h : 0 ≤ t ∧ t < s
  · rw [if_pos h, if_pos h, at_wo]
    by_cases h2 : p ≤ t ∧ t < q
    · rw [if_pos h2]
      by_cases h3 : 0 ≤ at_ L t
      · rw [if_pos ⟨h3, h2⟩]
      · exact absurd h3 (by have := at_ok hok t; omega)
    · rw [if_neg h2, if_neg (fun g => h2 g.2)]
  · rw [if_neg h, if_neg h, if_neg (by omega)]

set_option maxRecDepth 100000 in
set_option maxHeartbeats 4000000 in
theorem law_punched (s : Int) (A : Option Addr) (n c : Nat) (L : List Ex) (x y t : Int) (w : World) (h : Exts w A n c L) (hs : (Lit.int .i64 s).wf = true) (hx : (Lit.int .u16 x).wf = true) (hy : (Lit.int .u16 y).wf = true) (ht : (Lit.int .i64 t).wf = true) :
    Calls Try.prog 9 #[ct s A n c, .int .u16 x, .int .u16 y, .int .i64 t] w (TruthPost true w) := by
  have bx := bounds_u16 hx
  have bY := bounds_u16 hy
  have bt := bounds_i64 ht
  have bs := bounds_i64 hs
  clear hs hx hy ht
  have K0 := Lib.hid (show Below w.heap.size w (w.alloc (.cells #[.int .i64 s, .slice A n c] 24)) from (Below.refl _ _).alloc (Nat.le_refl _) _)
  have B0 := Lib.hid (box_new w s A n c)
  have X0 := Lib.hid (h.on K0.out)
  have b0 := B0.out.c0; have b1 := B0.out.c1
  clear h
  show Calls Try.prog 9 #[.agg #[.int .i64 s, .slice A n c], .int .u16 x, .int .u16 y, .int .i64 t] w _
  go_enter Try.func9, Try.ntmps9
  go_wp2_with fail
  refine (few_any s A n c _).mono ?_
  rintro e w1 ⟨rfl, k1⟩
  have K1 := Lib.hid (K0.out.trans (k1.mono K0.out.size)); have B1 := Lib.hid (B0.out.on k1); have X1 := Lib.hid (X0.out.on k1)
  clear k1 b0 b1
  have b0 := B1.out.c0; have b1 := B1.out.c1
  by_cases g : n ≤ 60
  · rw [show decide (n ≤ 60) = true from decide_eq_true g]
    go_wp2_with fail
    by_cases gm : may s L = true
    · refine (may_any s A n c L w1 X1.out true gm).mono ?_
      rintro e w2 ⟨rfl, k2⟩
      have K2 := Lib.hid (K1.out.trans (k2.mono K1.out.size)); have B2 := Lib.hid (B1.out.on k2); have X2 := Lib.hid (X1.out.on k2)
      clear k2 b0 b1
      have b0 := B2.out.c0; have b1 := B2.out.c1
      have GM := Lib.hid gm
      have hlen : n ≤ 60 := g
      clear g gm
      obtain ⟨a, ha, a0, a1⟩ : ∃ a : Int, x.tmod 600 = a ∧ 0 ≤ a ∧ a < 600 := ⟨_, rfl, by rw [Int.tmod_eq_emod_of_nonneg bx.1]; omega, by rw [Int.tmod_eq_emod_of_nonneg bx.1]; omega⟩
      obtain ⟨d, hd, d0, d1⟩ : ∃ d : Int, y.tmod 300 = d ∧ 0 ≤ d ∧ d < 300 := ⟨_, rfl, by rw [Int.tmod_eq_emod_of_nonneg bY.1]; omega, by rw [Int.tmod_eq_emod_of_nonneg bY.1]; omega⟩
      go_wp2_with fail
      have GP := Lib.hid (show may s (wo L a (a + (d + 1))) = true from (may_iff _ _).2 (good_wo ((may_iff _ _).1 GM.out) a _ (by have := ((may_iff _ _).1 GM.out).s0; omega) (by have := ((may_iff _ _).1 GM.out).s1; omega) (fun _ h1 _ => .inl h1)))
      have HA := Lib.hid (punched_at X2.out.ok GM.out GP.out t)
      have HK := Lib.hid (keep_wo L a (a + (d + 1)))
      have hpk : (eo a (d + 1)).isSome = true := by
        cases he : eo a (d + 1) with
        | some _ => rfl
        | none => exact absurd ⟨a0, by omega, by omega⟩ (eo_none he)
      refine (punch_any s A n c L a (d + 1) w2 X2.out (by omega) true (by simp [hpk, GM.out]; omega)).mono ?_
      rintro e w3 ⟨A1, n1, c1, M1, rfl, hM1, x1, k3⟩
      rw [if_pos rfl] at hM1 ⊢
      rw [← hM1] at GP HA HK
      clear hpk
      have K3 := Lib.hid (K2.out.trans (k3.mono K2.out.size)); have B3 := Lib.hid (B2.out.on k3); have X3 := Lib.hid (X2.out.on k3)
      obtain ⟨W3, hW3⟩ : ∃ W, w3.alloc (.cells #[.int .i64 s, .slice A1 n1 c1] 24) = W := ⟨_, rfl⟩
      have KW3 := Lib.hid (show Below w3.heap.size w3 W3 by rw [← hW3]; exact (Below.refl _ _).alloc (Nat.le_refl _) _)
      have C3 := Lib.hid (show Box W3 w3.heap.size s A1 n1 c1 by rw [← hW3]; exact box_new w3 s A1 n1 c1)
      have Y3 := Lib.hid (x1.on KW3.out)
      have B3' := Lib.hid (B3.out.on KW3.out); have X3' := Lib.hid (X3.out.on KW3.out)
      have K3' := Lib.hid (K3.out.trans (KW3.out.mono K3.out.size))
      have HW3 := Lib.hid hW3
      have N1 := Lib.hid (show n1 ≤ 60 by have := wo_le L a (a + (d + 1)); have := X2.out.len; have := x1.len; rw [hM1] at this; omega)
      clear k3 b0 b1 x1 hW3 hM1
      have b0 := B3'.out.c0; have b1 := B3'.out.c1; have d0' := C3.out.c0; have d1' := C3.out.c1
      rw [← HW3.out] at b0 b1 d0' d1'
      unfold ct
      go_wp2_with fail
      rw [HW3.out]
      refine (may_any s A1 n1 c1 M1 W3 Y3.out true GP.out).mono ?_
      rintro e w5 ⟨rfl, k5⟩
      have K5 := Lib.hid (K3'.out.trans (k5.mono K3'.out.size)); have B5 := Lib.hid (B3'.out.on k5); have X5 := Lib.hid (X3'.out.on k5); have C5 := Lib.hid (C3.out.on k5); have Y5 := Lib.hid (Y3.out.on k5)
      clear k5 b0 b1 d0' d1'
      have b0 := B5.out.c0; have b1 := B5.out.c1; have d0' := C5.out.c0; have d1' := C5.out.c1
      go_wp2_with fail
      obtain ⟨v0, hv0⟩ : ∃ v, atv s L t = v := ⟨_, rfl⟩
      rw [hv0] at HA
      have HV0 := Lib.hid hv0
      clear hv0
      refine (at_any s A n c L t w5 X5.out (by omega) bt.1 bt.2 v0 HV0.out).mono ?_
      rintro e wz ⟨rfl, k6⟩
      have K6 := Lib.hid (K5.out.trans (k6.mono K5.out.size)); have B6 := Lib.hid (B5.out.on k6); have X6 := Lib.hid (X5.out.on k6); have C6 := Lib.hid (C5.out.on k6); have Y6 := Lib.hid (Y5.out.on k6)
      clear k6 b0 b1 d0' d1'
      have b0 := B6.out.c0; have b1 := B6.out.c1; have d0' := C6.out.c0; have d1' := C6.out.c1
      have hmx := X6.out.max
      have hmy := Y6.out.max
      have HRG := Lib.hid ((may_iff _ _).1 GM.out).rng
      by_cases q0 : 0 ≤ v0
      · by_cases q1 : a ≤ t
        · by_cases q2 : t < a + (d + 1)
          · have HV := Lib.hid (HA.out.trans (if_pos ⟨q0, q1, q2⟩))
            go_wp2
            go_loop [14, 15] (fun r i => ∃ j : Nat, j ≤ n ∧ i = .int .i64 j ∧ r = .int .i64 (keep (L.take j) a (a + (d + 1)) : Nat)) (fun _ i => n - (intOf i).toNat)
            case atStart => exact ⟨0, Nat.zero_le _, rfl, rfl⟩
            case round =>
              obtain ⟨j, hj, rfl, rfl⟩ := hrel
              by_cases hlt : j < n
              · obtain ⟨b, o, rfl, hb, _⟩ := X6.out.cells (by omega)
                have cn := X6.out.no j hlt
                have hji : (j : Int) < (n : Int) := by omega
                have hl : j < L.length := by rw [X6.out.len]; exact hlt
                have hrg := HRG.out (L.getD j default) (by rw [List.getD_eq_getElem?_getD, List.getElem?_eq_getElem hl]; exact List.getElem_mem _)
                have HS := Lib.hid (keep_step L a (a + (d + 1)) j hl)
                have hkl : keep (L.take j) a (a + (d + 1)) ≤ 60 := by
                  have h1 : keep (L.take j) a (a + (d + 1)) ≤ (L.take j).length := List.length_filter_le _ _
                  rw [List.length_take] at h1; omega
                generalize (L.getD j default).no = no at *
                obtain ⟨g0, g1⟩ := hrg
                have HX := Lib.hid (show whole no a (a + (d + 1)) = (decide (a ≤ no * 8) && decide (no * 8 + 8 ≤ a + (d + 1))) from rfl)
                generalize keep (L.take j) a (a + (d + 1)) = m at *
                by_cases z0 : no * 8 < a
                · have HS2 := Lib.hid (show keep (L.take (j + 1)) a (a + (d + 1)) = m + 1 by rw [HS.out, HX.out, if_neg (by simp; omega)])
                  go_wp2
                  go_round
                  case rel => exact ⟨j + 1, by omega, by go_num, by rw [HS2.out]; go_num⟩
                  case measure => simp [intOf]; omega
                · by_cases z1 : (no + 1) * 8 ≤ a + (d + 1)
                  · have HS2 := Lib.hid (show keep (L.take (j + 1)) a (a + (d + 1)) = m by rw [HS.out, HX.out, if_pos (by simp; omega)]; rfl)
                    go_wp2
                    go_round
                    case rel => exact ⟨j + 1, by omega, by go_num, by rw [HS2.out]⟩
                    case measure => simp [intOf]; omega
                  · have HS2 := Lib.hid (show keep (L.take (j + 1)) a (a + (d + 1)) = m + 1 by rw [HS.out, HX.out, if_neg (by simp; omega)])
                    go_wp2
                    go_round
                    case rel => exact ⟨j + 1, by omega, by go_num, by rw [HS2.out]; go_num⟩
                    case measure => simp [intOf]; omega
              · obtain rfl : j = n := by omega
                have hk : keep (L.take j) a (a + (d + 1)) = n1 := by
                  rw [List.take_of_length_le (Nat.le_of_eq X6.out.len), ← HK.out]; exact Y6.out.len
                rw [hk]
                clear hk
                go_wp2_with fail
                refine (at_any s A1 n1 c1 M1 t wz Y6.out (by have := N1.out; omega) bt.1 bt.2 _ HV.out).mono ?_
                rintro e w8 ⟨rfl, k8⟩
                have K8 := Lib.hid (K6.out.trans (k8.mono K6.out.size)); have C8 := Lib.hid (C6.out.on k8)
                clear k8 b0 b1 d0' d1'
                have d0' := C8.out.c0; have d1' := C8.out.c1
                go_wp2_with fail
                refine (law_runs _).mono ?_
                rintro e w9 ⟨rfl, k9⟩
                have K9 := Lib.hid (K8.out.trans (k9.mono K8.out.size))
                go_wp2
                go_ret
                exact ⟨rfl, K9.out⟩
          · have HV := Lib.hid (HA.out.trans (if_neg (fun g => q2 g.2.2)))
            go_wp2
            go_loop [14, 15] (fun r i => ∃ j : Nat, j ≤ n ∧ i = .int .i64 j ∧ r = .int .i64 (keep (L.take j) a (a + (d + 1)) : Nat)) (fun _ i => n - (intOf i).toNat)
            case atStart => exact ⟨0, Nat.zero_le _, rfl, rfl⟩
            case round =>
              obtain ⟨j, hj, rfl, rfl⟩ := hrel
              by_cases hlt : j < n
              · obtain ⟨b, o, rfl, hb, _⟩ := X6.out.cells (by omega)
                have cn := X6.out.no j hlt
                have hji : (j : Int) < (n : Int) := by omega
                have hl : j < L.length := by rw [X6.out.len]; exact hlt
                have hrg := HRG.out (L.getD j default) (by rw [List.getD_eq_getElem?_getD, List.getElem?_eq_getElem hl]; exact List.getElem_mem _)
                have HS := Lib.hid (keep_step L a (a + (d + 1)) j hl)
                have hkl : keep (L.take j) a (a + (d + 1)) ≤ 60 := by
                  have h1 : keep (L.take j) a (a + (d + 1)) ≤ (L.take j).length := List.length_filter_le _ _
                  rw [List.length_take] at h1; omega
                generalize (L.getD j default).no = no at *
                obtain ⟨g0, g1⟩ := hrg
                have HX := Lib.hid (show whole no a (a + (d + 1)) = (decide (a ≤ no * 8) && decide (no * 8 + 8 ≤ a + (d + 1))) from rfl)
                generalize keep (L.take j) a (a + (d + 1)) = m at *
                by_cases z0 : no * 8 < a
                · have HS2 := Lib.hid (show keep (L.take (j + 1)) a (a + (d + 1)) = m + 1 by rw [HS.out, HX.out, if_neg (by simp; omega)])
                  go_wp2
                  go_round
                  case rel => exact ⟨j + 1, by omega, by go_num, by rw [HS2.out]; go_num⟩
                  case measure => simp [intOf]; omega
                · by_cases z1 : (no + 1) * 8 ≤ a + (d + 1)
                  · have HS2 := Lib.hid (show keep (L.take (j + 1)) a (a + (d + 1)) = m by rw [HS.out, HX.out, if_pos (by simp; omega)]; rfl)
                    go_wp2
                    go_round
                    case rel => exact ⟨j + 1, by omega, by go_num, by rw [HS2.out]⟩
                    case measure => simp [intOf]; omega
                  · have HS2 := Lib.hid (show keep (L.take (j + 1)) a (a + (d + 1)) = m + 1 by rw [HS.out, HX.out, if_neg (by simp; omega)])
                    go_wp2
                    go_round
                    case rel => exact ⟨j + 1, by omega, by go_num, by rw [HS2.out]; go_num⟩
                    case measure => simp [intOf]; omega
              · obtain rfl : j = n := by omega
                have hk : keep (L.take j) a (a + (d + 1)) = n1 := by
                  rw [List.take_of_length_le (Nat.le_of_eq X6.out.len), ← HK.out]; exact Y6.out.len
                rw [hk]
                clear hk
                go_wp2_with fail
                refine (at_any s A1 n1 c1 M1 t wz Y6.out (by have := N1.out; omega) bt.1 bt.2 _ HV.out).mono ?_
                rintro e w8 ⟨rfl, k8⟩
                have K8 := Lib.hid (K6.out.trans (k8.mono K6.out.size)); have C8 := Lib.hid (C6.out.on k8)
                clear k8 b0 b1 d0' d1'
                have d0' := C8.out.c0; have d1' := C8.out.c1
                go_wp2_with fail
                refine (law_runs _).mono ?_
                rintro e w9 ⟨rfl, k9⟩
                have K9 := Lib.hid (K8.out.trans (k9.mono K8.out.size))
                go_wp2
                go_ret
                exact ⟨rfl, K9.out⟩
        · have HV := Lib.hid (HA.out.trans (if_neg (fun g => q1 g.2.1)))
          go_wp2
          go_loop [14, 15] (fun r i => ∃ j : Nat, j ≤ n ∧ i = .int .i64 j ∧ r = .int .i64 (keep (L.take j) a (a + (d + 1)) : Nat)) (fun _ i => n - (intOf i).toNat)
          case atStart => exact ⟨0, Nat.zero_le _, rfl, rfl⟩
          case round =>
            obtain ⟨j, hj, rfl, rfl⟩ := hrel
            by_cases hlt : j < n
            · obtain ⟨b, o, rfl, hb, _⟩ := X6.out.cells (by omega)
              have cn := X6.out.no j hlt
              have hji : (j : Int) < (n : Int) := by omega
              have hl : j < L.length := by rw [X6.out.len]; exact hlt
              have hrg := HRG.out (L.getD j default) (by rw [List.getD_eq_getElem?_getD, List.getElem?_eq_getElem hl]; exact List.getElem_mem _)
              have HS := Lib.hid (keep_step L a (a + (d + 1)) j hl)
              have hkl : keep (L.take j) a (a + (d + 1)) ≤ 60 := by
                have h1 : keep (L.take j) a (a + (d + 1)) ≤ (L.take j).length := List.length_filter_le _ _
                rw [List.length_take] at h1; omega
              generalize (L.getD j default).no = no at *
              obtain ⟨g0, g1⟩ := hrg
              have HX := Lib.hid (show whole no a (a + (d + 1)) = (decide (a ≤ no * 8) && decide (no * 8 + 8 ≤ a + (d + 1))) from rfl)
              generalize keep (L.take j) a (a + (d + 1)) = m at *
              by_cases z0 : no * 8 < a
              · have HS2 := Lib.hid (show keep (L.take (j + 1)) a (a + (d + 1)) = m + 1 by rw [HS.out, HX.out, if_neg (by simp; omega)])
                go_wp2
                go_round
                case rel => exact ⟨j + 1, by omega, by go_num, by rw [HS2.out]; go_num⟩
                case measure => simp [intOf]; omega
              · by_cases z1 : (no + 1) * 8 ≤ a + (d + 1)
                · have HS2 := Lib.hid (show keep (L.take (j + 1)) a (a + (d + 1)) = m by rw [HS.out, HX.out, if_pos (by simp; omega)]; rfl)
                  go_wp2
                  go_round
                  case rel => exact ⟨j + 1, by omega, by go_num, by rw [HS2.out]⟩
                  case measure => simp [intOf]; omega
                · have HS2 := Lib.hid (show keep (L.take (j + 1)) a (a + (d + 1)) = m + 1 by rw [HS.out, HX.out, if_neg (by simp; omega)])
                  go_wp2
                  go_round
                  case rel => exact ⟨j + 1, by omega, by go_num, by rw [HS2.out]; go_num⟩
                  case measure => simp [intOf]; omega
            · obtain rfl : j = n := by omega
              have hk : keep (L.take j) a (a + (d + 1)) = n1 := by
                rw [List.take_of_length_le (Nat.le_of_eq X6.out.len), ← HK.out]; exact Y6.out.len
              rw [hk]
              clear hk
              go_wp2_with fail
              refine (at_any s A1 n1 c1 M1 t wz Y6.out (by have := N1.out; omega) bt.1 bt.2 _ HV.out).mono ?_
              rintro e w8 ⟨rfl, k8⟩
              have K8 := Lib.hid (K6.out.trans (k8.mono K6.out.size)); have C8 := Lib.hid (C6.out.on k8)
              clear k8 b0 b1 d0' d1'
              have d0' := C8.out.c0; have d1' := C8.out.c1
              go_wp2_with fail
              refine (law_runs _).mono ?_
              rintro e w9 ⟨rfl, k9⟩
              have K9 := Lib.hid (K8.out.trans (k9.mono K8.out.size))
              go_wp2
              go_ret
              exact ⟨rfl, K9.out⟩
      · have HV := Lib.hid (HA.out.trans (if_neg (fun g => q0 g.1)))
        go_wp2
        go_loop [14, 15] (fun r i => ∃ j : Nat, j ≤ n ∧ i = .int .i64 j ∧ r = .int .i64 (keep (L.take j) a (a + (d + 1)) : Nat)) (fun _ i => n - (intOf i).toNat)
        case atStart => exact ⟨0, Nat.zero_le _, rfl, rfl⟩
        case round =>
          obtain ⟨j, hj, rfl, rfl⟩ := hrel
          by_cases hlt : j < n
          · obtain ⟨b, o, rfl, hb, _⟩ := X6.out.cells (by omega)
            have cn := X6.out.no j hlt
            have hji : (j : Int) < (n : Int) := by omega
            have hl : j < L.length := by rw [X6.out.len]; exact hlt
            have hrg := HRG.out (L.getD j default) (by rw [List.getD_eq_getElem?_getD, List.getElem?_eq_getElem hl]; exact List.getElem_mem _)
            have HS := Lib.hid (keep_step L a (a + (d + 1)) j hl)
            have hkl : keep (L.take j) a (a + (d + 1)) ≤ 60 := by
              have h1 : keep (L.take j) a (a + (d + 1)) ≤ (L.take j).length := List.length_filter_le _ _
              rw [List.length_take] at h1; omega
            generalize (L.getD j default).no = no at *
            obtain ⟨g0, g1⟩ := hrg
            have HX := Lib.hid (show whole no a (a + (d + 1)) = (decide (a ≤ no * 8) && decide (no * 8 + 8 ≤ a + (d + 1))) from rfl)
            generalize keep (L.take j) a (a + (d + 1)) = m at *
            by_cases z0 : no * 8 < a
            · have HS2 := Lib.hid (show keep (L.take (j + 1)) a (a + (d + 1)) = m + 1 by rw [HS.out, HX.out, if_neg (by simp; omega)])
              go_wp2
              go_round
              case rel => exact ⟨j + 1, by omega, by go_num, by rw [HS2.out]; go_num⟩
              case measure => simp [intOf]; omega
            · by_cases z1 : (no + 1) * 8 ≤ a + (d + 1)
              · have HS2 := Lib.hid (show keep (L.take (j + 1)) a (a + (d + 1)) = m by rw [HS.out, HX.out, if_pos (by simp; omega)]; rfl)
                go_wp2
                go_round
                case rel => exact ⟨j + 1, by omega, by go_num, by rw [HS2.out]⟩
                case measure => simp [intOf]; omega
              · have HS2 := Lib.hid (show keep (L.take (j + 1)) a (a + (d + 1)) = m + 1 by rw [HS.out, HX.out, if_neg (by simp; omega)])
                go_wp2
                go_round
                case rel => exact ⟨j + 1, by omega, by go_num, by rw [HS2.out]; go_num⟩
                case measure => simp [intOf]; omega
          · obtain rfl : j = n := by omega
            have hk : keep (L.take j) a (a + (d + 1)) = n1 := by
              rw [List.take_of_length_le (Nat.le_of_eq X6.out.len), ← HK.out]; exact Y6.out.len
            rw [hk]
            clear hk
            go_wp2_with fail
            refine (at_any s A1 n1 c1 M1 t wz Y6.out (by have := N1.out; omega) bt.1 bt.2 _ HV.out).mono ?_
            rintro e w8 ⟨rfl, k8⟩
            have K8 := Lib.hid (K6.out.trans (k8.mono K6.out.size)); have C8 := Lib.hid (C6.out.on k8)
            clear k8 b0 b1 d0' d1'
            have d0' := C8.out.c0; have d1' := C8.out.c1
            go_wp2_with fail
            refine (law_runs _).mono ?_
            rintro e w9 ⟨rfl, k9⟩
            have K9 := Lib.hid (K8.out.trans (k9.mono K8.out.size))
            go_wp2
            go_ret
            exact ⟨rfl, K9.out⟩
    · refine (may_any s A n c L w1 X1.out false (by simpa using gm)).mono ?_
      rintro e w2 ⟨rfl, k2⟩
      have K2 := Lib.hid (K1.out.trans (k2.mono K1.out.size))
      go_wp2_with fail
      refine (law_runs _).mono ?_
      rintro e w3 ⟨rfl, k3⟩
      have K3 := Lib.hid (K2.out.trans (k3.mono K2.out.size))
      go_wp2
      go_ret
      exact ⟨rfl, K3.out⟩
  · rw [show decide (n ≤ 60) = false from decide_eq_false g]
    go_wp2_with fail
    refine (law_runs _).mono ?_
    rintro e w2 ⟨rfl, k2⟩
    have K2 := Lib.hid (K1.out.trans (k2.mono K1.out.size))
    go_wp2
    go_ret
    exact ⟨rfl, K2.out⟩
end Go.Proofs.Ytigfimlpjmmpoaa
