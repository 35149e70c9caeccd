/- Contract of the law ExtentBack. -/
import Derived.Test.YtigfimlpjmmpoaaLawR
import Derived.Test.YtigfimlpjmmpoaaLawD
import Derived.Test.YtigfimlpjmmpoaaReadE
import Derived.Test.YtigfimlpjmmpoaaWalksC
import Derived.WalkKit
import Derived.WalkSpells
import Derived.WalkLawsBesides
import Derived.Lib.Hide
import Derived.BigQuiet
import Derived.Deep.RegionWith
import Derived.OpenShut
namespace Go.Proofs.Ytigfimlpjmmpoaa
open Go.RowKit

set_option maxRecDepth 100000 in
set_option maxHeartbeats 4000000 in
theorem law_back (s : Int) (A : Option Addr) (n c : Nat) (L : List Ex) (p : Int) (BA : Option Addr) (nb cb : Nat) (zs : List Int) (t : Int) (w : World) (h : Exts w A n c L) (hs : (Lit.int .i64 s).wf = true) (hp : (Lit.int .i64 p).wf = true) (hb : IsRow .u8 w BA nb cb zs) (ht : (Lit.int .i64 t).wf = true) :
    Calls Try.prog 7 #[ct s A n c, .int .i64 p, .slice BA nb cb, .int .i64 t] w (TruthPost true w) := by
  have bs0 := bounds_i64 hs
  have bp := bounds_i64 hp
  have bt := bounds_i64 ht
  obtain ⟨hb1, hb2⟩ := hb.bytes
  generalize zs.take nb = bs at hb1 hb2
  have hbl := hb1.len
  have hbm : nb ≤ 9223372036854775807 := by have := hb1.le; have := hb1.mx; unfold maxLen at this; omega
  clear hs hp hb ht
  have K0 := Lib.hid (show Below w.heap.size w (w.alloc (.cells #[.int .i64 s, .slice A n c] 24)) from (Below.refl _ _).alloc (Nat.le_refl _) _)
  have B0 := Lib.hid (box_new w s A n c)
  have X0 := Lib.hid (h.on K0.out)
  have N0 := Lib.hid (hb1.on K0.out)
  have H8 := Lib.hid hb2
  have HL := Lib.hid hbl
  have b0 := B0.out.c0; have b1 := B0.out.c1
  clear h hb1 hb2 hbl
  show Calls Try.prog 7 #[.agg #[.int .i64 s, .slice A n c], .int .i64 p, .slice BA nb cb, .int .i64 t] w _
  go_enter Try.func7, Try.ntmps7
  go_wp2_with fail
  refine (few_any s A n c _).mono ?_
  rintro e w1 ⟨rfl, k1⟩
  have K1 := Lib.hid (K0.out.trans (k1.mono K0.out.size)); have B1 := Lib.hid (B0.out.on k1); have X1 := Lib.hid (X0.out.on k1); have N1 := Lib.hid (N0.out.on k1)
  clear k1 b0 b1
  have b0 := B1.out.c0; have b1 := B1.out.c1
  by_cases g : n ≤ 60
  · rw [show decide (n ≤ 60) = true from decide_eq_true g]
    go_wp2_with fail
    by_cases gm : may s L = true
    · refine (may_any s A n c L w1 X1.out true gm).mono ?_
      rintro e w2 ⟨rfl, k2⟩
      have K2 := Lib.hid (K1.out.trans (k2.mono K1.out.size)); have B2 := Lib.hid (B1.out.on k2); have X2 := Lib.hid (X1.out.on k2); have N2 := Lib.hid (N1.out.on k2)
      clear k2 b0 b1
      have b0 := B2.out.c0; have b1 := B2.out.c1
      have GM := Lib.hid gm
      clear gm
      by_cases g2 : nb ≤ 200
      · have g2' : (nb : Int) ≤ 200 := by omega
        go_wp2_with fail
        obtain ⟨z, hz⟩ : ∃ z, (eo p (nb : Int)).isSome = z := ⟨_, rfl⟩
        have HZ := Lib.hid hz
        clear hz
        refine (write_any s A n c L p BA nb cb bs w2 X2.out (by omega) N2.out H8.out z (by rw [HZ.out, GM.out]; simp; omega)).mono ?_
        rintro e w3 ⟨A1, n1, c1, M1, rfl, hM1, x1, k3⟩
        have K3 := Lib.hid (K2.out.trans (k3.mono K2.out.size)); have B3 := Lib.hid (B2.out.on k3); have X3 := Lib.hid (X2.out.on k3); have N3 := Lib.hid (N2.out.on k3)
        have Y3 := Lib.hid x1
        clear k3 b0 b1 x1
        cases z with
        | false =>
          have hM1' : M1 = [] := by simpa using hM1
          subst hM1'
          clear hM1
          obtain rfl : n1 = 0 := Y3.out.len.symm
          have HN := Lib.hid (show eo p (nb : Int) = none by
            cases he : eo p (nb : Int) with
            | none => rfl
            | some _ => have := HZ.out; rw [he] at this; cases this)
          have HF := Lib.hid (eo_none HN.out)
          rw [if_neg (by decide)]
          have C3 := Lib.hid (box_new w3 0 A1 0 c1)
          have K3' := Lib.hid (K3.out.alloc K3.out.size (.cells #[.int .i64 0, .slice A1 0 c1] 24))
          have d0' := C3.out.c0; have d1' := C3.out.c1
          unfold ct
          by_cases p0 : p < 0
          · go_wp2_with fail
            refine (law_runs _).mono ?_
            rintro e w9 ⟨rfl, k9⟩
            have K9 := Lib.hid (K3'.out.trans (k9.mono K3'.out.size))
            go_wp2
            go_ret
            exact ⟨rfl, K9.out⟩
          · have p1 : p > 1099511627776 - (nb : Int) := by have := HF.out; omega
            go_wp2_with fail
            refine (law_runs _).mono ?_
            rintro e w9 ⟨rfl, k9⟩
            have K9 := Lib.hid (K3'.out.trans (k9.mono K3'.out.size))
            go_wp2
            go_ret
            exact ⟨rfl, K9.out⟩
        | true =>
          rw [if_pos rfl] at hM1 ⊢
          obtain ⟨q0, q1, q2⟩ : 0 ≤ p ∧ 0 ≤ (nb : Int) ∧ p + (nb : Int) ≤ 1099511627776 := by
            cases he : eo p (nb : Int) with
            | none => have := HZ.out; rw [he] at this; cases this
            | some d => obtain ⟨e1, e2, e3, e4⟩ := eo_some he; exact ⟨e1, e2, by omega⟩
          have HM := Lib.hid hM1
          have hlz : (bs.length : Int) = (nb : Int) := by rw [HL.out]
          have G2 := Lib.hid (wr_good GM.out hM1 q0 (by omega))
          have HR := Lib.hid (wr_rd GM.out hM1 q0 (by omega) (by have := HL.out; omega))
          have HA := Lib.hid (wr_atv GM.out hM1 q0 (by omega) t)
          rw [HL.out] at G2 HR HA
          have HSm := Lib.hid (show n1 ≤ 400 by have := wr_small GM.out hM1; have := HL.out; have := X3.out.len; have := Y3.out.len; omega)
          have HLen := Lib.hid (wr_len (s := s) (p := p) (n := nb) ((may_iff _ _).1 GM.out).s0)
          have HLen1 := Lib.hid (show wsz s p nb ≤ 1099511627776 by have := ((may_iff _ _).1 GM.out).s1; unfold wsz; split <;> omega)
          obtain ⟨z, hz⟩ : ∃ z, wsz s p nb = z := ⟨_, rfl⟩
          rw [hz] at G2 HR HA HLen HLen1 ⊢
          have HZs := Lib.hid hz
          have z0 := HLen.out.2.1; have z1 := HLen1.out
          obtain ⟨W3, hW3⟩ : ∃ W, w3.alloc (.cells #[.int .i64 z, .slice A1 n1 c1] 24) = W := ⟨_, rfl⟩
          have KW3 := Lib.hid (show Below w3.heap.size w3 W3 by rw [← hW3]; exact (Below.refl _ _).alloc (Nat.le_refl _) _)
          have C3 := Lib.hid (show Box W3 w3.heap.size z A1 n1 c1 by rw [← hW3]; exact box_new w3 z A1 n1 c1)
          have Y4 := Lib.hid (Y3.out.on KW3.out); have N4 := Lib.hid (N3.out.on KW3.out)
          have B4 := Lib.hid (B3.out.on KW3.out); have X4 := Lib.hid (X3.out.on KW3.out)
          have K4 := Lib.hid (K3.out.trans (KW3.out.mono K3.out.size))
          have HW3 := Lib.hid hW3
          clear hW3 hM1 hz
          unfold ct
          go_wp2_with fail
          rw [HW3.out]
          have CD := Lib.hid (C3.out.on (Below.refl _ _).drew)
          have YD := Lib.hid (Y4.out.on (Below.refl _ _).drew)
          have ND := Lib.hid (N4.out.on (Below.refl _ _).drew)
          have s0 := CD.out.c0
          have s1 := CD.out.c1
          have t0 := text_of ND.out
          go_region_with (first | (go_at_call 15; refine (read_any z A1 n1 c1 M1 p (nb : Int) _ YD.out (by have := HSm.out; omega) (by omega) (by omega) bs HR.out).mono ?_; rintro e w5 ⟨A5, c5, rfl, n5, k5⟩; have C5 := CD.out.on k5; have Y5 := YD.out.on k5; have N5 := ND.out.on k5; have t5 := text_of n5; have u5 := text_of N5; have v5 := C5.c0; have x5 := C5.c1; have K5 := k5) | (go_at_call 16; refine (may_any z A1 n1 c1 M1 _ Y5 true G2.out).mono ?_; rintro e w6 ⟨rfl, k6⟩; have C6 := C5.on k6; have Y6 := Y5.on k6; have N6 := N5.on k6; have K6 := k6))
          all_goals
            have K6' := Lib.hid (K4.out.trans (((Below.refl _ _).drew.trans (K5.trans (K6.mono K5.size))).mono K4.out.size))
            have kk := Lib.hid ((Below.refl W3.heap.size W3).drew.trans (K5.trans (K6.mono K5.size)))
            have B7 := Lib.hid (B4.out.on kk.out); have X7 := Lib.hid (X4.out.on kk.out); have N7 := Lib.hid N6; have C7 := Lib.hid C6; have Y7 := Lib.hid Y6
            clear s0 s1 t0 u5 v5 x5 t5 n5 k5 k6 C5 Y5 N5 C6 Y6 N6 K5 K6 kk CD YD ND
            have b0 := B7.out.c0; have b1 := B7.out.c1; have d0' := C7.out.c0; have d1' := C7.out.c1
            obtain ⟨v0, hv0⟩ : ∃ v, atv s L t = v := ⟨_, rfl⟩
            rw [hv0] at HA
            have HV0 := Lib.hid hv0
            clear hv0
            go_wp2_with fail
            refine (at_any s A n c L t w6 X7.out (by omega) bt.1 bt.2 v0 HV0.out).mono ?_
            rintro e wy ⟨rfl, k7⟩
            have K8 := Lib.hid (K6'.out.trans (k7.mono K6'.out.size)); have B8 := Lib.hid (B7.out.on k7); have X8 := Lib.hid (X7.out.on k7); have N8 := Lib.hid (N7.out.on k7); have C8 := Lib.hid (C7.out.on k7); have Y8 := Lib.hid (Y7.out.on k7)
            clear k7 b0 b1 d0' d1'
            have b0 := B8.out.c0; have b1 := B8.out.c1; have d0' := C8.out.c0; have d1' := C8.out.c1
            by_cases q3 : p ≤ t
            · by_cases q4 : t - p < (nb : Int)
              · obtain ⟨i, hi⟩ : ∃ i : Nat, t = p + (i : Int) := ⟨(t - p).toNat, by omega⟩
                have hil : i < nb := by omega
                have HV := Lib.hid (HA.out.trans (if_pos ⟨q3, q4⟩))
                obtain ⟨bb, bo, rfl, _, hc⟩ := N8.out.cells (by omega)
                have ci := hc i hil
                have hti : (t - p).toNat = i := by omega
                rw [hti] at HV
                have hw := H8.out (bs.getD i 0) (by rw [List.getD_eq_getElem?_getD, List.getElem?_eq_getElem (by rw [HL.out]; exact hil)]; exact List.getElem_mem _)
                generalize bs.getD i 0 = bv at *
                obtain ⟨w0, w1'⟩ := hw
                have hd : t - p = (i : Int) := by omega
                have hiI : (i : Int) < (nb : Int) := by omega
                have hnp : (0 : Int) < (nb : Int) := by omega
                clear hc hti hi
                go_wp2_with fail
                refine (at_any z A1 n1 c1 M1 t wy Y8.out (by have := HSm.out; omega) bt.1 bt.2 _ HV.out).mono ?_
                rintro e w8 ⟨rfl, k8⟩
                have K8' := Lib.hid (K8.out.trans (k8.mono K8.out.size)); have B9 := Lib.hid (B8.out.on k8); have C9 := Lib.hid (C8.out.on k8); have Y9 := Lib.hid (Y8.out.on k8); have X9 := Lib.hid (X8.out.on k8)
                clear k8 b0 b1 d0' d1'
                have b0 := B9.out.c0; have b1 := B9.out.c1; have d0' := C9.out.c0; have d1' := C9.out.c1
                have KK := Lib.hid K8'.out
                go_wp2_with fail
                refine (law_runs _).mono ?_
                rintro e w9 ⟨rfl, k9⟩
                have K9 := Lib.hid (KK.out.trans (k9.mono KK.out.size))
                go_wp2
                go_ret
                exact ⟨rfl, K9.out⟩
              · have q5 : (nb : Int) ≤ t - p := by omega
                have HV := Lib.hid (HA.out.trans ((if_neg (fun g => q4 g.2)).trans (if_neg (fun g => by omega))))
                by_cases q6 : 0 < nb
                · have q7 : (0 : Int) < (nb : Int) := by omega
                  have q9 : ¬ (t < p) := by omega
                  by_cases q8 : s ≤ t
                  · have q8' := q8
                    go_wp2_with fail
                    refine (at_any z A1 n1 c1 M1 t wy Y8.out (by have := HSm.out; omega) bt.1 bt.2 _ HV.out).mono ?_
                    rintro e w8 ⟨rfl, k8⟩
                    have K8' := Lib.hid (K8.out.trans (k8.mono K8.out.size)); have B9 := Lib.hid (B8.out.on k8); have C9 := Lib.hid (C8.out.on k8); have Y9 := Lib.hid (Y8.out.on k8); have X9 := Lib.hid (X8.out.on k8)
                    clear k8 b0 b1 d0' d1'
                    have b0 := B9.out.c0; have b1 := B9.out.c1; have d0' := C9.out.c0; have d1' := C9.out.c1
                    have KK := Lib.hid K8'.out
                    go_wp2_with fail
                    refine (law_runs _).mono ?_
                    rintro e w9 ⟨rfl, k9⟩
                    have K9 := Lib.hid (KK.out.trans (k9.mono KK.out.size))
                    go_wp2
                    go_ret
                    exact ⟨rfl, K9.out⟩
                  · have q8' := q8
                    go_wp2_with fail
                    refine (at_any z A1 n1 c1 M1 t wy Y8.out (by have := HSm.out; omega) bt.1 bt.2 _ HV.out).mono ?_
                    rintro e w8 ⟨rfl, k8⟩
                    have K8' := Lib.hid (K8.out.trans (k8.mono K8.out.size)); have B9 := Lib.hid (B8.out.on k8); have C9 := Lib.hid (C8.out.on k8); have Y9 := Lib.hid (Y8.out.on k8); have X9 := Lib.hid (X8.out.on k8)
                    clear k8 b0 b1 d0' d1'
                    have b0 := B9.out.c0; have b1 := B9.out.c1; have d0' := C9.out.c0; have d1' := C9.out.c1
                    have KK := Lib.hid K8'.out
                    go_wp2_with fail
                    refine (law_runs _).mono ?_
                    rintro e w9 ⟨rfl, k9⟩
                    have K9 := Lib.hid (KK.out.trans (k9.mono KK.out.size))
                    go_wp2
                    go_ret
                    exact ⟨rfl, K9.out⟩
                · obtain rfl : nb = 0 := by omega
                  have hbn : bs = [] := List.eq_nil_of_length_eq_zero HL.out
                  have HE := Lib.hid (show (decide (z = s) && decide (M1 = L)) = true by
                    have hm := HM.out
                    rw [hbn] at hm
                    have := wr_none GM.out hm
                    have hz := HZs.out
                    simp [wsz] at hz
                    simp [this, hz])
                  go_wp2_with fail
                  refine (at_any z A1 n1 c1 M1 t wy Y8.out (by have := HSm.out; omega) bt.1 bt.2 _ HV.out).mono ?_
                  rintro e w8 ⟨rfl, k8⟩
                  have K8' := Lib.hid (K8.out.trans (k8.mono K8.out.size)); have B9 := Lib.hid (B8.out.on k8); have C9 := Lib.hid (C8.out.on k8); have Y9 := Lib.hid (Y8.out.on k8); have X9 := Lib.hid (X8.out.on k8)
                  clear k8 b0 b1 d0' d1'
                  have b0 := B9.out.c0; have b1 := B9.out.c1; have d0' := C9.out.c0; have d1' := C9.out.c1
                  go_wp2_with fail
                  refine (same_any z A1 n1 c1 M1 s A n c L w8 Y9.out X9.out true HE.out).mono ?_
                  rintro e w10 ⟨rfl, k10⟩
                  have KK := Lib.hid (K8'.out.trans (k10.mono K8'.out.size))
                  clear k10 b0 b1 d0' d1'
                  go_wp2_with fail
                  refine (law_runs _).mono ?_
                  rintro e w9 ⟨rfl, k9⟩
                  have K9 := Lib.hid (KK.out.trans (k9.mono KK.out.size))
                  go_wp2
                  go_ret
                  exact ⟨rfl, K9.out⟩
            · by_cases q6 : 0 < nb
              · have q7 : (0 : Int) < (nb : Int) := by omega
                by_cases q8 : s ≤ t
                · have HV := Lib.hid (HA.out.trans ((if_neg (fun g => q3 g.1)).trans (if_pos ⟨q6, q8, by omega⟩)))
                  go_wp2_with fail
                  refine (at_any z A1 n1 c1 M1 t wy Y8.out (by have := HSm.out; omega) bt.1 bt.2 _ HV.out).mono ?_
                  rintro e w8 ⟨rfl, k8⟩
                  have K8' := Lib.hid (K8.out.trans (k8.mono K8.out.size)); have B9 := Lib.hid (B8.out.on k8); have C9 := Lib.hid (C8.out.on k8); have Y9 := Lib.hid (Y8.out.on k8); have X9 := Lib.hid (X8.out.on k8)
                  clear k8 b0 b1 d0' d1'
                  have b0 := B9.out.c0; have b1 := B9.out.c1; have d0' := C9.out.c0; have d1' := C9.out.c1
                  have KK := Lib.hid K8'.out
                  go_wp2_with fail
                  refine (law_runs _).mono ?_
                  rintro e w9 ⟨rfl, k9⟩
                  have K9 := Lib.hid (KK.out.trans (k9.mono KK.out.size))
                  go_wp2
                  go_ret
                  exact ⟨rfl, K9.out⟩
                · have HV := Lib.hid (HA.out.trans ((if_neg (fun g => q3 g.1)).trans (if_neg (fun g => q8 g.2.1))))
                  go_wp2_with fail
                  refine (at_any z A1 n1 c1 M1 t wy Y8.out (by have := HSm.out; omega) bt.1 bt.2 _ HV.out).mono ?_
                  rintro e w8 ⟨rfl, k8⟩
                  have K8' := Lib.hid (K8.out.trans (k8.mono K8.out.size)); have B9 := Lib.hid (B8.out.on k8); have C9 := Lib.hid (C8.out.on k8); have Y9 := Lib.hid (Y8.out.on k8); have X9 := Lib.hid (X8.out.on k8)
                  clear k8 b0 b1 d0' d1'
                  have b0 := B9.out.c0; have b1 := B9.out.c1; have d0' := C9.out.c0; have d1' := C9.out.c1
                  have KK := Lib.hid K8'.out
                  go_wp2_with fail
                  refine (law_runs _).mono ?_
                  rintro e w9 ⟨rfl, k9⟩
                  have K9 := Lib.hid (KK.out.trans (k9.mono KK.out.size))
                  go_wp2
                  go_ret
                  exact ⟨rfl, K9.out⟩
              · obtain rfl : nb = 0 := by omega
                have hbn : bs = [] := List.eq_nil_of_length_eq_zero HL.out
                have HV := Lib.hid (HA.out.trans ((if_neg (fun g => q3 g.1)).trans (if_neg (fun g => by have := g.1; omega))))
                have HE := Lib.hid (show (decide (z = s) && decide (M1 = L)) = true by
                  have hm := HM.out
                  rw [hbn] at hm
                  have := wr_none GM.out hm
                  have hz := HZs.out
                  simp [wsz] at hz
                  simp [this, hz])
                go_wp2_with fail
                refine (at_any z A1 n1 c1 M1 t wy Y8.out (by have := HSm.out; omega) bt.1 bt.2 _ HV.out).mono ?_
                rintro e w8 ⟨rfl, k8⟩
                have K8' := Lib.hid (K8.out.trans (k8.mono K8.out.size)); have B9 := Lib.hid (B8.out.on k8); have C9 := Lib.hid (C8.out.on k8); have Y9 := Lib.hid (Y8.out.on k8); have X9 := Lib.hid (X8.out.on k8)
                clear k8 b0 b1 d0' d1'
                have b0 := B9.out.c0; have b1 := B9.out.c1; have d0' := C9.out.c0; have d1' := C9.out.c1
                go_wp2_with fail
                refine (same_any z A1 n1 c1 M1 s A n c L w8 Y9.out X9.out true HE.out).mono ?_
                rintro e w10 ⟨rfl, k10⟩
                have KK := Lib.hid (K8'.out.trans (k10.mono K8'.out.size))
                clear k10 b0 b1 d0' d1'
                go_wp2_with fail
                refine (law_runs _).mono ?_
                rintro e w9 ⟨rfl, k9⟩
                have K9 := Lib.hid (KK.out.trans (k9.mono KK.out.size))
                go_wp2
                go_ret
                exact ⟨rfl, K9.out⟩
      · go_wp2_with fail
        refine (law_runs _).mono ?_
        rintro e w3 ⟨rfl, k3⟩
        have K3 := Lib.hid (K2.out.trans (k3.mono K2.out.size))
        go_wp2
        go_ret
        exact ⟨rfl, K3.out⟩
    · refine (may_any s A n c L w1 X1.out false (by simpa using gm)).mono ?_
      rintro e w2 ⟨rfl, k2⟩
      have K2 := Lib.hid (K1.out.trans (k2.mono K1.out.size))
      go_wp2_with fail
      refine (law_runs _).mono ?_
      rintro e w3 ⟨rfl, k3⟩
      have K3 := Lib.hid (K2.out.trans (k3.mono K2.out.size))
      go_wp2
      go_ret
      exact ⟨rfl, K3.out⟩
  · rw [show decide (n ≤ 60) = false from decide_eq_false g]
    go_wp2_with fail
    refine (law_runs _).mono ?_
    rintro e w2 ⟨rfl, k2⟩
    have K2 := Lib.hid (K1.out.trans (k2.mono K1.out.size))
    go_wp2
    go_ret
    exact ⟨rfl, K2.out⟩
end Go.Proofs.Ytigfimlpjmmpoaa
