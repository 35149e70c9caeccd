/- The law ConvOrder, walked. -/
import Derived.Test.YtghihmmapignmaaLawU
import Derived.WalkKit
import Derived.WalkSpells
import Derived.WalkLawsBesides
import Derived.Lib.Hide
namespace Go.Proofs.Ytghihmmapignmaa
open Go.RowKit

/-- The conversions that the law names. -/
def oX : Cf := ⟨true, false, false, false, false, false, false, false, 0⟩
def oY (n : Nat) : Cf := ⟨true, true, false, true, false, false, false, false, n⟩
def oZ (n : Nat) : Cf := ⟨false, true, false, true, false, false, false, false, n⟩
def oU (n : Nat) : Cf := ⟨false, false, false, false, true, false, true, false, n⟩
def oW (n : Nat) : Cf := ⟨false, false, false, false, false, false, true, false, n⟩
def oP (n : Nat) : Cf := ⟨false, false, false, false, true, true, false, false, n⟩
def oQ (n : Nat) : Cf := ⟨false, false, true, false, false, false, false, false, n⟩
theorem o_may (n : Nat) (h1 : 1 ≤ n) (h2 : n ≤ 4096) : (oY n).may = true ∧ (oZ n).may = true ∧ (oU n).may = true ∧ (oW n).may = true ∧ (oP n).may = true ∧ (oQ n).may = true := by
  have e : (decide ((1 : Int) ≤ (n : Int)) && decide ((n : Int) ≤ 4096)) = true := by simp; omega
  exact ⟨e, e, e, e, e, e⟩

theorem o_x {z : List Int} (h : Are z) : oX.all z = sw z := by
  rw [all_plain rfl rfl]
  have h1 : Are (sw z) := h.sw
  show mapL ids (mapL ids (sw z)) = sw z
  rw [map_ids h1, map_ids h1]
theorem o_yz (n : Nat) {z : List Int} : (oY n).all z = (oZ n).all (sw z) := by
  rw [all_blocks rfl, all_blocks rfl]; rfl
theorem o_uw (n : Nat) {z : List Int} (h : Are z) : (oU n).all z = (oW n).all (mapL upper z) := by
  rw [all_blocks rfl, all_blocks rfl]
  have e : mapL (oU n).t1 z = mapL upper z := by rw [map_t1 _ h]; rfl
  have e2 : mapL (oW n).t1 (mapL upper z) = mapL upper z := map_ids (mapL_are good_upper h)
  show mapL (oU n).t2 (pAll (oU n).K (mapL (oU n).t1 z)) = mapL (oW n).t2 (pAll (oW n).K (mapL (oW n).t1 (mapL upper z)))
  rw [e, e2]
  rfl
theorem o_pq (n : Nat) {z : List Int} (h : Are z) : (oP n).all z = (oQ n).all (mapL (thenL [tbA, upper] ids) z) := by
  rw [all_unblocks rfl rfl, all_unblocks rfl rfl]
  have e2 : mapL (oQ n).t1 (mapL (thenL [tbA, upper] ids) z) = mapL (thenL [tbA, upper] ids) z := map_ids (mapL_are (good_t1 (oP n)) h)
  show mapL (oP n).t2 (uAll (oP n).K (mapL (oP n).t1 z)) = mapL (oQ n).t2 (uAll (oQ n).K (mapL (oQ n).t1 (mapL (thenL [tbA, upper] ids) z)))
  rw [e2]
  rfl
theorem good_au : Good (thenL [tbA, upper] ids) := good_t1 (oP 1)

/-- A slice of two tables. -/
theorem st_two {ops : Array Oper} {rest : List Oper} {o : Oper} {a : Act} {w : World} {Q : Exit → Act → World → Prop} (hgd : o.guard = none) (x y : Operand) (ho : o.op = .buildSlice 69 2 #[(0, x), (1, y)]) (t u : List Int) (hx : a.eval x = tv t) (hy : a.eval y = tv u) (ht : Good t) (hu : Good u)
    (h : ∀ (b : Nat) (w1 : World), Tbs w1 (some ⟨b, 0, none⟩) 2 [t, u] → Below w.heap.size w w1 → wpList Try.prog ops Q rest (a.put o.dst (.slice (some ⟨b, 0, none⟩) 2 2)) w1) : wpList Try.prog ops Q (o :: rest) a w :=
  Great.wpList_buildSliceTo hgd 69 50 2 _ ho w.heap.size rfl _ rfl Try.underlying69 (cs (t ++ u)) (by simpa [hx, hy] using built_two t u ht.1 hu.1) (h _ _ (tbs_two (row_new w _ 50) ht hu) ((Below.refl _ w).alloc (Nat.le_refl _) _))

set_option maxRecDepth 100000 in
set_option maxHeartbeats 8000000 in
theorem order_walk (A : Option Addr) (m ac : Nat) (zs0 : List Int) (cb : Int) (w : World) (hL : IsRow .u8 w A m ac zs0) (hcb : (Lit.int .u8 cb).wf = true) :
    Calls Try.prog 9 #[.slice A m ac, .int .u8 cb] w fun e w' => e = .returned (.bool true) ∧ Below w.heap.size w w' := by
  have hcb2 := byte_of hcb
  have E0 := Lib.hid hL.el
  have CR := Lib.hid law_runs
  have hzl : (zs0.take m).length = m := hL.bytes.1.1
  have hmm : m ≤ 9223372036854775807 := by have := hL.bytes.1.2.1; have := hL.bytes.1.2.2.1; unfold maxLen at this; omega
  clear hcb hL
  generalize zs0.take m = zs at *
  obtain ⟨q, hq, hq2⟩ : ∃ q : Nat, cb.tmod 20 = (q : Int) ∧ q < 20 := by
    refine ⟨(cb.tmod 20).toNat, ?_, ?_⟩ <;> rw [Int.tmod_eq_emod_of_nonneg hcb2.1] <;> omega
  go_enter Try.func9, Try.ntmps9
  by_cases hbad : 200 < m
  · have hd : decide ((200 : Int) < (m : Int)) = true := by simp; omega
    go_wp2_with fail
    refine (CR.out _).mono ?_
    rintro e w2 ⟨rfl, k2⟩
    go_wp2
    go_ret
    exact ⟨rfl, k2⟩
  · have hd : decide ((200 : Int) < (m : Int)) = false := by simp; omega
    obtain ⟨n, hn⟩ : ∃ n : Nat, q + 1 = n := ⟨_, rfl⟩
    have hni : (q : Int) + 1 = (n : Int) := by omega
    have hn1 : 1 ≤ n ∧ n ≤ 20 := by omega
    obtain ⟨mY, mZ, mU, mW, mP, mQ⟩ := o_may n hn1.1 (by omega)
    have AZ := Lib.hid E0.out.are
    have hcn : (n : Int) ≤ 500 := by omega
    have GU := Lib.hid good_upper; have GA := Lib.hid good_asc; have GT := Lib.hid good_au
    have CU := Lib.hid upper_any; have CA := Lib.hid ascii_any
    have CT := Lib.hid (show ∀ (A : Option Addr) (c : Nat) (w : World), Tbs w A 2 [tbA, upper] → Calls Try.prog 28 #[.slice A 2 c] w (TabPost (thenL [tbA, upper] ids) w) from fun A c w h => then_any A 2 c _ w h (by omega))
    have hzl2 : zs.length ≤ 1500 := by omega
    obtain ⟨s1, hs1⟩ : ∃ s1, sw zs = s1 := ⟨_, rfl⟩
    obtain ⟨o1, ho1⟩ : ∃ o1, (oY n).all zs = o1 := ⟨_, rfl⟩
    obtain ⟨o2, ho2⟩ : ∃ o2, (oU n).all zs = o2 := ⟨_, rfl⟩
    obtain ⟨o3, ho3⟩ : ∃ o3, (oP n).all zs = o3 := ⟨_, rfl⟩
    obtain ⟨u1, hu1⟩ : ∃ u1, mapL upper zs = u1 := ⟨_, rfl⟩
    have EX := Lib.hid (show oX.all zs = s1 by rw [o_x AZ.out, hs1])
    have EY := Lib.hid ho1
    have EZ := Lib.hid (show (oZ n).all s1 = o1 by rw [← hs1, ← o_yz, ho1])
    have EU := Lib.hid ho2
    have EW := Lib.hid (show (oW n).all u1 = o2 by rw [← hu1, ← o_uw n AZ.out, ho2])
    have EP := Lib.hid ho3
    have EQ0 := o_pq n AZ.out
    rw [ho3] at EQ0
    have AS := Lib.hid (show Are s1 by rw [← hs1]; exact (AZ.out).sw)
    have AU := Lib.hid (show Are u1 by rw [← hu1]; exact mapL_are good_upper AZ.out)
    have HU1 := Lib.hid hu1
    have hs1l : s1.length ≤ 1500 := by rw [← hs1, sw_len]; omega
    have hu1l : u1.length ≤ 1500 := by rw [← hu1, map_len]; omega
    generalize thenL [tbA, upper] ids = ta at *
    generalize tbA = tA at *
    generalize upper = tU at *
    obtain ⟨p1, hp1⟩ : ∃ p1, mapL ta zs = p1 := ⟨_, rfl⟩
    have HP1 := Lib.hid hp1
    have AP := Lib.hid (show Are p1 by rw [← hp1]; exact mapL_are GT.out AZ.out)
    have hp1l : p1.length ≤ 1500 := by rw [← hp1, map_len]; omega
    have EQ := Lib.hid (show (oQ n).all p1 = o3 by rw [← hp1, ← EQ0])
    clear hs1 ho1 ho2 ho3 hu1 hp1 EQ0 hn
    go_wp2_with fail
    refine (all_one oX oX A m ac zs s1 _ (eff_of rfl) (by decide) E0.out hzl2 EX.out).mono ?_
    rintro e w1 ⟨A1, m1, c1, rfl, r1, _, k⟩
    have K1 := Lib.hid k; have E1 := Lib.hid (E0.out.on k); have X1 := Lib.hid (r1.el AS.out)
    clear r1 k
    go_wp2_with fail
    refine (all_one (oY n) (oY n) A m ac zs o1 _ (eff_of mY) hcn E1.out hzl2 EY.out).mono ?_
    rintro e w2 ⟨A2, m2, c2, rfl, r1, _, k⟩
    have K2 := Lib.hid (K1.out.trans (k.mono K1.out.size)); have E2 := Lib.hid (E1.out.on k); have X2 := Lib.hid (X1.out.on k); have Y2 := Lib.hid (r1.bytes)
    clear r1 k K1 E1 X1
    go_wp2_with fail
    refine (all_one (oZ n) (oZ n) A1 m1 c1 s1 o1 _ (eff_of mZ) hcn X2.out hs1l EZ.out).mono ?_
    rintro e w3 ⟨A3, m3, c3, rfl, r1, _, k⟩
    have K3 := Lib.hid (K2.out.trans (k.mono K2.out.size)); have E3 := Lib.hid (E2.out.on k); have Y3 := Lib.hid (Y2.out.1.on k); have Z3 := Lib.hid (r1.bytes)
    clear r1 k K2 E2 X2
    go_wp2_with fail
    refine (all_one (oU n) (oU n) A m ac zs o2 _ (eff_of mU) hcn E3.out hzl2 EU.out).mono ?_
    rintro e w4 ⟨A4, m4, c4, rfl, r1, _, k⟩
    have K4 := Lib.hid (K3.out.trans (k.mono K3.out.size)); have E4 := Lib.hid (E3.out.on k); have Y4 := Lib.hid (Y3.out.on k); have Z4 := Lib.hid (Z3.out.1.on k); have U4 := Lib.hid (r1.bytes)
    clear r1 k K3 E3 Y3
    go_wp2_with fail
    refine (CU.out _).mono ?_
    rintro e w5 ⟨rfl, k⟩
    have K5 := Lib.hid (K4.out.trans (k.mono K4.out.size)); have E5 := Lib.hid (E4.out.on k); have Y5 := Lib.hid (Y4.out.on k); have Z5 := Lib.hid (Z4.out.on k); have U5 := Lib.hid (U4.out.1.on k)
    clear k K4 E4 Y4 Z4
    go_wp2_with fail
    refine (map_any tU A m ac zs _ GU.out E5.out.bytes AZ.out (by omega) u1 HU1.out).mono ?_
    rintro e w6 ⟨A6, m6, c6, rfl, r1, _, k⟩
    have K6 := Lib.hid (K5.out.trans (k.mono K5.out.size)); have E6 := Lib.hid (E5.out.on k); have Y6 := Lib.hid (Y5.out.on k); have Z6 := Lib.hid (Z5.out.on k); have U6 := Lib.hid (U5.out.on k); have V6 := Lib.hid (r1.el AU.out)
    clear r1 k K5 E5 Y5 Z5 U5
    go_wp2_with fail
    refine (all_one (oW n) (oW n) A6 m6 c6 u1 o2 _ (eff_of mW) hcn V6.out hu1l EW.out).mono ?_
    rintro e w7 ⟨A7, m7, c7, rfl, r1, _, k⟩
    have K7 := Lib.hid (K6.out.trans (k.mono K6.out.size)); have E7 := Lib.hid (E6.out.on k); have Y7 := Lib.hid (Y6.out.on k); have Z7 := Lib.hid (Z6.out.on k); have U7 := Lib.hid (U6.out.on k); have W7 := Lib.hid (r1.bytes)
    clear r1 k K6 E6 Y6 Z6 U6 V6
    go_wp2_with fail
    refine (all_one (oP n) (oP n) A m ac zs o3 _ (eff_of mP) hcn E7.out hzl2 EP.out).mono ?_
    rintro e w8 ⟨A8, m8, c8, rfl, r1, _, k⟩
    have K8 := Lib.hid (K7.out.trans (k.mono K7.out.size)); have E8 := Lib.hid (E7.out.on k); have Y8 := Lib.hid (Y7.out.on k); have Z8 := Lib.hid (Z7.out.on k); have U8 := Lib.hid (U7.out.on k); have W8 := Lib.hid (W7.out.1.on k); have P8 := Lib.hid (r1.bytes)
    clear r1 k K7 E7 Y7 Z7 U7
    go_wp2_with fail
    refine (CA.out _).mono ?_
    rintro e w9 ⟨rfl, k⟩
    have K9 := Lib.hid (K8.out.trans (k.mono K8.out.size)); have E9 := Lib.hid (E8.out.on k); have Y9 := Lib.hid (Y8.out.on k); have Z9 := Lib.hid (Z8.out.on k); have U9 := Lib.hid (U8.out.on k); have W9 := Lib.hid (W8.out.on k); have P9 := Lib.hid (P8.out.1.on k)
    clear k K8 E8 Y8 Z8 U8 W8
    go_wp2_with fail
    refine (CU.out _).mono ?_
    rintro e w10 ⟨rfl, k⟩
    have Ka := Lib.hid (K9.out.trans (k.mono K9.out.size)); have Ea := Lib.hid (E9.out.on k); have Ya := Lib.hid (Y9.out.on k); have Za := Lib.hid (Z9.out.on k); have Ua := Lib.hid (U9.out.on k); have Wa := Lib.hid (W9.out.on k); have Pa := Lib.hid (P9.out.on k)
    clear k K9 E9 Y9 Z9 U9 W9 P9
    go_wp2_with (refine st_two rfl _ _ rfl tA tU rfl rfl GA.out GU.out ?_)
    intro tb w11 T11 k
    have Kb := Lib.hid (Ka.out.trans (k.mono Ka.out.size)); have Eb := Lib.hid (Ea.out.on k); have Yb := Lib.hid (Ya.out.on k); have Zb := Lib.hid (Za.out.on k); have Ub := Lib.hid (Ua.out.on k); have Wb := Lib.hid (Wa.out.on k); have Pb := Lib.hid (Pa.out.on k); have TB := Lib.hid T11
    clear k Ka Ea Ya Za Ua Wa Pa T11
    go_wp2_with fail
    refine (CT.out _ _ _ TB.out).mono ?_
    rintro e w12 ⟨rfl, k⟩
    have Kc := Lib.hid (Kb.out.trans (k.mono Kb.out.size)); have Ec := Lib.hid (Eb.out.on k); have Yc := Lib.hid (Yb.out.on k); have Zc := Lib.hid (Zb.out.on k); have Uc := Lib.hid (Ub.out.on k); have Wc := Lib.hid (Wb.out.on k); have Pc := Lib.hid (Pb.out.on k)
    clear k Kb Eb Yb Zb Ub Wb Pb TB
    go_wp2_with fail
    refine (map_any ta A m ac zs _ GT.out Ec.out.bytes AZ.out (by omega) p1 HP1.out).mono ?_
    rintro e w13 ⟨A13, m13, c13, rfl, r1, _, k⟩
    have Kd := Lib.hid (Kc.out.trans (k.mono Kc.out.size)); have Yd := Lib.hid (Yc.out.on k); have Zd := Lib.hid (Zc.out.on k); have Ud := Lib.hid (Uc.out.on k); have Wd := Lib.hid (Wc.out.on k); have Pd := Lib.hid (Pc.out.on k); have Vd := Lib.hid (r1.el AP.out)
    clear r1 k Kc Ec Yc Zc Uc Wc Pc
    go_wp2_with fail
    refine (all_one (oQ n) (oQ n) A13 m13 c13 p1 o3 _ (eff_of mQ) hcn Vd.out hp1l EQ.out).mono ?_
    rintro e w14 ⟨A14, m14, c14, rfl, r1, _, k⟩
    have Ke := Lib.hid (Kd.out.trans (k.mono Kd.out.size))
    have t1 := text_of (Yd.out.on k) Y2.out.2
    have t2 := text_of (Zd.out.on k) Z3.out.2
    have t3 := text_of (Ud.out.on k) U4.out.2
    have t4 := text_of (Wd.out.on k) W7.out.2
    have t5 := text_of (Pd.out.on k) P8.out.2
    have t6 := text_of r1.bytes.1 r1.bytes.2
    clear r1 k Kd Yd Zd Ud Wd Pd Vd Y2 Z3 U4 W7 P8
    go_wp2_with fail
    refine (CR.out _).mono ?_
    rintro e w15 ⟨rfl, k⟩
    have Kf := Lib.hid (Ke.out.trans (k.mono Ke.out.size))
    clear k Ke t1 t2 t3 t4 t5 t6
    go_wp2
    go_ret
    exact ⟨rfl, Kf.out⟩

end Go.Proofs.Ytghihmmapignmaa
