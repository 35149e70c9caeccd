/- The law DiskTrue, walked. -/
import Derived.Test.YtdfjhgibdabeeaaLawY
import Derived.Test.YtdfjhgibdabeeaaPlainT
import Derived.WalkKit
import Derived.WalkSpells
import Derived.WalkLawsBesides
import Derived.Lib.Hide
import Derived.BigQuiet
import Derived.Deep.RegionHeld3
namespace Go.Proofs.Ytdfjhgibdabeeaa
open Go.RowKit

set_option maxRecDepth 100000 in
set_option maxHeartbeats 32000000 in
theorem truelaw_walk (X : Hd) (D : Dev) (A : Option Addr) (n c : Nat) (L : List (Int × Int)) (w : World) (hD : DevIn w X D) (hL : IsPairs w A n L) : Calls Try.prog 6 #[X.val, .slice A n c] w fun e w' => e = .returned (.bool true) ∧ Below w.heap.size w w' := by
  have K0 := Lib.hid (show Below w.heap.size w (w.alloc (.cells X.cells 30)) from (Below.refl _ _).alloc (Nat.le_refl _) _)
  have B0 := Lib.hid (box_of_row (Row.new w 30 X.cells))
  have D0 := Lib.hid (hD.on K0.out)
  have HL := Lib.hid (hL.1.on K0.out)
  have hnm : n ≤ 9223372036854775807 := by have := hL.1.mx; unfold maxLen at this; omega
  have HW := Lib.hid hL.2
  clear hD hL
  obtain ⟨da, dn, dc, ba, bn, bc, sa, sn, sc, ha, hn, hc⟩ := X
  show Calls Try.prog 6 #[.agg #[.slice da dn dc, .slice ba bn bc, .slice sa sn sc, .slice ha hn hc], .slice A n c] w _
  replace K0 : Hid (Below w.heap.size w (w.alloc (.cells #[.slice da dn dc, .slice ba bn bc, .slice sa sn sc, .slice ha hn hc] 30))) := K0
  replace B0 : Hid (Box (w.alloc (.cells #[.slice da dn dc, .slice ba bn bc, .slice sa sn sc, .slice ha hn hc] 30)) w.heap.size ⟨da, dn, dc, ba, bn, bc, sa, sn, sc, ha, hn, hc⟩) := B0
  replace D0 : Hid (DevIn (w.alloc (.cells #[.slice da dn dc, .slice ba bn bc, .slice sa sn sc, .slice ha hn hc] 30)) ⟨da, dn, dc, ba, bn, bc, sa, sn, sc, ha, hn, hc⟩ D) := D0
  replace HL : Hid (Pairs (w.alloc (.cells #[.slice da dn dc, .slice ba bn bc, .slice sa sn sc, .slice ha hn hc] 30)) A n L) := HL
  go_enter Try.func6, Try.ntmps6
  go_wp2_with fail
  refine (few_any ⟨da, dn, dc, ba, bn, bc, sa, sn, sc, ha, hn, hc⟩ D _ D0.out).mono ?_
  rintro e w1 ⟨rfl, k1⟩
  have K1 := Lib.hid (K0.out.trans (k1.mono K0.out.size)); have B1 := Lib.hid (B0.out.on k1); have D1 := Lib.hid (D0.out.on k1)
  have L1 := Lib.hid (HL.out.on k1)
  clear k1 K0 B0 D0 HL
  obtain ⟨z, hz⟩ : ∃ z, D.few = z := ⟨_, rfl⟩
  rw [hz]
  have HZ := Lib.hid hz
  clear hz
  cases z with
  | false =>
    go_wp2_with fail
    refine (law_runs _).mono ?_
    rintro e w2 ⟨rfl, k2⟩
    have K2 := K1.out.trans (k2.mono K1.out.size)
    go_wp2
    go_ret
    exact ⟨rfl, K2⟩
  | true =>
   by_cases hn100 : 100 < n
   · have hn1 : (100 : Int) < (n : Int) := by omega
     go_wp2_with fail
     refine (law_runs _).mono ?_
     rintro e w2 ⟨rfl, k2⟩
     have K2 := K1.out.trans (k2.mono K1.out.size)
     go_wp2
     go_ret
     exact ⟨rfl, K2⟩
   · have hn1 : ¬ (100 : Int) < (n : Int) := by omega
     obtain ⟨_, x0, x1, x2, x3⟩ := B1.out
     simp only at x0 x1 x2 x3
     go_wp2_with fail
     refine (may_any ⟨da, dn, dc, ba, bn, bc, sa, sn, sc, ha, hn, hc⟩ D _ D1.out).mono ?_
     rintro e w2 ⟨rfl, k2⟩
     have K2 := Lib.hid (K1.out.trans (k2.mono K1.out.size)); have B2 := Lib.hid (B1.out.on k2); have D2 := Lib.hid (D1.out.on k2)
     have L2 := Lib.hid (L1.out.on k2)
     clear k2 K1 B1 D1 L1 x0 x1 x2 x3
     obtain ⟨z, hz⟩ : ∃ z, D.may = z := ⟨_, rfl⟩
     rw [hz]
     have HZM := Lib.hid hz
     clear hz
     cases z with
     | false =>
       go_wp2_with fail
       refine (law_runs _).mono ?_
       rintro e w3 ⟨rfl, k3⟩
       have K3 := K2.out.trans (k3.mono K2.out.size)
       go_wp2
       go_ret
       exact ⟨rfl, K3⟩
     | true =>
       have HO := Lib.hid (show Okd D from ⟨HZM.out, HZ.out⟩)
       have HE := Lib.hid (show D.eff = D by rw [Dev.eff, HZM.out]; rfl)
       obtain ⟨_, x0, x1, x2, x3⟩ := B2.out
       simp only at x0 x1 x2 x3
       go_wp2_with fail
       refine (new_any ⟨da, dn, dc, ba, bn, bc, sa, sn, sc, ha, hn, hc⟩ D _ D2.out HZ.out).mono ?_
       rintro e w3 ⟨b, y, S, rfl, p3, n3, k3⟩
       rw [HE.out] at p3
       have M3 := Lib.hid (show Mine w2 w3 (Dk b y D zero 0) S from ⟨p3, n3, k3⟩)
       clear p3 n3 k3 x0 x1 x2 x3 HE
       go_wp2
       go_loopw [6] (fun i wr => ∃ (j cl : Nat) (G : Nat → Int), j ≤ n ∧ i = .int .i64 j ∧ cl ≤ j ∧ Hid (Mine w2 wr (Dk b y D G cl) S) ∧ Hid (Sound D G)) (fun i _ => n - (intOf i).toNat)
       case atStart => exact ⟨0, 0, zero, Nat.zero_le _, rfl, Nat.le_refl _, M3.out, sound_zero HO.out⟩
       case round =>
         clear M3
         obtain ⟨j, cl, G, hj, rfl, hcl, M, SG⟩ := hrel
         by_cases hlt : j < n
         · obtain ⟨lb, o, rfl, hlb, hc⟩ := L2.out.cells (by omega)
           obtain ⟨e0, e1⟩ := hc j hlt
           obtain ⟨hp0, hp1⟩ := bounds_i64 (HW.out j hlt).1
           replace e0 := (M.out.below.cell (p := ⟨lb, o + j * 2, none⟩) hlb).trans e0
           replace e1 := (M.out.below.cell (p := ⟨lb, o + j * 2 + 1, none⟩) hlb).trans e1
           have hji : (j : Int) < (n : Int) := by omega
           have hj0 : (0 : Int) ≤ (j : Int) := by omega
           clear hc
           generalize L.getD j (0, 0) = q at *
           obtain ⟨p, q⟩ := q
           simp only at e0 e1 hp0 hp1
           have KI := Lib.hid (get_kind D G cl p q)
           obtain ⟨a, ha⟩ : ∃ a, get D G cl p q = a := ⟨_, rfl⟩
           have HA := Lib.hid ha
           have SG2 := Lib.hid (show Sound D a.G by rw [← ha]; exact sound_get SG.out cl p q)
           have hcl2 : a.cl ≤ cl + 1 := by rw [← ha]; exact get_cl _ _ _ _ _
           rw [ha] at KI
           clear ha
           go_wp2
           go_quiet (fail)
           have MW := Lib.hid (M.out.on (Dk.keeps _ _ _ _ _) (below_drewN (Below.refl _ _) nq))
           generalize wr.drewN nq = W at *
           clear M e0 e1
           rcases KI.out with ⟨ko, kc, kg⟩ | ⟨P, rfl, ko, kc, hP, hb⟩ | ⟨P, m, rfl, kc, kg, hm, ko, hq, hd, hf⟩
           · clear KI
             obtain ⟨z, hz⟩ : ∃ z, a.code = z := ⟨_, rfl⟩
             rw [hz] at kc
             have HC := Lib.hid hz; have KO := Lib.hid ko; have KG := Lib.hid kg
             have z1 : (z == 1) = false := by simpa using kc
             have z2 : (z != 1) = true := by simpa using kc
             clear hz ko kg
             by_cases hpn : p < 0
             · obtain ⟨v, hv⟩ : ∃ v, left D G 0 = v := ⟨_, rfl⟩
               have HV := Lib.hid hv
               clear hv
               go_wp2_with fail
               refine (left_any 0 W MW.out.obj v HV.out).mono ?_
               rintro e w5 ⟨rfl, rfl⟩
               go_wp2_with fail
               refine (get_any p q W MW.out.obj HO.out SG.out (by omega) hp1 a HA.out).mono ?_
               rintro e w5 ⟨A5, m5, c5, rfl, u5, _, p5, o5⟩
               rw [KO.out] at u5
               obtain rfl : m5 = 0 := u5.len.symm
               rw [KG.out] at p5
               rw [HC.out]
               have M5 := Lib.hid (MW.out.next p5 o5 (fun d hd => .inl hd))
               clear u5 p5 o5 MW
               go_wp2_with fail
               refine (left_any 0 w5 M5.out.obj v HV.out).mono ?_
               rintro e w6 ⟨rfl, rfl⟩
               go_wp2_with fail
               go_quiet (fail)
               have M6 := Lib.hid (M5.out.on (Dk.keeps _ _ _ _ _) (below_drewN (Below.refl _ _) nq))
               generalize w5.drewN nq = W6 at *
               clear M5
               go_wp2
               go_loopw [13] (fun i wr' => i = .int .i64 0 ∧ Hid (Mine w2 wr' (Dk b y D G a.cl) S)) (fun _ _ => 0)
               case atStart => exact ⟨rfl, M6.out⟩
               case round =>
                 clear M6
                 obtain ⟨rfl, M7⟩ := hrel
                 go_wp2
                 go_roundw
                 case rel => exact ⟨j + 1, a.cl, G, by omega, by go_num, by omega, M7.out, SG.out⟩
                 case measure => simp [intOf]; omega
             · obtain ⟨P, rfl⟩ : ∃ P : Nat, p = (P : Int) := ⟨p.toNat, by omega⟩
               obtain ⟨u, hu⟩ : ∃ u, P / 8 = u := ⟨_, rfl⟩
               have hpu : (P : Int) / 8 = (u : Int) := by omega
               clear hu
               obtain ⟨v, hv⟩ : ∃ v, left D G (u : Int) = v := ⟨_, rfl⟩
               have HV := Lib.hid hv
               clear hv
               go_wp2_with fail
               refine (left_any (u : Int) W MW.out.obj v HV.out).mono ?_
               rintro e w5 ⟨rfl, rfl⟩
               go_wp2_with fail
               refine (get_any (P : Int) q W MW.out.obj HO.out SG.out (by omega) hp1 a HA.out).mono ?_
               rintro e w5 ⟨A5, m5, c5, rfl, u5, _, p5, o5⟩
               rw [KO.out] at u5
               obtain rfl : m5 = 0 := u5.len.symm
               rw [KG.out] at p5
               rw [HC.out]
               have M5 := Lib.hid (MW.out.next p5 o5 (fun d hd => .inl hd))
               clear u5 p5 o5 MW
               go_wp2_with fail
               refine (left_any (u : Int) w5 M5.out.obj v HV.out).mono ?_
               rintro e w6 ⟨rfl, rfl⟩
               go_wp2_with fail
               go_quiet (fail)
               have M6 := Lib.hid (M5.out.on (Dk.keeps _ _ _ _ _) (below_drewN (Below.refl _ _) nq))
               generalize w5.drewN nq = W6 at *
               clear M5
               go_wp2
               go_loopw [13] (fun i wr' => i = .int .i64 0 ∧ Hid (Mine w2 wr' (Dk b y D G a.cl) S)) (fun _ _ => 0)
               case atStart => exact ⟨rfl, M6.out⟩
               case round =>
                 clear M6
                 obtain ⟨rfl, M7⟩ := hrel
                 go_wp2
                 go_roundw
                 case rel => exact ⟨j + 1, a.cl, G, by omega, by go_num, by omega, M7.out, SG.out⟩
                 case measure => simp [intOf]; omega
           · clear KI
             have HC := Lib.hid kc; have KO := Lib.hid ko
             obtain ⟨u, hu⟩ : ∃ u, P / 8 = u := ⟨_, rfl⟩
             have hpu : (P : Int) / 8 = (u : Int) := by omega
             rw [hu] at hb
             have hdl := D2.out.data.len
             simp only at hdl
             have hPd : P < dn := by omega
             have hd : decide (dn ≤ P) = false := by simp; omega
             have hum : (0 : Int) ≤ (u : Int) ∧ (u : Int) < (D.m : Int) := by unfold Dev.m; omega
             have HVA := Lib.hid (show left D G (u : Int) = leftOf D G u by rw [left, if_pos hum]; rfl)
             have HVB := Lib.hid (show left D a.G (u : Int) = leftOf D a.G u by rw [left, if_pos hum]; rfl)
             have HB := Lib.hid hb
             obtain ⟨hb0, hb1⟩ := leftOf_le HO.out.sizes.all HO.out.sizes.soft SG.out u
             clear kc ko hb hu hum hdl
             obtain ⟨v, hv⟩ : ∃ v, leftOf D G u = v := ⟨_, rfl⟩
             obtain ⟨v', hv'⟩ : ∃ v', leftOf D a.G u = v' := ⟨_, rfl⟩
             rw [hv] at HVA HB hb0 hb1
             rw [hv'] at HVB HB
             clear hv hv'
             go_wp2_with fail
             refine (left_any (u : Int) W MW.out.obj v HVA.out).mono ?_
             rintro e w5 ⟨rfl, rfl⟩
             go_wp2_with fail
             refine (get_any (P : Int) q W MW.out.obj HO.out SG.out (by omega) hp1 a HA.out).mono ?_
             rintro e w5 ⟨A5, m5, c5, rfl, u5, _, p5, o5⟩
             rw [KO.out] at u5
             obtain rfl : m5 = 0 := u5.len.symm
             rw [HC.out]
             have M5 := Lib.hid (MW.out.next p5 o5 (fun d hd => .inl hd))
             clear u5 p5 o5 MW
             go_wp2_with fail
             refine (left_any (u : Int) w5 M5.out.obj v' HVB.out).mono ?_
             rintro e w6 ⟨rfl, rfl⟩
             go_wp2_with fail
             go_quiet (fail)
             have M6 := Lib.hid (M5.out.on (Dk.keeps _ _ _ _ _) (below_drewN (Below.refl _ _) nq))
             generalize w5.drewN nq = W6 at *
             clear M5
             go_wp2
             go_loopw [13] (fun i wr' => i = .int .i64 0 ∧ Hid (Mine w2 wr' (Dk b y D a.G a.cl) S)) (fun _ _ => 0)
             case atStart => exact ⟨rfl, M6.out⟩
             case round =>
               clear M6
               obtain ⟨rfl, M7⟩ := hrel
               obtain ⟨_, x0, x1, x2, x3⟩ := B2.out.on M7.out.below
               simp only at x0 x1 x2 x3
               rcases HB.out with hb | ⟨hb, hvv⟩
               · have HBB := Lib.hid hb
                 clear hb
                 go_wp2_with fail
                 refine (lbad_any ⟨da, dn, dc, ba, bn, bc, sa, sn, sc, ha, hn, hc⟩ D u _ (D2.out.on M7.out.below) true HBB.out).mono ?_
                 rintro e w9 ⟨rfl, k9⟩
                 have M9 := Lib.hid (M7.out.on (Dk.keeps _ _ _ _ _) k9)
                 clear k9 M7 x0 x1 x2 x3
                 go_wp2
                 go_roundw
                 case rel => exact ⟨j + 1, a.cl, a.G, by omega, by go_num, by omega, M9.out, SG2.out⟩
                 case measure => simp [intOf]; omega
               · have HBB := Lib.hid hb
                 subst hvv
                 clear hb
                 go_wp2_with fail
                 refine (lbad_any ⟨da, dn, dc, ba, bn, bc, sa, sn, sc, ha, hn, hc⟩ D u _ (D2.out.on M7.out.below) false HBB.out).mono ?_
                 rintro e w9 ⟨rfl, k9⟩
                 have M9 := Lib.hid (M7.out.on (Dk.keeps _ _ _ _ _) k9)
                 clear k9 M7 x0 x1 x2 x3
                 go_wp2
                 go_roundw
                 case rel => exact ⟨j + 1, a.cl, a.G, by omega, by go_num, by omega, M9.out, SG2.out⟩
                 case measure => simp [intOf]; omega
           · clear KI
             have HC := Lib.hid kc; have KO := Lib.hid ko; have KG := Lib.hid kg; have HF := Lib.hid hf
             obtain ⟨u, hu⟩ : ∃ u, P / 8 = u := ⟨_, rfl⟩
             have hpu : (P : Int) / 8 = (u : Int) := by omega
             have hdl := D2.out.data.len
             simp only at hdl
             rw [hdl] at hd
             have hlen : ((D.data.drop P).take m).length = m := by simp; omega
             have HLN := Lib.hid hlen
             clear kc ko kg hf hu hlen
             obtain ⟨v, hv⟩ : ∃ v, left D G (u : Int) = v := ⟨_, rfl⟩
             have HV := Lib.hid hv
             have HDL := Lib.hid hdl
             clear hv hdl
             obtain ⟨gd, od, rfl, _, _⟩ := D2.out.data.cells (by show 0 < dn; omega)
             go_wp2_with fail
             refine (left_any (u : Int) W MW.out.obj v HV.out).mono ?_
             rintro e w5 ⟨rfl, rfl⟩
             go_wp2_with fail
             refine (get_any (P : Int) q W MW.out.obj HO.out SG.out (by omega) hp1 a HA.out).mono ?_
             rintro e w5 ⟨A5, m5, c5, rfl, u5, _, p5, o5⟩
             rw [KO.out] at u5
             obtain rfl : m5 = m := u5.len.symm.trans HLN.out
             rw [KG.out] at p5
             rw [HC.out]
             have M5 := Lib.hid (MW.out.next p5 o5 (fun d hd => .inl hd))
             have U5 := Lib.hid u5
             clear u5 p5 o5 MW
             go_wp2_with fail
             refine (left_any (u : Int) w5 M5.out.obj v HV.out).mono ?_
             rintro e w6 ⟨rfl, rfl⟩
             have PC := (D2.out.on M5.out.below).data.piece P m5 (by show P + m5 ≤ dn; omega)
             simp only at PC
             have hdc : dn ≤ dc := D2.out.data.le
             have hdm : dc ≤ 9223372036854775807 := by have := D2.out.data.mx; unfold maxLen at this; simp only at this; omega
             obtain ⟨f, hfe⟩ : ∃ f, P + m5 = f := ⟨_, rfl⟩
             have t1 : ∀ i, (convert 24 9 (.slice A5 m5 c5)).run Try.prog (w5.drewN i) = .ok (.string (strOfNums ((D.data.drop P).take m5))) (w5.drewN i) := fun i => text_of (U5.out.drewN i)
             have t2 : ∀ i, (convert 24 9 (.slice (some ⟨gd, od + P, none⟩) m5 (dc - P))).run Try.prog (w5.drewN i) = .ok (.string (strOfNums ((D.data.drop P).take m5))) (w5.drewN i) := fun i => text_of (PC.drewN i)
             have t3 : ∀ i, (convert 24 9 (.slice (some ⟨gd, od + P, none⟩) (f - P) (dc - P))).run Try.prog (w5.drewN i) = .ok (.string (strOfNums ((D.data.drop P).take m5))) (w5.drewN i) := fun i => by rw [show f - P = m5 by omega]; exact text_of (PC.drewN i)
             clear PC
             generalize strOfNums ((D.data.drop P).take m5) = tt at *
             have hwf : IntKind.i64.wrap ((P : Int) + (m5 : Int)) = (f : Int) := by rw [← hfe]; exact IntWalk.i64_in _ (by omega)
             have i0 : decide (0 < m5) = true := by simp; omega
             have i1 : (0 : Int) < (m5 : Int) := by omega
             have i2 : decide (q < (m5 : Int)) = false := by simp; omega
             have i3 : ¬ q < (m5 : Int) := by omega
             have i4 : decide (dn < f) = false := by simp; omega
             have i5 : (0 : Int) ≤ (P : Int) := by omega
             have i6 : (P : Int) ≤ (f : Int) := by omega
             have i7 : (f : Int) ≤ (dc : Int) := by omega
             have i8 : ¬ dc = P := by omega
             have i9 : ¬ (dc : Int) = (P : Int) := by omega
             have HFE := Lib.hid hfe
             clear hfe
             obtain ⟨_, x0, x1, x2, x3⟩ := B2.out.on M5.out.below
             simp only at x0 x1 x2 x3
             go_wp2_with fail
             go_quiet (fail)
             have hdn4 : dn ≤ 400 := by rw [← HDL.out]; exact HO.out.sizes.data
             have M6 := Lib.hid (M5.out.on (Dk.keeps _ _ _ _ _) (below_drewN (Below.refl _ _) nq))
             generalize w5.drewN nq = W6 at *
             clear M5 U5 t1 t2 t3 hwf i0 i2 i3 i4 i5 i6 i7 i8 i9 x0 x1 x2 x3 HFE hdm hdc
             go_wp2
             go_loopw [13] (fun i wr' => ∃ k : Nat, k ≤ m5 ∧ i = .int .i64 k ∧ Hid (Mine w2 wr' (Dk b y D G a.cl) S)) (fun i _ => m5 - (intOf i).toNat)
             case atStart => exact ⟨0, Nat.zero_le _, rfl, M6.out⟩
             case round =>
               clear M6
               obtain ⟨k, hk, rfl, M7⟩ := hrel
               by_cases hkl : k < m5
               · obtain ⟨_, x0, x1, x2, x3⟩ := B2.out.on M7.out.below
                 simp only at x0 x1 x2 x3
                 obtain ⟨f1, f2⟩ := HF.out k hkl
                 obtain ⟨t, ht⟩ : ∃ t, (P + k) / 8 = t := ⟨_, rfl⟩
                 have hti : ((P : Int) + (k : Int)) / 8 = (t : Int) := by omega
                 rw [ht] at f1 f2
                 have HB := Lib.hid f1
                 obtain ⟨v2, hv2⟩ : ∃ v2, left D G (t : Int) = v2 := ⟨_, rfl⟩
                 have hv3 : ¬ 0 < v2 := by
                   rw [← hv2, left]
                   split
                   · simpa using f2
                   · omega
                 have HV2 := Lib.hid hv2
                 clear f1 f2 ht hv2
                 have hki : (k : Int) < (m5 : Int) := by omega
                 go_wp2_with fail
                 refine (lbad_any ⟨some ⟨gd, od, none⟩, dn, dc, ba, bn, bc, sa, sn, sc, ha, hn, hc⟩ D t _ (D2.out.on M7.out.below) false HB.out).mono ?_
                 rintro e w9 ⟨rfl, k9⟩
                 have M9 := Lib.hid (M7.out.on (Dk.keeps _ _ _ _ _) k9)
                 clear k9 M7 x0 x1 x2 x3
                 go_wp2_with fail
                 refine (left_any (t : Int) w9 M9.out.obj v2 HV2.out).mono ?_
                 rintro e w10 ⟨rfl, rfl⟩
                 go_wp2
                 go_roundw
                 case rel => exact ⟨k + 1, by omega, by go_num, M9.out⟩
                 case measure => simp [intOf]; omega
               · have hkm : k = m5 := by omega
                 subst hkm
                 go_wp2
                 go_roundw
                 case rel => exact ⟨j + 1, a.cl, G, by omega, by go_num, by omega, M7.out, SG.out⟩
                 case measure => simp [intOf]; omega
         · go_wp2_with fail
           refine (law_runs _).mono ?_
           rintro e w8 ⟨rfl, k8⟩
           have K8 := K2.out.trans ((M.out.below.trans (k8.mono M.out.below.size)).mono K2.out.size)
           go_wp2
           go_ret
           exact ⟨rfl, K8⟩

end Go.Proofs.Ytdfjhgibdabeeaa
