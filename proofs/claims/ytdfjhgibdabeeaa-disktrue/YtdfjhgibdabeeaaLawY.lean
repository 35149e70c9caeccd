/- The law DiskPlays, walked. -/
import Derived.Test.YtdfjhgibdabeeaaLawM
import Derived.Test.YtdfjhgibdabeeaaReadD
import Derived.WalkKit
import Derived.WalkSpells
import Derived.WalkLawsBesides
import Derived.Lib.Hide
import Derived.BigQuiet
import Derived.Deep.RegionHeld3
namespace Go.Proofs.Ytdfjhgibdabeeaa
open Go.RowKit

theorem get_cl (D : Dev) (G : Nat → Int) (cl : Nat) (p n : Int) : (get D G cl p n).cl ≤ cl + 1 := by
  unfold get
  split
  · exact Nat.le_succ _
  · split
    · exact Nat.le_refl _
    · split <;> exact Nat.le_refl _
theorem asks_hold {W0 w : World} {lb o j : Nat} {u v : Value} (hb : lb < W0.heap.size) (h1 : W0.cell? ⟨lb, o + j * 2, none⟩ = some u) (h2 : W0.cell? ⟨lb, o + j * 2 + 1, none⟩ = some v) (k : Below W0.heap.size W0 w) : w.cell? ⟨lb, o + j * 2, none⟩ = some u ∧ w.cell? ⟨lb, o + j * 2 + 1, none⟩ = some v :=
  ⟨(k.cell (p := ⟨lb, o + j * 2, none⟩) hb).trans h1, (k.cell (p := ⟨lb, o + j * 2 + 1, none⟩) hb).trans h2⟩

set_option maxRecDepth 100000 in
set_option maxHeartbeats 16000000 in
theorem playslaw_walk (X : Hd) (D : Dev) (A : Option Addr) (n c : Nat) (L : List (Int × Int)) (sector : Int) (w : World) (hD : DevIn w X D) (hL : IsPairs w A n L) (_ : (Lit.int .i64 sector).wf = true) : Calls Try.prog 5 #[X.val, .slice A n c, .int .i64 sector] w fun e w' => e = .returned (.bool true) ∧ Below w.heap.size w w' := by
  have K0 := Lib.hid (show Below w.heap.size w (w.alloc (.cells X.cells 30)) from (Below.refl _ _).alloc (Nat.le_refl _) _)
  have B0 := Lib.hid (box_of_row (Row.new w 30 X.cells))
  have D0 := Lib.hid (hD.on K0.out)
  have HL := Lib.hid (hL.1.on K0.out)
  have hnm : n ≤ 9223372036854775807 := by have := hL.1.mx; unfold maxLen at this; omega
  have HW := Lib.hid hL.2
  clear hD hL
  obtain ⟨da, dn, dc, ba, bn, bc, sa, sn, sc, ha, hn, hc⟩ := X
  show Calls Try.prog 5 #[.agg #[.slice da dn dc, .slice ba bn bc, .slice sa sn sc, .slice ha hn hc], .slice A n c, .int .i64 sector] w _
  replace K0 : Hid (Below w.heap.size w (w.alloc (.cells #[.slice da dn dc, .slice ba bn bc, .slice sa sn sc, .slice ha hn hc] 30))) := K0
  replace B0 : Hid (Box (w.alloc (.cells #[.slice da dn dc, .slice ba bn bc, .slice sa sn sc, .slice ha hn hc] 30)) w.heap.size ⟨da, dn, dc, ba, bn, bc, sa, sn, sc, ha, hn, hc⟩) := B0
  replace D0 : Hid (DevIn (w.alloc (.cells #[.slice da dn dc, .slice ba bn bc, .slice sa sn sc, .slice ha hn hc] 30)) ⟨da, dn, dc, ba, bn, bc, sa, sn, sc, ha, hn, hc⟩ D) := D0
  replace HL : Hid (Pairs (w.alloc (.cells #[.slice da dn dc, .slice ba bn bc, .slice sa sn sc, .slice ha hn hc] 30)) A n L) := HL
  go_enter Try.func5, Try.ntmps5
  go_wp2_with fail
  refine (few_any ⟨da, dn, dc, ba, bn, bc, sa, sn, sc, ha, hn, hc⟩ D _ D0.out).mono ?_
  rintro e w1 ⟨rfl, k1⟩
  have K1 := Lib.hid (K0.out.trans (k1.mono K0.out.size)); have B1 := Lib.hid (B0.out.on k1); have D1 := Lib.hid (D0.out.on k1)
  have L1 := Lib.hid (HL.out.on k1)
  clear k1 K0 B0 D0 HL
  obtain ⟨z, hz⟩ : ∃ z, D.few = z := ⟨_, rfl⟩
  rw [hz]
  have HZ := Lib.hid hz
  clear hz
  cases z with
  | false =>
    go_wp2_with fail
    refine (law_runs _).mono ?_
    rintro e w2 ⟨rfl, k2⟩
    have K2 := K1.out.trans (k2.mono K1.out.size)
    go_wp2
    go_ret
    exact ⟨rfl, K2⟩
  | true =>
   by_cases hn100 : 100 < n
   · have hn1 : (100 : Int) < (n : Int) := by omega
     go_wp2_with fail
     refine (law_runs _).mono ?_
     rintro e w2 ⟨rfl, k2⟩
     have K2 := K1.out.trans (k2.mono K1.out.size)
     go_wp2
     go_ret
     exact ⟨rfl, K2⟩
   · have hn1 : ¬ (100 : Int) < (n : Int) := by omega
     obtain ⟨E, hE⟩ : ∃ E, D.eff = E := ⟨_, rfl⟩
     have HO := Lib.hid (show Okd E by rw [← hE]; exact okd_eff HZ.out)
     have HE := Lib.hid hE
     obtain ⟨x', hx'⟩ : ∃ x', Hd.eff ⟨da, dn, dc, ba, bn, bc, sa, sn, sc, ha, hn, hc⟩ D = x' := ⟨_, rfl⟩
     have HX := Lib.hid hx'
     have DE := Lib.hid (show DevIn w1 x' E by rw [← hE, ← hx']; exact D1.out.eff)
     clear hE hx'
     have DD := Lib.hid (D1.out.on (Below.refl _ _).drew)
     have BD := Lib.hid (B1.out.on (Below.refl _ _).drew)
     have S0 := And.intro BD.out.c0 (And.intro BD.out.c1 (And.intro BD.out.c2 BD.out.c3))
     simp only at S0
     go_wp2_with fail
     go_region_held3 (fun w' => w'.cell? ⟨w.heap.size, 0, none⟩ = some (.slice da dn dc) ∧ w'.cell? ⟨w.heap.size, 1, none⟩ = some (.slice ba bn bc) ∧ w'.cell? ⟨w.heap.size, 2, none⟩ = some (.slice sa sn sc) ∧ w'.cell? ⟨w.heap.size, 3, none⟩ = some (.slice ha hn hc))
       (first | assumption | exact S2 | exact S3)
       (first | (go_at_call 9; refine (new_any ⟨da, dn, dc, ba, bn, bc, sa, sn, sc, ha, hn, hc⟩ D _ DD.out HZ.out).mono ?_; rintro e w2 ⟨b, y, S, rfl, p2, n2, k2⟩; have B2 := BD.out.on k2; have S2 := And.intro B2.c0 (And.intro B2.c1 (And.intro B2.c2 B2.c3)); have DD2 := DD.out.on k2) | (go_at_call 14; refine (rnew_any ⟨da, dn, dc, ba, bn, bc, sa, sn, sc, ha, hn, hc⟩ D _ DD2 HZ.out).mono ?_; rintro e w3 ⟨r, ga, T, rfl, p3, n3, k3⟩; have B3 := B2.on k3; have S3 := And.intro B3.c0 (And.intro B3.c1 (And.intro B3.c2 B3.c3))))
     rw [HE.out] at p2
     rw [HE.out, HX.out] at p3
     have M2 : Mine w1 w2 (Dk b y E zero 0) S := ⟨p2, n2, (Below.refl _ _).drew.trans k2⟩
     have TT := Lib.hid (show Two w1 w3 b y S r x' ga T E zero 0 from M2.both (Dk.keeps _ _ _ _ _) p3 n3 k3)
     clear S0 p2 n2 k2 p3 n3 k3 B2 S2 DD2 B3 S3 M2 DD BD B1 D1 HE HX
     go_wp2
     go_loopw [9] (fun i wr => ∃ (j cl : Nat) (G : Nat → Int), j ≤ n ∧ i = .int .i64 j ∧ cl ≤ j ∧ Hid (Two w1 wr b y S r x' ga T E G cl) ∧ Hid (Sound E G)) (fun i _ => n - (intOf i).toNat)
     case atStart => exact ⟨0, 0, zero, Nat.zero_le _, rfl, Nat.le_refl _, TT.out, sound_zero HO.out⟩
     case round =>
       clear TT
       obtain ⟨j, cl, G, hj, rfl, hcl, TT, SG⟩ := hrel
       by_cases hlt : j < n
       · obtain ⟨lb, o, rfl, hlb, hc⟩ := L1.out.cells (by omega)
         obtain ⟨e0, e1⟩ := hc j hlt
         obtain ⟨hp0, hp1⟩ := bounds_i64 (HW.out j hlt).1
         have E0 := Lib.hid e0; have E1 := Lib.hid e1
         have hji : (j : Int) < (n : Int) := by omega
         have hj0 : (0 : Int) ≤ (j : Int) := by omega
         clear hc e0 e1
         generalize L.getD j (0, 0) = q at *
         obtain ⟨p, q⟩ := q
         simp only at E0 E1 hp0 hp1
         obtain ⟨a, ha⟩ : ∃ a, get E G cl p q = a := ⟨_, rfl⟩
         have HA := Lib.hid ha
         have SG2 := Lib.hid (show Sound E a.G by rw [← ha]; exact sound_get SG.out cl p q)
         have hcl2 : a.cl ≤ cl + 1 := by rw [← ha]; exact get_cl _ _ _ _ _
         clear ha
         have TD := Lib.hid (TT.out.on (Below.refl _ _).drew)
         have S0 := asks_hold hlb E0.out E1.out TD.out.f.below
         go_wp2_with fail
         go_region_held3 (fun w' => w'.cell? ⟨lb, o + j * 2, none⟩ = some (.int .i64 p) ∧ w'.cell? ⟨lb, o + j * 2 + 1, none⟩ = some (.int .i64 q))
           (first | assumption | exact S5)
           (first | (go_at_call 10; refine (get_any p q _ TD.out.f.obj HO.out SG.out (by omega) hp1 a HA.out).mono ?_; rintro e w5 ⟨A1, m1, c1, rfl, u1, n1, p1, o1⟩; have T5 := Both.fst (Rd.keeps _ _ _ _ _ _) TD.out p1 o1 (fun d hd => .inl hd); have S5 := asks_hold hlb E0.out E1.out T5.f.below))
         have N1 := Lib.hid (show ∀ g o, A1 = some ⟨g, o, none⟩ → ¬ T g from fun g o he ht => by have := n1 g o he; have := TD.out.g.obj.lt g ht; omega)
         have T5 := Lib.hid T5; have U1 := Lib.hid u1
         clear u1 n1 p1 o1 S0 TD TT
         have TD := Lib.hid (Both.on (Dk.keeps _ _ _ _ _) (Rd.keeps _ _ _ _ _ _) T5.out (Below.refl _ _).drew)
         have UD := Lib.hid (U1.out.on (Below.refl _ _).drew)
         have S0 := S5
         clear S5
         replace S0 := asks_hold hlb E0.out E1.out TD.out.f.below
         go_wp2_with fail
         go_region_held3 (fun w' => w'.cell? ⟨lb, o + j * 2, none⟩ = some (.int .i64 p) ∧ w'.cell? ⟨lb, o + j * 2 + 1, none⟩ = some (.int .i64 q))
           (first | assumption | exact S6)
           (first | (go_at_call 19; refine (rget_any p q _ TD.out.g DE.out rfl HO.out SG.out (by omega) hp1 a HA.out).mono ?_; rintro e w6 ⟨A2, m2, c2, rfl, u2, n2, p2, o2⟩; have T6 := Both.snd (Dk.keeps _ _ _ _ _) TD.out p2 o2 (fun d hd => .inl hd); have S6 := asks_hold hlb E0.out E1.out T6.f.below))
         have U6 := Lib.hid (UD.out.only o2 (fun g o he _ => N1.out g o he))
         have V6 := Lib.hid u2
         have T6 := Lib.hid T6
         clear u2 n2 p2 o2 S0 S6 TD UD N1 T5 U1
         have t1 : ∀ m, (convert 24 9 (.slice A1 m1 c1)).run Try.prog (w6.drewN m) = .ok (.string (strOfNums a.out)) (w6.drewN m) := fun m => text_of (U6.out.drewN m)
         have t2 : ∀ m, (convert 24 9 (.slice A2 m2 c2)).run Try.prog (w6.drewN m) = .ok (.string (strOfNums a.out)) (w6.drewN m) := fun m => text_of (V6.out.drewN m)
         have c5 := T6.out.g.obj.c5
         obtain ⟨v, hv⟩ : ∃ v, left E a.G sector = v := ⟨_, rfl⟩
         have HV := Lib.hid hv
         clear hv U6 V6 SG HA
         generalize strOfNums a.out = tt at *
         go_wp2
         go_quiet (first | (go_at_call 12; exact quiet_mine (calls_any _ (T6.out.f.obj.on (below_drewN (Below.refl _ _) _)))) | (go_at_call 15; exact quiet_mine (left_any sector _ (T6.out.f.obj.on (below_drewN (Below.refl _ _) _)) v HV.out)) | (go_at_call 16; exact quiet_mine (rleft_any sector _ (T6.out.g.obj.on (below_drewN (Below.refl _ _) _)) (DE.out.on (below_drewN T6.out.f.below _)) rfl HO.out SG2.out v HV.out)))
         go_wp2
         go_roundw
         case rel => exact ⟨j + 1, a.cl, a.G, by omega, by go_num, by omega, Both.on (Dk.keeps _ _ _ _ _) (Rd.keeps _ _ _ _ _ _) T6.out (below_drewN (Below.refl _ _) _), SG2.out⟩
         case measure => simp [intOf]; omega
       · have hjn : j = n := by omega
         clear L1 HW
         subst hjn
         go_wp2
         go_loopw [14] (fun i wr => ∃ k : Int, 0 ≤ k ∧ k ≤ 60 ∧ i = .int .i64 k ∧ Hid (Two w1 wr b y S r x' ga T E G cl)) (fun i _ => (60 - intOf i).toNat)
         case atStart => exact ⟨0, by omega, by omega, rfl, TT.out⟩
         case round =>
           clear TT
           obtain ⟨k, hk1, hk2, rfl, TT⟩ := hrel
           by_cases hlt : k < 60
           · obtain ⟨v, hv⟩ : ∃ v, left E G k = v := ⟨_, rfl⟩
             have HV := Lib.hid hv
             clear hv
             go_wp2_with (first | (go_at_call 15; refine (left_any k _ TT.out.f.obj v HV.out).mono ?_; rintro e w' ⟨rfl, rfl⟩) | (go_at_call 16; refine (rleft_any k _ TT.out.g.obj (DE.out.on TT.out.f.below) rfl HO.out SG.out v HV.out).mono ?_; rintro e w' ⟨rfl, rfl⟩))
             go_roundw
             case rel => exact ⟨k + 1, by omega, by omega, by go_num, TT.out⟩
             case measure => simp [intOf]; omega
           · go_wp2_with fail
             refine (law_runs _).mono ?_
             rintro e w2 ⟨rfl, k2⟩
             have K2 := K1.out.trans ((TT.out.f.below.trans (k2.mono TT.out.f.below.size)).mono K1.out.size)
             go_wp2
             go_ret
             exact ⟨rfl, K2⟩

end Go.Proofs.Ytdfjhgibdabeeaa
