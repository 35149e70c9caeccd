/- The law DiskMay, walked. -/
import Derived.Test.YtdfjhgibdabeeaaLawR
import Derived.Test.YtdfjhgibdabeeaaWalksI
import Derived.WalkKit
import Derived.WalkSpells
import Derived.WalkLawsBesides
import Derived.Lib.Hide
import Derived.BigQuiet
import Derived.Deep.RegionHeld3
namespace Go.Proofs.Ytdfjhgibdabeeaa
open Go.RowKit

/-- Both disks, made of one device that came in. -/
abbrev Two (W0 w : World) (b : Nat) (y : Pd) (S : Nat → Prop) (r : Nat) (x : Hd) (ga : Option Addr) (T : Nat → Prop) (E : Dev) (G : Nat → Int) (cl : Nat) : Prop := Both W0 w (Dk b y E G cl) S (Rd r x ga E.m G cl) T
theorem Two.on {W0 w w' : World} {b : Nat} {y : Pd} {S : Nat → Prop} {r : Nat} {x : Hd} {ga : Option Addr} {T : Nat → Prop} {E : Dev} {G : Nat → Int} {cl : Nat} (h : Two W0 w b y S r x ga T E G cl) (k : Below w.heap.size w w') : Two W0 w' b y S r x ga T E G cl :=
  Both.on (Dk.keeps _ _ _ _ _) (Rd.keeps _ _ _ _ _ _) h k

theorem long_at {b : Nat} {y : Pd} {D : Dev} {G : Nat → Int} {cl : Nat} {S : Nat → Prop} (w : World) (h : Dk b y D G cl w S) (n : Nat) (hn : D.data.length = n) : Calls Try.prog 11 #[.pointer (some ⟨b, 0, none⟩)] w fun e w' => e = .returned (.int .i64 (n : Nat)) ∧ w = w' := hn ▸ long_any w h

set_option maxRecDepth 100000 in
set_option maxHeartbeats 8000000 in
theorem maylaw_walk (X : Hd) (D : Dev) (w : World) (hD : DevIn w X D) : Calls Try.prog 4 #[X.val] w fun e w' => e = .returned (.bool true) ∧ Below w.heap.size w w' := by
  have K0 := Lib.hid (show Below w.heap.size w (w.alloc (.cells X.cells 30)) from (Below.refl _ _).alloc (Nat.le_refl _) _)
  have B0 := Lib.hid (box_of_row (Row.new w 30 X.cells))
  have D0 := Lib.hid (hD.on K0.out)
  clear hD
  obtain ⟨da, dn, dc, ba, bn, bc, sa, sn, sc, ha, hn, hc⟩ := X
  show Calls Try.prog 4 #[.agg #[.slice da dn dc, .slice ba bn bc, .slice sa sn sc, .slice ha hn hc]] w _
  replace K0 : Hid (Below w.heap.size w (w.alloc (.cells #[.slice da dn dc, .slice ba bn bc, .slice sa sn sc, .slice ha hn hc] 30))) := K0
  replace B0 : Hid (Box (w.alloc (.cells #[.slice da dn dc, .slice ba bn bc, .slice sa sn sc, .slice ha hn hc] 30)) w.heap.size ⟨da, dn, dc, ba, bn, bc, sa, sn, sc, ha, hn, hc⟩) := B0
  replace D0 : Hid (DevIn (w.alloc (.cells #[.slice da dn dc, .slice ba bn bc, .slice sa sn sc, .slice ha hn hc] 30)) ⟨da, dn, dc, ba, bn, bc, sa, sn, sc, ha, hn, hc⟩ D) := D0
  go_enter Try.func4, Try.ntmps4
  go_wp2_with fail
  refine (few_any ⟨da, dn, dc, ba, bn, bc, sa, sn, sc, ha, hn, hc⟩ D _ D0.out).mono ?_
  rintro e w1 ⟨rfl, k1⟩
  have K1 := Lib.hid (K0.out.trans (k1.mono K0.out.size)); have B1 := Lib.hid (B0.out.on k1); have D1 := Lib.hid (D0.out.on k1)
  clear k1 K0 B0 D0
  obtain ⟨z, hz⟩ : ∃ z, D.few = z := ⟨_, rfl⟩
  rw [hz]
  have HZ := Lib.hid hz
  clear hz
  cases z with
  | false =>
    go_wp2_with fail
    refine (law_runs _).mono ?_
    rintro e w2 ⟨rfl, k2⟩
    have K2 := K1.out.trans (k2.mono K1.out.size)
    go_wp2
    go_ret
    exact ⟨rfl, K2⟩
  | true =>
    obtain ⟨E, hE⟩ : ∃ E, D.eff = E := ⟨_, rfl⟩
    have HO := Lib.hid (show Okd E by rw [← hE]; exact okd_eff HZ.out)
    have HE := Lib.hid hE
    obtain ⟨x', hx'⟩ : ∃ x', Hd.eff ⟨da, dn, dc, ba, bn, bc, sa, sn, sc, ha, hn, hc⟩ D = x' := ⟨_, rfl⟩
    have HX := Lib.hid hx'
    have DE := Lib.hid (show DevIn w1 x' E by rw [← hE, ← hx']; exact D1.out.eff)
    clear hE hx'
    have DD := Lib.hid (D1.out.on (Below.refl _ _).drew)
    have BD := Lib.hid (B1.out.on (Below.refl _ _).drew)
    have S0 := And.intro BD.out.c0 (And.intro BD.out.c1 (And.intro BD.out.c2 BD.out.c3))
    simp only at S0
    go_wp2_with fail
    go_region_held3 (fun w' => w'.cell? ⟨w.heap.size, 0, none⟩ = some (.slice da dn dc) ∧ w'.cell? ⟨w.heap.size, 1, none⟩ = some (.slice ba bn bc) ∧ w'.cell? ⟨w.heap.size, 2, none⟩ = some (.slice sa sn sc) ∧ w'.cell? ⟨w.heap.size, 3, none⟩ = some (.slice ha hn hc))
      (first | assumption | exact S2 | exact S3)
      (first | (go_at_call 9; refine (new_any ⟨da, dn, dc, ba, bn, bc, sa, sn, sc, ha, hn, hc⟩ D _ DD.out HZ.out).mono ?_; rintro e w2 ⟨b, y, S, rfl, p2, n2, k2⟩; have B2 := BD.out.on k2; have S2 := And.intro B2.c0 (And.intro B2.c1 (And.intro B2.c2 B2.c3)); have DD2 := DD.out.on k2) | (go_at_call 14; refine (rnew_any ⟨da, dn, dc, ba, bn, bc, sa, sn, sc, ha, hn, hc⟩ D _ DD2 HZ.out).mono ?_; rintro e w3 ⟨r, ga, T, rfl, p3, n3, k3⟩; have B3 := B2.on k3; have S3 := And.intro B3.c0 (And.intro B3.c1 (And.intro B3.c2 B3.c3))))
    rw [HE.out] at p2
    rw [HE.out, HX.out] at p3
    have M2 : Mine w1 w2 (Dk b y E zero 0) S := ⟨p2, n2, (Below.refl _ _).drew.trans k2⟩
    have TT := Lib.hid (show Two w1 w3 b y S r x' ga T E zero 0 from M2.both (Dk.keeps _ _ _ _ _) p3 n3 k3)
    have BX := Lib.hid B3
    have DX := Lib.hid (D1.out.on TT.out.f.below)
    clear S0 p2 n2 k2 p3 n3 k3 B2 S2 DD2 B3 S3 M2 DD BD B1
    go_wp2
    go_loop [5] (fun i => ∃ k : Int, -1 ≤ k ∧ k ≤ 60 ∧ i = .int .i64 k) (fun i => (60 - intOf i).toNat)
    case atStart => exact ⟨-1, by omega, by omega, rfl⟩
    case round =>
      obtain ⟨k, hk1, hk2, rfl⟩ := hrel
      by_cases hlt : k < 60
      · obtain ⟨v, hv⟩ : ∃ v, left E zero k = v := ⟨_, rfl⟩
        have HV := Lib.hid hv
        clear hv
        go_wp2_with (first | (go_at_call 15; refine (left_any k _ TT.out.f.obj v HV.out).mono ?_; rintro e w' ⟨rfl, rfl⟩) | (go_at_call 16; refine (rleft_any k _ TT.out.g.obj (DE.out.on TT.out.f.below) rfl HO.out (sound_zero HO.out) v HV.out).mono ?_; rintro e w' ⟨rfl, rfl⟩))
        go_round
        case rel => exact ⟨k + 1, by omega, by omega, by go_num⟩
        case measure => simp [intOf]; omega
      · have DD := Lib.hid (DX.out.on (Below.refl _ _).drew)
        have BD := Lib.hid (BX.out.on (Below.refl _ _).drew)
        have TD := Lib.hid (TT.out.on (Below.refl _ _).drew)
        have HLn := Lib.hid DE.out.data.len
        have S0 := And.intro BD.out.c0 (And.intro BD.out.c1 (And.intro BD.out.c2 (And.intro BD.out.c3 TD.out.g.obj.c0)))
        simp only at S0
        go_wp2_with fail
        go_region_held3 (fun w' => w'.cell? ⟨w.heap.size, 0, none⟩ = some (.slice da dn dc) ∧ w'.cell? ⟨w.heap.size, 1, none⟩ = some (.slice ba bn bc) ∧ w'.cell? ⟨w.heap.size, 2, none⟩ = some (.slice sa sn sc) ∧ w'.cell? ⟨w.heap.size, 3, none⟩ = some (.slice ha hn hc) ∧ w'.cell? ⟨r, 0, none⟩ = some (.slice x'.da x'.dn x'.dc))
          (first | assumption | exact S5 | exact S6 | exact S8)
          (first | (go_at_call 17; refine (may_any ⟨da, dn, dc, ba, bn, bc, sa, sn, sc, ha, hn, hc⟩ D _ DD.out).mono ?_; rintro e w5 ⟨rfl, k5⟩; have B5 := BD.out.on k5; have T5 := TD.out.on k5; have S5 := And.intro B5.c0 (And.intro B5.c1 (And.intro B5.c2 (And.intro B5.c3 T5.g.obj.c0))); have DD5 := DD.out.on k5) | (go_at_call 18; refine (rmay_any ⟨da, dn, dc, ba, bn, bc, sa, sn, sc, ha, hn, hc⟩ D _ DD5).mono ?_; rintro e w6 ⟨rfl, k6⟩; have B6 := B5.on k6; have T6 := T5.on k6; have S6 := And.intro B6.c0 (And.intro B6.c1 (And.intro B6.c2 (And.intro B6.c3 T6.g.obj.c0)))) | (go_at_call 11; refine (long_at _ T6.f.obj x'.dn HLn.out).mono ?_; rintro e w7 ⟨rfl, rfl⟩) | (go_at_call 12; refine (calls_any _ T6.f.obj).mono ?_; rintro e w7 ⟨rfl, rfl⟩) | (go_at_call 3; refine (law_runs _).mono ?_; rintro e w8 ⟨rfl, k8⟩; have B8 := B6.on k8; have T8 := T6.on k8; have S8 := And.intro B8.c0 (And.intro B8.c1 (And.intro B8.c2 (And.intro B8.c3 T8.g.obj.c0)))))
        have KF := Lib.hid (K1.out.trans (T8.f.below.mono K1.out.size))
        clear S0 B5 T5 S5 DD5 B6 T6 S6 B8 T8 S8 k5 k6 k8
        go_wp2
        go_ret
        exact ⟨rfl, KF.out⟩

end Go.Proofs.Ytdfjhgibdabeeaa
