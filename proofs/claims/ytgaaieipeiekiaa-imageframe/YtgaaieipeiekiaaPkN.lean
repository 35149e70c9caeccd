/- Contract of the law ImageFrame (written by tools/image/mkLwQ.py). / What the laws' walks are told of their arguments: images, changes. / What the laws' walks are told of their arguments: of what files and changes are made. / What a law's walk is told of an argument that is a made change. -/
import Derived.Test.YtgaaieipeiekiaaPkK
import Derived.Test.YtgaaieipeiekiaaPkM
import Derived.Test.YtgaaieipeiekiaaPkL
import Derived.Deep.RegionHeld3
import Derived.Test.YtgaaieipeiekiaaPkJ
import Derived.Lib.SmallJoins
import Derived.ProofKit
import Derived.OpenShut
import Derived.WalkKit
import Derived.Deep.Slices
import Derived.Deep.SlicePairs
namespace Go.Proofs.Ytgaaieipeiekiaa
open Go.RowKit
set_option maxRecDepth 100000

structure Framed (I J : Ig) (k : Int) : Prop where
  names : J.N = I.N
  len : J.D.length = I.D.length
  got : ∀ x ∈ I.N, ∃ d e, fnd Nd.ino I.D x.ino = some d ∧ fnd Nd.ino J.D x.ino = some e ∧ (x.ino ≠ k → e = d)
theorem framed {I : Ig} (hg : GoodI I) {o : Opv} (h1 : o.kind ≠ 1) (h6 : o.kind ≠ 6) (h7 : o.kind ≠ 7) : Framed I (applyS I o) o.ino := by
  have same : Framed I I o.ino := ⟨rfl, rfl, fun x hx => by
    obtain ⟨d, hd⟩ := hg.node hx
    exact ⟨d, d, hd, hd, fun _ => rfl⟩⟩
  unfold applyS
  rw [if_neg h1, if_neg h6, if_neg h7]
  cases hf : fnd Nd.ino I.D o.ino with
  | none => exact same
  | some d =>
    dsimp only
    cases hc : chg o d.s d.L with
    | none => exact same
    | some r =>
      dsimp only
      refine ⟨rfl, by show (updk Nd.ino I.D o.ino _).length = _; unfold updk; rw [List.length_map], fun x hx => ?_⟩
      obtain ⟨e, he⟩ := hg.node hx
      have hu := fnd_updk (key := Nd.ino) (L := I.D) (k := o.ino) (y := ⟨o.ino, r.1, r.2⟩) rfl x.ino
      by_cases hk : x.ino = o.ino
      · refine ⟨e, ⟨o.ino, r.1, r.2⟩, he, ?_, fun h => absurd hk h⟩
        show fnd Nd.ino (updk Nd.ino I.D o.ino ⟨o.ino, r.1, r.2⟩) x.ino = _
        rw [hu, if_pos hk, hf]; rfl
      · refine ⟨e, e, he, ?_, fun _ => rfl⟩
        show fnd Nd.ino (updk Nd.ino I.D o.ino ⟨o.ino, r.1, r.2⟩) x.ino = _
        rw [hu, if_neg hk]; exact he
theorem cell_on {w w' : World} {p : Addr} {v : Value} (k : Below w.heap.size w w') (h : w.cell? p = some v) : w'.cell? p = some v := (World.cell?_of_block (w := w) (k.block p.block (World.block_lt_of_cell? w p h))).trans h
theorem getI_at {I : Ig} {n : Int} {d : Nd} (h : fnd Nd.ino I.D n = some d) : getI I n = ((d.s, d.L), true) := by unfold getI; rw [h]
theorem findI_at {I : Ig} (hr : Rise ordN Nm.name I.N) {x : Nm} (h : x ∈ I.N) : findI I x.name = (x.ino, true) := by
  unfold findI
  rw [fnd_of_mem hr h]

set_option maxHeartbeats 32000000 in
theorem law_frame (A : Option Addr) (n c : Nat) (P : List Kp) (x : Lo) (w : World) (h : KpsIn w A n c P) (hx : x.ok) :
    Calls Try.prog 4 #[.slice A n c, lv x] w (TruthPost true w) := by
  have HX := Lib.hid hx
  obtain ⟨xk, xn, xt, xi, xp, xm, xe⟩ := x
  obtain ⟨W, hW⟩ : ∃ W, w.alloc (.cells #[.int .u8 xk, .int .u8 xn, .int .u8 xt, .int .u8 xi, .int .u16 xp, .int .u16 xm, .bool xe] 43) = W := ⟨_, rfl⟩
  have KW := Lib.hid (show Below w.heap.size w W by rw [← hW]; exact (Below.refl _ _).alloc (Nat.le_refl _) _)
  have X0 := Lib.hid (show Row W w.heap.size 43 #[.int .u8 xk, .int .u8 xn, .int .u8 xt, .int .u8 xi, .int .u16 xp, .int .u16 xm, .bool xe] by rw [← hW]; exact Row.new w 43 _)
  have H := Lib.hid (h.on KW.out)
  have HW := Lib.hid hW
  clear h hx hW
  show Calls Try.prog 4 #[.slice A n c, .agg #[.int .u8 xk, .int .u8 xn, .int .u8 xt, .int .u8 xi, .int .u16 xp, .int .u16 xm, .bool xe]] w _
  go_enter Try.func4, Try.ntmps4
  go_upto_region 1 with fail
  rw [HW.out]
  clear HW
  go_wp2_with fail
  refine (of_any A n c P W H.out).mono ?_
  rintro e w1 ⟨D, d, D', d', M, Y, he, hok, him, k⟩
  obtain rfl : e = .returned (.agg #[.slice D M.length d, .slice D' Y.length d']) := he
  have HOk := Lib.hid hok
  have K1 := Lib.hid (KW.out.trans (k.mono KW.out.size)); have X1 := Lib.hid (X0.out.on k); have I1 := Lib.hid him.im
  clear k hok him
  obtain ⟨w2, hW⟩ : ∃ W, w1.alloc (.cells #[.slice D M.length d, .slice D' Y.length d'] 25) = W := ⟨_, rfl⟩
  have k : Below w1.heap.size w1 w2 := by rw [← hW]; exact (Below.refl _ _).alloc (Nat.le_refl _) _
  have K2 := Lib.hid (K1.out.trans (k.mono K1.out.size)); have X2 := Lib.hid (X1.out.on k); have I2 := Lib.hid (I1.out.on k)
  have B2 := Lib.hid (show IBox w2 w1.heap.size D M.length d D' Y.length d' by rw [← hW]; exact ibox_new _ _ _ _ _ _ _)
  have HW := Lib.hid hW
  clear k hW
  go_upto_region 2 with fail
  rw [HW.out]
  clear HW
  have x0 := X2.out.at 0; have x1 := X2.out.at 1; have x2 := X2.out.at 2; have x3 := X2.out.at 3; have x4 := X2.out.at 4; have x5 := X2.out.at 5; have x6 := X2.out.at 6
  simp only [List.getElem?_toArray, List.getElem?_cons_zero, List.getElem?_cons_succ] at x0 x1 x2 x3 x4 x5 x6
  go_wp2_with fail
  refine (op_any ⟨xk, xn, xt, xi, xp, xm, xe⟩ w2 HX.out).mono ?_
  rintro e w3 ⟨o', BA, cb, he, hoi, hsm, h9, hnew, k⟩
  obtain ⟨kind, ino, pos, size, keep, name, to, bs⟩ := o'
  obtain rfl : e = .returned (.agg #[.int .i64 kind, .int .i64 ino, .int .i64 pos, .int .i64 size, .bool keep, .string name, .string to, .slice BA bs.length cb]) := he
  have K3 := Lib.hid (K2.out.trans (k.mono K2.out.size)); have I3 := Lib.hid (I2.out.on k); have B3 := Lib.hid (B2.out.on k)
  have O3 := Lib.hid hoi; have HSm := Lib.hid hsm
  clear k hoi hsm h9 hnew x0 x1 x2 x3 x4 x5 x6
  obtain ⟨w4, hW⟩ : ∃ W, w3.alloc (.cells #[.int .i64 kind, .int .i64 ino, .int .i64 pos, .int .i64 size, .bool keep, .string name, .string to, .slice BA bs.length cb] 29) = W := ⟨_, rfl⟩
  have k : Below w3.heap.size w3 w4 := by rw [← hW]; exact (Below.refl _ _).alloc (Nat.le_refl _) _
  have K4 := Lib.hid (K3.out.trans (k.mono K3.out.size)); have I4 := Lib.hid (I3.out.on k); have B4 := Lib.hid (B3.out.on k); have O4 := Lib.hid (O3.out.on k)
  have C4 := Lib.hid (show OBox w4 w3.heap.size ⟨kind, ino, pos, size, keep, name, to, bs⟩ BA cb by rw [← hW]; exact obox_new w3 ⟨kind, ino, pos, size, keep, name, to, bs⟩ BA cb)
  have HW := Lib.hid hW
  clear k hW
  go_upto_region 3 with fail
  rw [HW.out]
  clear HW
  have o0 := C4.out.c0
  simp only at o0
  by_cases hk2 : kind < 2
  · go_wp2_with fail
    refine (law_runs _).mono ?_
    rintro e w5 ⟨rfl, k⟩
    have K5 := Lib.hid (K4.out.trans (k.mono K4.out.size))
    go_wp2
    go_ret
    exact ⟨rfl, K5.out⟩
  · by_cases hk5 : 5 < kind
    · go_wp2_with fail
      refine (law_runs _).mono ?_
      rintro e w5 ⟨rfl, k⟩
      have K5 := Lib.hid (K4.out.trans (k.mono K4.out.size))
      go_wp2
      go_ret
      exact ⟨rfl, K5.out⟩
    · have HFr := Lib.hid (framed HOk.out.good (o := ⟨kind, ino, pos, size, keep, name, to, bs⟩) (show kind ≠ 1 by omega) (show kind ≠ 6 by omega) (show kind ≠ 7 by omega))
      have o1 := C4.out.c1; have o2 := C4.out.c2; have o3 := C4.out.c3; have o4 := C4.out.c4; have o5 := C4.out.c5; have o6 := C4.out.c6; have o7 := C4.out.c7
      simp only at o1 o2 o3 o4 o5 o6 o7
      have b0 := B4.out.c0; have b1 := B4.out.c1
      go_wp2_with fail
      refine (apply_any D d D' d' M Y ⟨kind, ino, pos, size, keep, name, to, bs⟩ BA cb 30 w4 I4.out (by have := (good_lens HOk.out.good).1; omega) (by have := (good_lens HOk.out.good).2; omega) HOk.out.lens O4.out HSm.out (by omega) true (by simpa using HOk.out.good) (applyS (ig M Y) ⟨kind, ino, pos, size, keep, name, to, bs⟩) (fun _ => rfl) (fun h => by cases h)).mono ?_
      rintro e w5 ⟨F, f, F', f', MJ, YJ, hi, he, him, k⟩
      obtain rfl : e = .returned (.agg #[.slice F MJ.length f, .slice F' YJ.length f']) := he
      have K5 := Lib.hid (K4.out.trans (k.mono K4.out.size)); have I5 := Lib.hid (I4.out.on k); have B5 := Lib.hid (B4.out.on k); have C5 := Lib.hid (C4.out.on k)
      have J5 := Lib.hid him.im
      have HJi := Lib.hid hi
      have HJg := Lib.hid (show GoodI (ig MJ YJ) by rw [hi]; exact good_apply HOk.out.good _)
      have HJl := Lib.hid (show Lens 90 (ig MJ YJ) by rw [hi]; exact lens_apply HOk.out.good HOk.out.lens HSm.out)
      have hMM : MJ = M := by have := HFr.out.names; rw [← hi] at this; exact this
      have hYY : YJ.length = Y.length := by have := HFr.out.len; rw [← hi] at this; simpa [ig] using this
      rw [← hi] at HFr
      subst hMM
      obtain ⟨m, hm⟩ : ∃ m, MJ.length = m := ⟨_, rfl⟩
      obtain ⟨yl, hyl⟩ : ∃ yl, Y.length = yl := ⟨_, rfl⟩
      have HML := Lib.hid hm; have HYL := Lib.hid hyl; have HYY := Lib.hid hYY
      clear hm hyl hYY
      clear k b0 b1 o0 o1 o2 o3 o4 o5 o6 o7 him hi
      obtain ⟨w6, hW⟩ : ∃ W, w5.alloc (.cells #[.slice F MJ.length f, .slice F' YJ.length f'] 25) = W := ⟨_, rfl⟩
      have k : Below w5.heap.size w5 w6 := by rw [← hW]; exact (Below.refl _ _).alloc (Nat.le_refl _) _
      have K6 := Lib.hid (K5.out.trans (k.mono K5.out.size)); have I6 := Lib.hid (I5.out.on k); have B6 := Lib.hid (B5.out.on k); have C6 := Lib.hid (C5.out.on k); have J6 := Lib.hid (J5.out.on k)
      have R6 := Lib.hid (show IBox w6 w5.heap.size F MJ.length f F' YJ.length f' by rw [← hW]; exact ibox_new _ _ _ _ _ _ _)
      have HW := Lib.hid hW
      clear k hW
      go_upto_region 6 with fail
      rw [HW.out]
      clear HW
      rw [HYY.out] at R6 J6
      rw [HML.out] at R6 J6 B6 I6
      rw [HYL.out] at R6 J6 B6 I6
      have b0 := B6.out.c0; have b1 := B6.out.c1; have r0 := R6.out.c0; have r1 := R6.out.c1
      go_wp2
      clear b0 b1 r0 r1
      go_loopw [8] (fun y wr => ∃ i : Nat, i ≤ m ∧ y = .int .i64 i ∧ Hid (Below w6.heap.size w6 wr)) (fun y _ => m - (intOf y).toNat)
      case atStart => exact ⟨0, Nat.zero_le _, rfl, Below.refl _ _⟩
      case round =>
        obtain ⟨i, hi, rfl, KR⟩ := hrel
        have hm16 : m ≤ 16 := by have := (good_lens HOk.out.good).1; have := HML.out; omega
        by_cases hlt : i < m
        · have hii : (i : Int) < (m : Int) := by omega
          have IR := Lib.hid (I6.out.on KR.out); have BR := Lib.hid (B6.out.on KR.out); have CR := Lib.hid (C6.out.on KR.out); have JR := Lib.hid (J6.out.on KR.out); have RR := Lib.hid (R6.out.on KR.out)
          have K7 := Lib.hid (K6.out.trans (KR.out.mono K6.out.size))
          have HMm := Lib.hid (IR.out.names.mem i hlt)
          obtain ⟨gb, go', rfl, _, _⟩ := IR.out.names.cells (by omega)
          have HNa := Lib.hid (fun (v : World) (kk : Below wr.heap.size wr v) => Nms.at (IR.out.names.on kk) i hlt)
          generalize MJ.getD i default = xx at HMm HNa
          obtain ⟨nm, no⟩ := xx
          simp only at HNa
          obtain ⟨dd, ee, hd, he, hde⟩ := HFr.out.got ⟨nm, no⟩ HMm.out
          have HG1 := Lib.hid (show getI (ig MJ Y) no = ((dd.s, dd.L), true) from getI_at hd)
          have HG2 := Lib.hid (show getI (ig MJ YJ) no = ((ee.s, ee.L), true) from getI_at he)
          have HDE := Lib.hid (show no ≠ ino → ee.s = dd.s ∧ ee.L = dd.L from fun h => by rw [hde h]; exact ⟨rfl, rfl⟩)
          have HFd := Lib.hid (show findI (ig MJ YJ) nm = (no, true) from findI_at HJg.out.rise HMm.out)
          clear hd he hde hlt
          obtain ⟨di, ds, dL⟩ := dd
          obtain ⟨ei, es, eL⟩ := ee
          simp only at HG1 HG2 HDE
          have qb0 := fun u : Wb wr => (BR.out.on u.k).c0
          have qb1 := fun u : Wb wr => (BR.out.on u.k).c1
          have qr0 := fun u : Wb wr => (RR.out.on u.k).c0
          have qr1 := fun u : Wb wr => (RR.out.on u.k).c1
          have qn0 := fun u : Wb wr => (HNa.out _ u.k).1
          have b0 := BR.out.c0; have b1 := BR.out.c1
          have Q7 : ∀ u : Wb wr, Calls Try.prog 7 #[.agg #[.slice F m f, .slice F' yl f'], .string nm] u.v (fun e w'' => e = .returned (.tuple #[.int .i64 no, .bool true]) ∧ ∃ m : Wb wr, w'' = m.v) := fun u => (find_good (JR.out.on u.k) HJg.out nm no true HFd.out).mono fun _ _ ⟨h1, h2⟩ => ⟨h1, ⟨_, u.k.trans (h2.mono u.k.size)⟩, rfl⟩
          go_upto_region 11 with fail
          refine wp_region_grew (by kernel_rfl) (by kernel_rfl) ?_
          repeat (go_big_quiet_step (first | (go_at_call 7; with_reducible exact Q7 _)))
          refine wpQuiet_nil ?_
          rintro w7 ⟨⟨w7', k7⟩, h7⟩
          obtain rfl : w7 = w7' := h7
          try dsimp only
          have KK7 := Lib.hid k7
          have I8 := Lib.hid (IR.out.on k7); have B8 := Lib.hid (BR.out.on k7); have C8 := Lib.hid (CR.out.on k7); have J8 := Lib.hid (JR.out.on k7); have R8 := Lib.hid (RR.out.on k7)
          have HN8 := Lib.hid (HNa.out _ k7)
          clear k7 qb0 qb1 qr0 qr1 qn0 b0 b1 Q7
          have N18 := Lib.hid HN8.out.2
          have KQ8 := Lib.hid (show Below w6.heap.size w6 w7 from KR.out.trans (KK7.out.mono KR.out.size))
          have b0 := B8.out.c0; have b1 := B8.out.c1; have n1' := N18.out
          go_upto_region 12 with fail
          have HP1 := Lib.hid (show Below w7.heap.size w7 (w7.drewN 1) from below_drewN (Below.refl _ _) 1)
          have HP2 := Lib.hid (show Below w7.heap.size w7 ((w7.alloc (.cells #[.int .i64 0, .slice none 0 0] 34)).drewN 1) from below_drewN ((Below.refl _ _).alloc (Nat.le_refl _) _) 1)
          have HPX := Lib.hid (show Below (w7.alloc (.cells #[.int .i64 0, .slice none 0 0] 34)).heap.size (w7.alloc (.cells #[.int .i64 0, .slice none 0 0] 34)) ((w7.alloc (.cells #[.int .i64 0, .slice none 0 0] 34)).drewN 1) from below_drewN (Below.refl _ _) 1)
          have SF := Lib.hid (fun w' (k : Below w7.heap.size w7 w') => show w'.cell? ⟨w1.heap.size, 0, none⟩ = some (.slice (some ⟨gb, go', none⟩) m d) ∧ w'.cell? ⟨w1.heap.size, 1, none⟩ = some (.slice D' yl d') ∧ w'.cell? ⟨gb, go' + i * 2 + 1, none⟩ = some (.int .i64 no) from ⟨(B8.out.on k).c0, (B8.out.on k).c1, (cell_on k N18.out)⟩)
          have S1 := SF.out _ (Below.refl _ _)
          go_region_held3 (fun w' => w'.cell? ⟨w1.heap.size, 0, none⟩ = some (.slice (some ⟨gb, go', none⟩) m d) ∧ w'.cell? ⟨w1.heap.size, 1, none⟩ = some (.slice D' yl d') ∧ w'.cell? ⟨gb, go' + i * 2 + 1, none⟩ = some (.int .i64 no))
            (first | assumption | exact S1 | exact SF.out _ (Below.refl _ _) | exact SF.out _ HP1.out | exact SF.out _ ((Below.refl _ _).alloc (Nat.le_refl _) _) | exact SF.out _ HP2.out | exact SF.out _ (HP1.out.alloc HP1.out.size _) | exact SF.out _ K2.out | exact SF.out _ (K2.out.alloc K2.out.size _) | exact SF.out _ (below_put (K2.out.alloc K2.out.size _) _ K2.out.size _ _) | exact SF.out _ (below_put K2.out _ (Nat.le_refl _) _ _))
            (first | (go_at_call 8; refine (get_good (I8.out.on (HP1.out)) HOk.out.good 30 (by omega) HOk.out.lens no ds dL true HG1.out).mono ?_; rintro e w2 ⟨Ap, np, cp, Lp, he, hL, hm, k⟩; obtain rfl : e = .returned (.tuple #[.agg #[.int .i64 ds, .slice Ap np cp], .bool true]) := he; obtain rfl : dL = Lp := hL.symm; have K2 := Lib.hid (Below.trans HP1.out (k.mono HP1.out.size)); have hxx := hm.exts; obtain rfl : np = dL.length := hxx.len.symm; have HM := Lib.hid hxx; have HNw := Lib.hid (fun g p (he : _ = some (⟨g, p, none⟩ : Addr)) => (hm.own g p he).1); clear k hm hxx) | (go_at_call 8; refine (get_good (I8.out.on (HP2.out)) HOk.out.good 30 (by omega) HOk.out.lens no ds dL true HG1.out).mono ?_; rintro e w2 ⟨Ap, np, cp, Lp, he, hL, hm, k⟩; obtain rfl : e = .returned (.tuple #[.agg #[.int .i64 ds, .slice Ap np cp], .bool true]) := he; obtain rfl : dL = Lp := hL.symm; have K2 := Lib.hid (Below.trans HP2.out (k.mono HP2.out.size)); have hxx := hm.exts; obtain rfl : np = dL.length := hxx.len.symm; have HM := Lib.hid hxx; have HNw := Lib.hid (fun g p (he : _ = some (⟨g, p, none⟩ : Addr)) => (hm.own g p he).1); have BX := Lib.hid (((box_new w7 0 none 0 0).on HPX.out).on k); have x0 := BX.out.c0; have x1 := BX.out.c1; have xf0 := BX.out.f0; have xf1 := BX.out.f1; clear k hm hxx))
          · skip
            obtain ⟨v20, hw3⟩ : ∃ w3, w2.alloc (.cells #[.int .i64 ds, .slice Ap dL.length cp] 34) = w3 := ⟨_, rfl⟩
            have P20 := Lib.hid (show Box v20 w2.heap.size ds Ap dL.length cp by rw [← hw3]; exact box_new _ _ _ _ _)
            have KB := Lib.hid (show Below w7.heap.size w7 v20 by rw [← hw3]; exact K2.out.alloc K2.out.size _)
            have E20 := Lib.hid (show Exts v20 Ap dL.length cp dL by rw [← hw3]; exact HM.out.on ((Below.refl _ _).alloc (Nat.le_refl _) _))
            rw [hw3]
            clear hw3
            clear S1 b0 b1 n1'
            have I20 := Lib.hid (I8.out.on KB.out)
            have B20 := Lib.hid (B8.out.on KB.out)
            have C20 := Lib.hid (C8.out.on KB.out)
            have J20 := Lib.hid (J8.out.on KB.out)
            have R20 := Lib.hid (R8.out.on KB.out)
            have KQ20 := Lib.hid (KQ8.out.trans (KB.out.mono KQ8.out.size)); have N120 := Lib.hid (cell_on KB.out N18.out)
            have b0 := B20.out.c0; have b1 := B20.out.c1; have r0 := R20.out.c0; have r1 := R20.out.c1; have n1' := N120.out
            clear SF HP1 HP2 HPX K2 HM KB HNw
            go_upto_region 13 with fail
            have HP1 := Lib.hid (show Below v20.heap.size v20 (v20.drewN 1) from below_drewN (Below.refl _ _) 1)
            have HP2 := Lib.hid (show Below v20.heap.size v20 ((v20.alloc (.cells #[.int .i64 0, .slice none 0 0] 34)).drewN 1) from below_drewN ((Below.refl _ _).alloc (Nat.le_refl _) _) 1)
            have HPX := Lib.hid (show Below (v20.alloc (.cells #[.int .i64 0, .slice none 0 0] 34)).heap.size (v20.alloc (.cells #[.int .i64 0, .slice none 0 0] 34)) ((v20.alloc (.cells #[.int .i64 0, .slice none 0 0] 34)).drewN 1) from below_drewN (Below.refl _ _) 1)
            have SF := Lib.hid (fun w' (k : Below v20.heap.size v20 w') => show w'.cell? ⟨w5.heap.size, 0, none⟩ = some (.slice F m f) ∧ w'.cell? ⟨w5.heap.size, 1, none⟩ = some (.slice F' yl f') ∧ w'.cell? ⟨w1.heap.size, 0, none⟩ = some (.slice (some ⟨gb, go', none⟩) m d) ∧ w'.cell? ⟨gb, go' + i * 2 + 1, none⟩ = some (.int .i64 no) from ⟨(R20.out.on k).c0, (R20.out.on k).c1, (B20.out.on k).c0, (cell_on k N120.out)⟩)
            have S1 := SF.out _ (Below.refl _ _)
            go_region_held3 (fun w' => w'.cell? ⟨w5.heap.size, 0, none⟩ = some (.slice F m f) ∧ w'.cell? ⟨w5.heap.size, 1, none⟩ = some (.slice F' yl f') ∧ w'.cell? ⟨w1.heap.size, 0, none⟩ = some (.slice (some ⟨gb, go', none⟩) m d) ∧ w'.cell? ⟨gb, go' + i * 2 + 1, none⟩ = some (.int .i64 no))
              (first | assumption | exact S1 | exact SF.out _ (Below.refl _ _) | exact SF.out _ HP1.out | exact SF.out _ ((Below.refl _ _).alloc (Nat.le_refl _) _) | exact SF.out _ HP2.out | exact SF.out _ (HP1.out.alloc HP1.out.size _) | exact SF.out _ K2.out | exact SF.out _ (K2.out.alloc K2.out.size _) | exact SF.out _ (below_put (K2.out.alloc K2.out.size _) _ K2.out.size _ _) | exact SF.out _ (below_put K2.out _ (Nat.le_refl _) _ _))
              (first | (go_at_call 8; refine (get_good (J20.out.on (HP1.out)) HJg.out 90 (by omega) HJl.out no es eL true HG2.out).mono ?_; rintro e w2 ⟨Aq, nq, cq, Lq, he, hL, hm, k⟩; obtain rfl : e = .returned (.tuple #[.agg #[.int .i64 es, .slice Aq nq cq], .bool true]) := he; obtain rfl : eL = Lq := hL.symm; have K2 := Lib.hid (Below.trans HP1.out (k.mono HP1.out.size)); have hxx := hm.exts; obtain rfl : nq = eL.length := hxx.len.symm; have HM := Lib.hid hxx; have HNw := Lib.hid (fun g p (he : _ = some (⟨g, p, none⟩ : Addr)) => (hm.own g p he).1); clear k hm hxx) | (go_at_call 8; refine (get_good (J20.out.on (HP2.out)) HJg.out 90 (by omega) HJl.out no es eL true HG2.out).mono ?_; rintro e w2 ⟨Aq, nq, cq, Lq, he, hL, hm, k⟩; obtain rfl : e = .returned (.tuple #[.agg #[.int .i64 es, .slice Aq nq cq], .bool true]) := he; obtain rfl : eL = Lq := hL.symm; have K2 := Lib.hid (Below.trans HP2.out (k.mono HP2.out.size)); have hxx := hm.exts; obtain rfl : nq = eL.length := hxx.len.symm; have HM := Lib.hid hxx; have HNw := Lib.hid (fun g p (he : _ = some (⟨g, p, none⟩ : Addr)) => (hm.own g p he).1); have BX := Lib.hid (((box_new v20 0 none 0 0).on HPX.out).on k); have x0 := BX.out.c0; have x1 := BX.out.c1; have xf0 := BX.out.f0; have xf1 := BX.out.f1; clear k hm hxx))
            · skip
              obtain ⟨v21, hw3⟩ : ∃ w3, w2.alloc (.cells #[.int .i64 es, .slice Aq eL.length cq] 34) = w3 := ⟨_, rfl⟩
              have Q21 := Lib.hid (show Box v21 w2.heap.size es Aq eL.length cq by rw [← hw3]; exact box_new _ _ _ _ _)
              have KB := Lib.hid (show Below v20.heap.size v20 v21 by rw [← hw3]; exact K2.out.alloc K2.out.size _)
              have G21 := Lib.hid (show Exts v21 Aq eL.length cq eL by rw [← hw3]; exact HM.out.on ((Below.refl _ _).alloc (Nat.le_refl _) _))
              rw [hw3]
              clear hw3
              clear S1 b0 b1 r0 r1 n1'
              have B21 := Lib.hid (B20.out.on KB.out)
              have C21 := Lib.hid (C20.out.on KB.out)
              have P21 := Lib.hid (P20.out.on KB.out); have E21 := Lib.hid (E20.out.on KB.out)
              have KQ21 := Lib.hid (KQ20.out.trans (KB.out.mono KQ20.out.size)); have N121 := Lib.hid (cell_on KB.out N120.out)
              have b0 := B21.out.c0; have b1 := B21.out.c1; have n1' := N121.out; have o1 := C21.out.c1
              simp only at o1
              have p0 := P21.out.c0; have p1 := P21.out.c1; have q0 := Q21.out.c0; have q1 := Q21.out.c1
              by_cases hno : no = ino
              · subst hno
                go_wp2
                go_roundw
                case rel => exact ⟨i + 1, by omega, by go_num, KQ21.out⟩
                case measure => simp [intOf]; omega
              · have HEq := Lib.hid (HDE.out hno)
                go_wp2_with fail
                refine (same_any ds Ap dL.length cp dL es Aq eL.length cq eL v21 E21.out G21.out true (by rw [HEq.out.1, HEq.out.2]; simp)).mono ?_
                rintro e wf ⟨rfl, kf⟩
                have KF := Lib.hid (KQ21.out.trans (kf.mono KQ21.out.size))
                go_wp2
                go_roundw
                case rel => exact ⟨i + 1, by omega, by go_num, KF.out⟩
                case measure => simp [intOf]; omega
            · skip
              obtain ⟨v22, hw3⟩ : ∃ w3, (w2.setCell ⟨v20.heap.size, 0, none⟩ (.int .i64 es)).setCell ⟨v20.heap.size, 1, none⟩ (.slice Aq eL.length cq) = w3 := ⟨_, rfl⟩
              have Q22 := Lib.hid (show Box v22 v20.heap.size es Aq eL.length cq by rw [← hw3]; exact BX.out.put _ _ _ _)
              have KB := Lib.hid (show Below v20.heap.size v20 v22 by rw [← hw3]; exact below_put K2.out _ (Nat.le_refl _) _ _)
              have G22 := Lib.hid (show Exts v22 Aq eL.length cq eL by rw [← hw3]; exact HM.out.only (only_put _ _ _ _) (fun g p he _ hd => by have := HNw.out g p he; have hd' : g = v20.heap.size := hd; have h2 : (v20.alloc (.cells #[.int .i64 0, .slice none 0 0] 34)).heap.size = v20.heap.size + 1 := (by simp); have h3 : ((v20.alloc (.cells #[.int .i64 0, .slice none 0 0] 34)).drewN 1).heap.size = (v20.alloc (.cells #[.int .i64 0, .slice none 0 0] 34)).heap.size := rfl; omega))
              rw [hw3]
              clear hw3 x0 x1 xf0 xf1
              clear S1 b0 b1 r0 r1 n1'
              have B22 := Lib.hid (B20.out.on KB.out)
              have C22 := Lib.hid (C20.out.on KB.out)
              have P22 := Lib.hid (P20.out.on KB.out); have E22 := Lib.hid (E20.out.on KB.out)
              have KQ22 := Lib.hid (KQ20.out.trans (KB.out.mono KQ20.out.size)); have N122 := Lib.hid (cell_on KB.out N120.out)
              have b0 := B22.out.c0; have b1 := B22.out.c1; have n1' := N122.out; have o1 := C22.out.c1
              simp only at o1
              have p0 := P22.out.c0; have p1 := P22.out.c1; have q0 := Q22.out.c0; have q1 := Q22.out.c1
              by_cases hno : no = ino
              · subst hno
                go_wp2
                go_roundw
                case rel => exact ⟨i + 1, by omega, by go_num, KQ22.out⟩
                case measure => simp [intOf]; omega
              · have HEq := Lib.hid (HDE.out hno)
                go_wp2_with fail
                refine (same_any ds Ap dL.length cp dL es Aq eL.length cq eL v22 E22.out G22.out true (by rw [HEq.out.1, HEq.out.2]; simp)).mono ?_
                rintro e wf ⟨rfl, kf⟩
                have KF := Lib.hid (KQ22.out.trans (kf.mono KQ22.out.size))
                go_wp2
                go_roundw
                case rel => exact ⟨i + 1, by omega, by go_num, KF.out⟩
                case measure => simp [intOf]; omega
          · skip
            obtain ⟨v40, hw3⟩ : ∃ w3, (w2.setCell ⟨w7.heap.size, 0, none⟩ (.int .i64 ds)).setCell ⟨w7.heap.size, 1, none⟩ (.slice Ap dL.length cp) = w3 := ⟨_, rfl⟩
            have P40 := Lib.hid (show Box v40 w7.heap.size ds Ap dL.length cp by rw [← hw3]; exact BX.out.put _ _ _ _)
            have KB := Lib.hid (show Below w7.heap.size w7 v40 by rw [← hw3]; exact below_put K2.out _ (Nat.le_refl _) _ _)
            have E40 := Lib.hid (show Exts v40 Ap dL.length cp dL by rw [← hw3]; exact HM.out.only (only_put _ _ _ _) (fun g p he _ hd => by have := HNw.out g p he; have hd' : g = w7.heap.size := hd; have h2 : (w7.alloc (.cells #[.int .i64 0, .slice none 0 0] 34)).heap.size = w7.heap.size + 1 := (by simp); have h3 : ((w7.alloc (.cells #[.int .i64 0, .slice none 0 0] 34)).drewN 1).heap.size = (w7.alloc (.cells #[.int .i64 0, .slice none 0 0] 34)).heap.size := rfl; omega))
            rw [hw3]
            clear hw3 x0 x1 xf0 xf1
            clear S1 b0 b1 n1'
            have I40 := Lib.hid (I8.out.on KB.out)
            have B40 := Lib.hid (B8.out.on KB.out)
            have C40 := Lib.hid (C8.out.on KB.out)
            have J40 := Lib.hid (J8.out.on KB.out)
            have R40 := Lib.hid (R8.out.on KB.out)
            have KQ40 := Lib.hid (KQ8.out.trans (KB.out.mono KQ8.out.size)); have N140 := Lib.hid (cell_on KB.out N18.out)
            have b0 := B40.out.c0; have b1 := B40.out.c1; have r0 := R40.out.c0; have r1 := R40.out.c1; have n1' := N140.out
            clear SF HP1 HP2 HPX K2 HM KB BX HNw
            go_upto_region 13 with fail
            have HP1 := Lib.hid (show Below v40.heap.size v40 (v40.drewN 1) from below_drewN (Below.refl _ _) 1)
            have HP2 := Lib.hid (show Below v40.heap.size v40 ((v40.alloc (.cells #[.int .i64 0, .slice none 0 0] 34)).drewN 1) from below_drewN ((Below.refl _ _).alloc (Nat.le_refl _) _) 1)
            have HPX := Lib.hid (show Below (v40.alloc (.cells #[.int .i64 0, .slice none 0 0] 34)).heap.size (v40.alloc (.cells #[.int .i64 0, .slice none 0 0] 34)) ((v40.alloc (.cells #[.int .i64 0, .slice none 0 0] 34)).drewN 1) from below_drewN (Below.refl _ _) 1)
            have SF := Lib.hid (fun w' (k : Below v40.heap.size v40 w') => show w'.cell? ⟨w5.heap.size, 0, none⟩ = some (.slice F m f) ∧ w'.cell? ⟨w5.heap.size, 1, none⟩ = some (.slice F' yl f') ∧ w'.cell? ⟨w1.heap.size, 0, none⟩ = some (.slice (some ⟨gb, go', none⟩) m d) ∧ w'.cell? ⟨gb, go' + i * 2 + 1, none⟩ = some (.int .i64 no) from ⟨(R40.out.on k).c0, (R40.out.on k).c1, (B40.out.on k).c0, (cell_on k N140.out)⟩)
            have S1 := SF.out _ (Below.refl _ _)
            go_region_held3 (fun w' => w'.cell? ⟨w5.heap.size, 0, none⟩ = some (.slice F m f) ∧ w'.cell? ⟨w5.heap.size, 1, none⟩ = some (.slice F' yl f') ∧ w'.cell? ⟨w1.heap.size, 0, none⟩ = some (.slice (some ⟨gb, go', none⟩) m d) ∧ w'.cell? ⟨gb, go' + i * 2 + 1, none⟩ = some (.int .i64 no))
              (first | assumption | exact S1 | exact SF.out _ (Below.refl _ _) | exact SF.out _ HP1.out | exact SF.out _ ((Below.refl _ _).alloc (Nat.le_refl _) _) | exact SF.out _ HP2.out | exact SF.out _ (HP1.out.alloc HP1.out.size _) | exact SF.out _ K2.out | exact SF.out _ (K2.out.alloc K2.out.size _) | exact SF.out _ (below_put (K2.out.alloc K2.out.size _) _ K2.out.size _ _) | exact SF.out _ (below_put K2.out _ (Nat.le_refl _) _ _))
              (first | (go_at_call 8; refine (get_good (J40.out.on (HP1.out)) HJg.out 90 (by omega) HJl.out no es eL true HG2.out).mono ?_; rintro e w2 ⟨Aq, nq, cq, Lq, he, hL, hm, k⟩; obtain rfl : e = .returned (.tuple #[.agg #[.int .i64 es, .slice Aq nq cq], .bool true]) := he; obtain rfl : eL = Lq := hL.symm; have K2 := Lib.hid (Below.trans HP1.out (k.mono HP1.out.size)); have hxx := hm.exts; obtain rfl : nq = eL.length := hxx.len.symm; have HM := Lib.hid hxx; have HNw := Lib.hid (fun g p (he : _ = some (⟨g, p, none⟩ : Addr)) => (hm.own g p he).1); clear k hm hxx) | (go_at_call 8; refine (get_good (J40.out.on (HP2.out)) HJg.out 90 (by omega) HJl.out no es eL true HG2.out).mono ?_; rintro e w2 ⟨Aq, nq, cq, Lq, he, hL, hm, k⟩; obtain rfl : e = .returned (.tuple #[.agg #[.int .i64 es, .slice Aq nq cq], .bool true]) := he; obtain rfl : eL = Lq := hL.symm; have K2 := Lib.hid (Below.trans HP2.out (k.mono HP2.out.size)); have hxx := hm.exts; obtain rfl : nq = eL.length := hxx.len.symm; have HM := Lib.hid hxx; have HNw := Lib.hid (fun g p (he : _ = some (⟨g, p, none⟩ : Addr)) => (hm.own g p he).1); have BX := Lib.hid (((box_new v40 0 none 0 0).on HPX.out).on k); have x0 := BX.out.c0; have x1 := BX.out.c1; have xf0 := BX.out.f0; have xf1 := BX.out.f1; clear k hm hxx))
            · skip
              obtain ⟨v41, hw3⟩ : ∃ w3, w2.alloc (.cells #[.int .i64 es, .slice Aq eL.length cq] 34) = w3 := ⟨_, rfl⟩
              have Q41 := Lib.hid (show Box v41 w2.heap.size es Aq eL.length cq by rw [← hw3]; exact box_new _ _ _ _ _)
              have KB := Lib.hid (show Below v40.heap.size v40 v41 by rw [← hw3]; exact K2.out.alloc K2.out.size _)
              have G41 := Lib.hid (show Exts v41 Aq eL.length cq eL by rw [← hw3]; exact HM.out.on ((Below.refl _ _).alloc (Nat.le_refl _) _))
              rw [hw3]
              clear hw3
              clear S1 b0 b1 r0 r1 n1'
              have B41 := Lib.hid (B40.out.on KB.out)
              have C41 := Lib.hid (C40.out.on KB.out)
              have P41 := Lib.hid (P40.out.on KB.out); have E41 := Lib.hid (E40.out.on KB.out)
              have KQ41 := Lib.hid (KQ40.out.trans (KB.out.mono KQ40.out.size)); have N141 := Lib.hid (cell_on KB.out N140.out)
              have b0 := B41.out.c0; have b1 := B41.out.c1; have n1' := N141.out; have o1 := C41.out.c1
              simp only at o1
              have p0 := P41.out.c0; have p1 := P41.out.c1; have q0 := Q41.out.c0; have q1 := Q41.out.c1
              by_cases hno : no = ino
              · subst hno
                go_wp2
                go_roundw
                case rel => exact ⟨i + 1, by omega, by go_num, KQ41.out⟩
                case measure => simp [intOf]; omega
              · have HEq := Lib.hid (HDE.out hno)
                go_wp2_with fail
                refine (same_any ds Ap dL.length cp dL es Aq eL.length cq eL v41 E41.out G41.out true (by rw [HEq.out.1, HEq.out.2]; simp)).mono ?_
                rintro e wf ⟨rfl, kf⟩
                have KF := Lib.hid (KQ41.out.trans (kf.mono KQ41.out.size))
                go_wp2
                go_roundw
                case rel => exact ⟨i + 1, by omega, by go_num, KF.out⟩
                case measure => simp [intOf]; omega
            · skip
              obtain ⟨v42, hw3⟩ : ∃ w3, (w2.setCell ⟨v40.heap.size, 0, none⟩ (.int .i64 es)).setCell ⟨v40.heap.size, 1, none⟩ (.slice Aq eL.length cq) = w3 := ⟨_, rfl⟩
              have Q42 := Lib.hid (show Box v42 v40.heap.size es Aq eL.length cq by rw [← hw3]; exact BX.out.put _ _ _ _)
              have KB := Lib.hid (show Below v40.heap.size v40 v42 by rw [← hw3]; exact below_put K2.out _ (Nat.le_refl _) _ _)
              have G42 := Lib.hid (show Exts v42 Aq eL.length cq eL by rw [← hw3]; exact HM.out.only (only_put _ _ _ _) (fun g p he _ hd => by have := HNw.out g p he; have hd' : g = v40.heap.size := hd; have h2 : (v40.alloc (.cells #[.int .i64 0, .slice none 0 0] 34)).heap.size = v40.heap.size + 1 := (by simp); have h3 : ((v40.alloc (.cells #[.int .i64 0, .slice none 0 0] 34)).drewN 1).heap.size = (v40.alloc (.cells #[.int .i64 0, .slice none 0 0] 34)).heap.size := rfl; omega))
              rw [hw3]
              clear hw3 x0 x1 xf0 xf1
              clear S1 b0 b1 r0 r1 n1'
              have B42 := Lib.hid (B40.out.on KB.out)
              have C42 := Lib.hid (C40.out.on KB.out)
              have P42 := Lib.hid (P40.out.on KB.out); have E42 := Lib.hid (E40.out.on KB.out)
              have KQ42 := Lib.hid (KQ40.out.trans (KB.out.mono KQ40.out.size)); have N142 := Lib.hid (cell_on KB.out N140.out)
              have b0 := B42.out.c0; have b1 := B42.out.c1; have n1' := N142.out; have o1 := C42.out.c1
              simp only at o1
              have p0 := P42.out.c0; have p1 := P42.out.c1; have q0 := Q42.out.c0; have q1 := Q42.out.c1
              by_cases hno : no = ino
              · subst hno
                go_wp2
                go_roundw
                case rel => exact ⟨i + 1, by omega, by go_num, KQ42.out⟩
                case measure => simp [intOf]; omega
              · have HEq := Lib.hid (HDE.out hno)
                go_wp2_with fail
                refine (same_any ds Ap dL.length cp dL es Aq eL.length cq eL v42 E42.out G42.out true (by rw [HEq.out.1, HEq.out.2]; simp)).mono ?_
                rintro e wf ⟨rfl, kf⟩
                have KF := Lib.hid (KQ42.out.trans (kf.mono KQ42.out.size))
                go_wp2
                go_roundw
                case rel => exact ⟨i + 1, by omega, by go_num, KF.out⟩
                case measure => simp [intOf]; omega
        · have him' : i = m := by omega
          have hii : ¬ (i : Int) < (m : Int) := by omega
          have BR := Lib.hid (B6.out.on KR.out)
          have K7 := Lib.hid (K6.out.trans (KR.out.mono K6.out.size))
          have b0 := BR.out.c0; have b1 := BR.out.c1
          clear him'
          go_wp2_with fail
          refine (law_runs _).mono ?_
          rintro e w8 ⟨rfl, k⟩
          have K8 := Lib.hid (K7.out.trans (k.mono K7.out.size))
          go_wp2
          go_ret
          exact ⟨rfl, K8.out⟩
end Go.Proofs.Ytgaaieipeiekiaa

namespace Go.Proofs.Ytgaaieipeiekiaa
open Go.RowKit Go.ChangeShapes Go.WideShapes
set_option maxRecDepth 100000

theorem cells75 : Try.prog.cellsOf 71 = 9 := by kernel_rfl
theorem cells73 : Try.prog.cellsOf 69 = 8 := by kernel_rfl
theorem cells5' : Try.prog.cellsOf 5 = 1 := by kernel_rfl
theorem cells3' : Try.prog.cellsOf 3 = 1 := by kernel_rfl
theorem cells4' : Try.prog.cellsOf 4 = 1 := by kernel_rfl
theorem cells9' : Try.prog.cellsOf 9 = 1 := by kernel_rfl
theorem cells30' : Try.prog.cellsOf 32 = 1 := by kernel_rfl
theorem cells32' : Try.prog.cellsOf 34 = 2 := by kernel_rfl
theorem cells59' : Try.prog.cellsOf 60 = 3 := by kernel_rfl
theorem cells62' : Try.prog.cellsOf 48 = 2 := by kernel_rfl
theorem cells22' : Try.prog.cellsOf 22 = 1 := by kernel_rfl
theorem cells23' : Try.prog.cellsOf 23 = 1 := by kernel_rfl
theorem cells25' : Try.prog.cellsOf 25 = 2 := by kernel_rfl
theorem cells40' : Try.prog.cellsOf 27 = 1 := by kernel_rfl
theorem cells42' : Try.prog.cellsOf 29 = 8 := by kernel_rfl

section
variable {H : Type} {enc : TypeId × Value → H} {w : World} {base : Nat}

/-- A slice of elements of any kind. -/
theorem sl_read {α : Type} [Inhabited α] {E : El α} {ts : TypeId} (hts : Try.prog.underlying ts = some (.slice E.t)) (hk : Try.prog.cellsOf E.t = E.k) {P : α → Prop} (hel : ∀ (fuel : Nat) (cs : List Value) (x : DataW H × List MemPlace), cs.length = E.k → DataW.trod enc Try.prog w base (fun _ => true) true fuel E.t cs = some x → ∃ e : α, P e ∧ cs = E.enc e) {fuel : Nat} {v : Value} {x : DataW H × List MemPlace} (h : DataW.trod enc Try.prog w base (fun _ => true) true fuel ts [v] = some x) : ∃ A n c L, v = .slice A n c ∧ Sl E w A n c L ∧ ∀ e ∈ L, P e := by
  rcases Go.Deep.open_slice hts h with ⟨hcs, _⟩ | ⟨a, len, cap, m, n, D, Pl, hcs, _, hl, hm, hmm, _, hx⟩
  · injection hcs with hcs
    exact ⟨none, 0, 0, [], hcs, sl_nil w, by simp⟩
  injection hcs with hcs
  have each : ∀ i, i < len → ∃ e : α, P e ∧ ∀ q u, (E.enc e)[q]? = some u → w.cell? (a.add (i * E.k + q)) = some u := by
    intro i hi
    obtain ⟨cs', h1, h2⟩ := hx i (by simp at hmm; omega)
    rw [hk] at h1
    obtain ⟨_, hlen, hcell⟩ := World.cells?_some h1
    obtain ⟨e, he, hee⟩ := hel _ _ _ hlen h2
    refine ⟨e, he, fun q u hu => ?_⟩
    have hq : q < E.k := by have := (List.getElem?_eq_some_iff.1 hu).1; rw [E.len] at this; exact this
    have := hcell q (by omega)
    rw [Go.Deep.add_add, hee, hu] at this
    exact this
  obtain ⟨f, hf⟩ := Go.Deep.choose_lt each
  have hg : ∀ k, k < len → ((List.range len).map f).getD k default = f k := by
    intro k hk
    rw [List.getD_eq_getElem?_getD, List.getElem?_map, List.getElem?_range hk]
    rfl
  refine ⟨some a, len, cap, (List.range len).map f, hcs, ⟨by simp, by omega, by omega, (fun h => by cases h), fun hp => ?_⟩, fun e he => ?_⟩
  · obtain ⟨b, o, s⟩ := a
    have hp1 := E.pos
    have h0 := (hf 0 hp).2 0 _ (List.getElem?_eq_getElem (by rw [E.len]; exact hp1))
    have hs : s = none := by simpa [Addr.add] using World.cell?_spot h0
    subst hs
    refine ⟨b, o, rfl, World.block_lt_of_cell? w ⟨b, o, none⟩ (by simpa [Addr.add] using h0), fun k hk q u hu => ?_⟩
    rw [hg k hk] at hu
    have := (hf k hk).2 q u hu
    rw [Addr.add_mid] at this
    rw [Nat.add_assoc]
    exact this
  · simp at he
    obtain ⟨k, hk, rfl⟩ := he
    exact (hf k hk).1

theorem ext_read {fuel : Nat} {cs : List Value} {x : DataW H × List MemPlace} (hl : cs.length = 9) (h : DataW.trod enc Try.prog w base (fun _ => true) true fuel 71 cs = some x) : ∃ e : Ex, e.ok ∧ cs = ecl e := by
  obtain ⟨xs, k, hk, hxy, _, hxl, hf⟩ := DataW.trod_struct Try.underlying71 h
  match xs, hxl, cs, hl with
  | [y0, y1], _, [v0, v1, v2, v3, v4, v5, v6, v7, v8], _ =>
    have g0 := hf 0 _ rfl
    have g1 := hf 1 _ rfl
    simp [cells3', cells73] at g0 g1
    obtain ⟨z0, hz0, _, wz0⟩ := DataW.trod_int Try.underlying3 g0
    simp at hz0
    subst hz0
    obtain ⟨ys, k2, hk2, _, _, hyl, ha⟩ := DataW.trod_array Try.underlying69 g1
    rw [cells5'] at ha
    have each : ∀ i, i < 8 → ∃ b : Int, (0 ≤ b ∧ b ≤ 255) ∧ ([v1, v2, v3, v4, v5, v6, v7, v8] : List Value)[i]? = some (.int .u8 b) := by
      intro i hi
      have hx := ha i hi
      rw [List.getElem?_eq_getElem (by omega)] at hx
      obtain ⟨b, hb, _, wb⟩ := DataW.trod_int Try.underlying5 hx
      refine ⟨b, ?_, ?_⟩
      · have := bounds_u8 wb; omega
      · have h1 := congrArg (fun l => l[0]?) hb
        simp only [List.getElem?_cons_zero] at h1
        rw [List.getElem?_take_of_lt (by omega), List.getElem?_drop] at h1
        simpa using h1
    obtain ⟨b0, r0, e0⟩ := each 0 (by omega)
    obtain ⟨b1, r1, e1⟩ := each 1 (by omega)
    obtain ⟨b2, r2, e2⟩ := each 2 (by omega)
    obtain ⟨b3, r3, e3⟩ := each 3 (by omega)
    obtain ⟨b4, r4, e4⟩ := each 4 (by omega)
    obtain ⟨b5, r5, e5⟩ := each 5 (by omega)
    obtain ⟨b6, r6, e6⟩ := each 6 (by omega)
    obtain ⟨b7, r7, e7⟩ := each 7 (by omega)
    simp at e0 e1 e2 e3 e4 e5 e6 e7
    subst e0 e1 e2 e3 e4 e5 e6 e7
    refine ⟨⟨z0, [b0, b1, b2, b3, b4, b5, b6, b7]⟩, ⟨rfl, fun x hx => ?_⟩, rfl⟩
    simp at hx
    rcases hx with rfl | rfl | rfl | rfl | rfl | rfl | rfl | rfl <;> assumption

theorem exts_open {fuel : Nat} {v : Value} {x : DataW H × List MemPlace} (h : DataW.trod enc Try.prog w base (fun _ => true) true fuel 32 [v] = some x) : ∃ A n c L, v = .slice A n c ∧ Exts w A n c L := by
  rcases Go.Deep.open_slice Try.underlying32 h with ⟨hcs, _⟩ | ⟨a, len, cap, m, n, D, Pl, hcs, _, hl, hm, hmm, _, hx⟩
  · injection hcs with hcs
    exact ⟨none, 0, 0, [], hcs, exts_nil w⟩
  injection hcs with hcs
  have each : ∀ i, i < len → ∃ e : Ex, e.ok ∧ ∀ q u, (ecl e)[q]? = some u → w.cell? (a.add (i * 9 + q)) = some u := by
    intro i hi
    obtain ⟨cs', h1, h2⟩ := hx i (by simp at hmm; omega)
    rw [cells75] at h1
    obtain ⟨_, hlen, hcell⟩ := World.cells?_some h1
    obtain ⟨e, he, hee⟩ := ext_read hlen h2
    refine ⟨e, he, fun q u hu => ?_⟩
    have hq : q < 9 := by have := (List.getElem?_eq_some_iff.1 hu).1; rw [ecl_len he] at this; exact this
    have := hcell q (by omega)
    rw [Go.Deep.add_add, hee, hu] at this
    exact this
  obtain ⟨f, hf⟩ := Go.Deep.choose_lt each
  have hg : ∀ k, k < len → ((List.range len).map f).getD k default = f k := by
    intro k hk
    rw [List.getD_eq_getElem?_getD, List.getElem?_map, List.getElem?_range hk]
    rfl
  refine ⟨some a, len, cap, (List.range len).map f, hcs, by simp, fun e he => ?_, by omega, by omega, (fun h => by cases h), fun hp => ?_⟩
  · simp at he
    obtain ⟨k, hk, rfl⟩ := he
    exact (hf k hk).1
  · obtain ⟨b, o, s⟩ := a
    have h0 := (hf 0 hp).2 0 _ (ecl_no _)
    have hs : s = none := by simpa [Addr.add] using World.cell?_spot h0
    subst hs
    refine ⟨b, o, rfl, World.block_lt_of_cell? w ⟨b, o, none⟩ (by simpa [Addr.add] using h0), fun k hk q u hu => ?_⟩
    rw [hg k hk] at hu
    have := (hf k hk).2 q u hu
    rw [Addr.add_mid] at this
    rw [Nat.add_assoc]
    exact this

theorem nm_read (fuel : Nat) (cs : List Value) (x : DataW H × List MemPlace) (hl : cs.length = elN.k) (h : DataW.trod enc Try.prog w base (fun _ => true) true fuel elN.t cs = some x) : ∃ e : Nm, e.name.size ≤ maxLen ∧ cs = elN.enc e := by
  obtain ⟨xs, k, hk, hxy, _, hxl, hf⟩ := DataW.trod_struct (t := 48) Try.underlying48 h
  match xs, hxl, cs, hl with
  | [y0, y1], _, [v0, v1], _ =>
    have g0 := hf 0 _ rfl
    have g1 := hf 1 _ rfl
    simp [cells3', cells9'] at g0 g1
    obtain ⟨p, hp, _, wp⟩ := DataW.trod_string Try.underlying9 g0
    obtain ⟨q, hq, _, _⟩ := DataW.trod_int Try.underlying3 g1
    simp at hp hq
    subst hp hq
    exact ⟨⟨p, q⟩, wp, rfl⟩

theorem nz_read (fuel : Nat) (cs : List Value) (x : DataW H × List MemPlace) (hl : cs.length = elZ.k) (h : DataW.trod enc Try.prog w base (fun _ => true) true fuel elZ.t cs = some x) : ∃ e : Nz, Exts w e.A e.n e.c e.L ∧ cs = elZ.enc e := by
  obtain ⟨xs, k, hk, hxy, _, hxl, hf⟩ := DataW.trod_struct (t := 60) Try.underlying60 h
  match xs, hxl, cs, hl with
  | [y0, y1], _, [v0, v1, v2], _ =>
    have g0 := hf 0 _ rfl
    have g1 := hf 1 _ rfl
    simp [cells3', cells32'] at g0 g1
    obtain ⟨p, hp, _, _⟩ := DataW.trod_int Try.underlying3 g0
    obtain ⟨xs2, k2, hk2, hxy2, _, hxl2, hf2⟩ := DataW.trod_struct Try.underlying34 g1
    match xs2, hxl2 with
    | [z0, z1], _ =>
      have r0 := hf2 0 _ rfl
      have r1 := hf2 1 _ rfl
      simp [cells3', cells30'] at r0 r1
      obtain ⟨q, hq, _, _⟩ := DataW.trod_int Try.underlying3 r0
      obtain ⟨A, n, c, L, he, hL⟩ := exts_open r1
      simp at hp hq
      subst hp hq he
      exact ⟨⟨p, q, A, n, c, L⟩, hL, rfl⟩

/-- An image that came in. -/
theorem open_im {r : Reach} {bb : Nat} {v : Value} {d : DataW H} {p : List MemPlace} (hv : Value.okWide Try.prog w r bb 25 v) (h : DataW.Trod enc Try.prog w base (fun _ => true) true 25 v d p) :
    ∃ (A : Option Addr) (n c : Nat) (A' : Option Addr) (n' c' : Nat) (N : List Nm) (Z : List Nz), v = iv A n c A' n' c' ∧ Im w A n c A' n' c' N Z := by
  obtain ⟨cs, rfl, hsz⟩ := okWide_struct Try.underlying25 hv
  obtain ⟨fuel, hf⟩ := h
  obtain ⟨xs, k, hk, hxy, _, hxl, hf⟩ := DataW.trod_struct Try.underlying25 hf
  rw [cells25'] at hsz
  obtain ⟨l⟩ := cs
  match l, hsz, xs, hxl with
  | [v0, v1], _, [y0, y1], _ =>
    have g0 := hf 0 _ rfl
    have g1 := hf 1 _ rfl
    simp [Value.cells, cells22', cells23'] at g0 g1
    obtain ⟨A, n, c, N, rfl, hN, hs⟩ := sl_read (E := elN) (ts := 22) (P := fun e => e.name.size ≤ maxLen) Try.underlying22 cells62' nm_read g0
    obtain ⟨A', n', c', Z, rfl, hZ, hx⟩ := sl_read (E := elZ) (ts := 23) (P := fun e => Exts w e.A e.n e.c e.L) Try.underlying23 cells59' nz_read g1
    exact ⟨A, n, c, A', n', c', N, Z, rfl, hN, hZ, hx, hs⟩

/-- A change that came in. -/
theorem open_op {r : Reach} {bb : Nat} {v : Value} {d : DataW H} {p : List MemPlace} (hv : Value.okWide Try.prog w r bb 29 v) (h : DataW.Trod enc Try.prog w base (fun _ => true) true 29 v d p) :
    ∃ (o : Opv) (BA : Option Addr) (cb : Nat), v = ov o BA cb ∧ (OpIn w o BA cb ∧ (((Lit.int .i64 o.pos).wf = true) ∧ (Lit.int .i64 o.size).wf = true)) := by
  obtain ⟨cs, rfl, hsz⟩ := okWide_struct Try.underlying29 hv
  obtain ⟨fuel, hf⟩ := h
  obtain ⟨xs, k, hk, hxy, _, hxl, hf⟩ := DataW.trod_struct Try.underlying29 hf
  rw [cells42'] at hsz
  obtain ⟨l⟩ := cs
  match l, hsz, xs, hxl with
  | [v0, v1, v2, v3, v4, v5, v6, v7], _, [y0, y1, y2, y3, y4, y5, y6, y7], _ =>
    have g0 := hf 0 _ rfl
    have g1 := hf 1 _ rfl
    have g2 := hf 2 _ rfl
    have g3 := hf 3 _ rfl
    have g4 := hf 4 _ rfl
    have g5 := hf 5 _ rfl
    have g6 := hf 6 _ rfl
    have g7 := hf 7 _ rfl
    simp [Value.cells, cells3', cells4', cells9', cells40'] at g0 g1 g2 g3 g4 g5 g6 g7
    obtain ⟨a0, e0, _, _⟩ := DataW.trod_int Try.underlying3 g0
    obtain ⟨a1, e1, _, _⟩ := DataW.trod_int Try.underlying3 g1
    obtain ⟨a2, e2, _, w2⟩ := DataW.trod_int Try.underlying3 g2
    obtain ⟨a3, e3, _, w3⟩ := DataW.trod_int Try.underlying3 g3
    obtain ⟨a4, e4, _⟩ := DataW.trod_bool Try.underlying4 g4
    obtain ⟨a5, e5, _, w5⟩ := DataW.trod_string Try.underlying9 g5
    obtain ⟨a6, e6, _, w6⟩ := DataW.trod_string Try.underlying9 g6
    simp at e0 e1 e2 e3 e4 e5 e6
    subst e0 e1 e2 e3 e4 e5 e6
    rcases open_ints Try.underlying27 Try.underlying5 (by kernel_rfl) g7 with ⟨hcs, _⟩ | ⟨y, l, c, zs, hcs, _, hl, hm, hz, _, hcell, hwz⟩
    · injection hcs with hcs
      subst hcs
      exact ⟨⟨a0, a1, a2, a3, a4, a5, a6, []⟩, none, 0, rfl, ⟨nums_nil .u8 w, by simp, w5, w6⟩, w2, w3⟩
    · injection hcs with hcs
      subst hcs
      have hz' : zs.length = c := by simpa using hz
      clear hz
      have hlz : (zs.take l).length = l := by rw [List.length_take]; omega
      refine ⟨⟨a0, a1, a2, a3, a4, a5, a6, zs.take l⟩, some y, c, by show _ = Value.agg #[_, _, _, _, _, _, _, .slice (some y) (zs.take l).length c]; rw [hlz], ⟨?_, fun b hb => ?_, w5, w6⟩, w2, w3⟩
      · show Nums .u8 w (some y) (zs.take l).length c (zs.take l)
        rw [hlz]
        refine ⟨hlz, hl, hm, (fun h => by cases h), fun hp => ?_⟩
        obtain ⟨b, o, s⟩ := y
        have h0 := hcell 0 (by omega)
        have hs : s = none := by simpa [Addr.add] using World.cell?_spot h0
        subst hs
        refine ⟨b, o, rfl, World.block_lt_of_cell? w ⟨b, o, none⟩ (by simpa [Addr.add] using h0), fun k hk => ?_⟩
        have hk' := hcell k (by omega)
        have he : (zs.take l).getD k 0 = zs.getD k 0 := by simp [hk]
        rw [he]
        by_cases h0 : k = 0
        · subst h0; simpa [Addr.add] using hk'
        · simpa [Addr.add, h0] using hk'
      · have := bounds_u8 (hwz b (List.mem_of_mem_take hb))
        omega
end
end Go.Proofs.Ytgaaieipeiekiaa

namespace Go.Proofs.Ytgaaieipeiekiaa
open Go.RowKit Go.ChangeShapes Go.WideShapes
set_option maxRecDepth 100000

theorem cells111 : Try.prog.cellsOf 89 = 2 := by kernel_rfl
theorem cells87 : Try.prog.cellsOf 65 = 3 := by kernel_rfl
theorem cells85 : Try.prog.cellsOf 63 = 1 := by kernel_rfl
theorem cells50 : Try.prog.cellsOf 41 = 1 := by kernel_rfl
theorem cells52 : Try.prog.cellsOf 43 = 7 := by kernel_rfl

section
variable {H : Type} {enc : TypeId × Value → H} {w : World} {base : Nat}
theorem bk_read (fuel : Nat) (cs : List Value) (x : DataW H × List MemPlace) (hl : cs.length = elB.k) (h : DataW.trod enc Try.prog w base (fun _ => true) true fuel elB.t cs = some x) : ∃ e : Bk, e.ok ∧ cs = elB.enc e := by
  obtain ⟨xs, k, hk, hxy, _, hxl, hf⟩ := DataW.trod_struct (t := 89) Try.underlying89 h
  match xs, hxl, cs, hl with
  | [y0, y1], _, [v0, v1], _ =>
    have g0 := hf 0 _ rfl
    have g1 := hf 1 _ rfl
    simp [cells5'] at g0 g1
    obtain ⟨p, hp, _, wp⟩ := DataW.trod_int Try.underlying5 g0
    obtain ⟨q, hq, _, wq⟩ := DataW.trod_int Try.underlying5 g1
    simp at hp hq
    subst hp hq
    have b1 := bounds_u8 wp; have b2 := bounds_u8 wq
    have hok : (0 ≤ p ∧ p ≤ 255) ∧ (0 ≤ q ∧ q ≤ 255) := by omega
    exact ⟨⟨p, q⟩, hok, rfl⟩
theorem kp_read (fuel : Nat) (cs : List Value) (x : DataW H × List MemPlace) (hl : cs.length = elK.k) (h : DataW.trod enc Try.prog w base (fun _ => true) true fuel elK.t cs = some x) : ∃ e : Kp, e.ok w ∧ cs = elK.enc e := by
  obtain ⟨xs, k, hk, hxy, _, hxl, hf⟩ := DataW.trod_struct (t := 65) Try.underlying65 h
  match xs, hxl, cs, hl with
  | [y0, y1, y2], _, [v0, v1, v2], _ =>
    have g0 := hf 0 _ rfl
    have g1 := hf 1 _ rfl
    have g2 := hf 2 _ rfl
    simp [cells5', cells50, cells85] at g0 g1 g2
    obtain ⟨p, hp, _, wp⟩ := DataW.trod_int Try.underlying5 g0
    obtain ⟨q, hq, _, wq⟩ := DataW.trod_int Try.underlying41 g1
    obtain ⟨A, n, c, L, he, hL, hb⟩ := sl_read (E := elB) (ts := 63) (P := Bk.ok) Try.underlying63 cells111 bk_read g2
    simp at hp hq
    subst hp hq he
    have b1 := bounds_u8 wp; have b2 := bounds_u16 wq
    exact ⟨⟨p, q, A, n, c, L⟩, ⟨by show 0 ≤ p; omega, by show 0 ≤ q; omega, hL, hb⟩, rfl⟩
theorem lo_read (fuel : Nat) (cs : List Value) (x : DataW H × List MemPlace) (hl : cs.length = elQ.k) (h : DataW.trod enc Try.prog w base (fun _ => true) true fuel elQ.t cs = some x) : ∃ e : Lo, e.ok ∧ cs = elQ.enc e := by
  obtain ⟨xs, k, hk, hxy, _, hxl, hf⟩ := DataW.trod_struct (t := 43) Try.underlying43 h
  match xs, hxl, cs, hl with
  | [y0, y1, y2, y3, y4, y5, y6], _, [v0, v1, v2, v3, v4, v5, v6], _ =>
    have g0 := hf 0 _ rfl
    have g1 := hf 1 _ rfl
    have g2 := hf 2 _ rfl
    have g3 := hf 3 _ rfl
    have g4 := hf 4 _ rfl
    have g5 := hf 5 _ rfl
    have g6 := hf 6 _ rfl
    simp [cells5', cells50, cells4'] at g0 g1 g2 g3 g4 g5 g6
    obtain ⟨a0, e0, _, w0⟩ := DataW.trod_int Try.underlying5 g0
    obtain ⟨a1, e1, _, w1⟩ := DataW.trod_int Try.underlying5 g1
    obtain ⟨a2, e2, _, w2⟩ := DataW.trod_int Try.underlying5 g2
    obtain ⟨a3, e3, _, w3⟩ := DataW.trod_int Try.underlying5 g3
    obtain ⟨a4, e4, _, w4⟩ := DataW.trod_int Try.underlying41 g4
    obtain ⟨a5, e5, _, w5⟩ := DataW.trod_int Try.underlying41 g5
    obtain ⟨a6, e6, _⟩ := DataW.trod_bool Try.underlying4 g6
    simp at e0 e1 e2 e3 e4 e5 e6
    subst e0 e1 e2 e3 e4 e5 e6
    have b0 := bounds_u8 w0; have b1 := bounds_u8 w1; have b2 := bounds_u8 w2; have b3 := bounds_u8 w3; have b4 := bounds_u16 w4; have b5 := bounds_u16 w5
    exact ⟨⟨a0, a1, a2, a3, a4, a5, a6⟩, ⟨⟨by show 0 ≤ a0; omega, by show a0 ≤ 255; omega⟩, ⟨by show 0 ≤ a1; omega, by show a1 ≤ 255; omega⟩, ⟨by show 0 ≤ a2; omega, by show a2 ≤ 255; omega⟩, ⟨by show 0 ≤ a3; omega, by show a3 ≤ 255; omega⟩, ⟨by show 0 ≤ a4; omega, by show a4 ≤ 65535; omega⟩, ⟨by show 0 ≤ a5; omega, by show a5 ≤ 65535; omega⟩⟩, rfl⟩

theorem open_kps {r : Reach} {bb : Nat} {v : Value} {d : DataW H} {p : List MemPlace} (hv : Value.okWide Try.prog w r bb 40 v) (h : DataW.Trod enc Try.prog w base (fun _ => true) true 40 v d p) : ∃ (A : Option Addr) (n c : Nat) (P : List Kp), v = .slice A n c ∧ KpsIn w A n c P := by
  obtain ⟨A0, n0, c0, rfl⟩ := okWide_slice Try.underlying40 hv
  obtain ⟨fuel, hf⟩ := h
  obtain ⟨A, n, c, L, he, hL, hb⟩ := sl_read (E := elK) (ts := 40) (P := fun e => e.ok w) Try.underlying40 cells87 kp_read (v := .slice A0 n0 c0) (by simpa [Value.cells] using hf)
  exact ⟨A, n, c, L, he, hL, hb⟩
end
end Go.Proofs.Ytgaaieipeiekiaa

namespace Go.Proofs.Ytgaaieipeiekiaa
open Go.RowKit Go.ChangeShapes Go.WideShapes
set_option maxRecDepth 100000

section
variable {H : Type} {enc : TypeId × Value → H} {w : World} {base : Nat}
theorem open_lo {r : Reach} {bb : Nat} {v : Value} {d : DataW H} {p : List MemPlace} (hv : Value.okWide Try.prog w r bb 43 v) (h : DataW.Trod enc Try.prog w base (fun _ => true) true 43 v d p) : ∃ x : Lo, v = lv x ∧ x.ok := by
  obtain ⟨cs, rfl, hsz⟩ := okWide_struct Try.underlying43 hv
  obtain ⟨fuel, hf⟩ := h
  obtain ⟨l⟩ := cs
  have hl : l.length = elQ.k := by
    have : (l.toArray).size = Try.prog.cellsOf 43 := hsz
    rw [cells52] at this
    have h7 : l.length = 7 := by simpa using this
    exact h7
  have hf' : DataW.trod enc Try.prog w base (fun _ => true) true fuel 43 l = some (d, p) := by simpa [Value.cells] using hf
  obtain ⟨e, he, hc⟩ := lo_read fuel l _ hl hf'
  subst hc
  exact ⟨e, rfl, he⟩
end
end Go.Proofs.Ytgaaieipeiekiaa
