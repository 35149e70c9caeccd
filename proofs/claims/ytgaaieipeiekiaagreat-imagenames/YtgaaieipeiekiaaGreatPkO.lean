/- Contract of the reference's MayImage. / Contracts of the reference's Find, Get, Used. / Contract of the reference's SameImage. -/
import Derived.Test.YtgaaieipeiekiaaGreatPkN
import Derived.IntWalk
import Derived.Test.YtgaaieipeiekiaaGreatPkE
namespace Go.Proofs.YtgaaieipeiekiaaGreat
open Go.RowKit
set_option maxRecDepth 100000

/-- The first k names and files are right. -/
structure RTo (N : List Nm) (Z : List Nz) (k : Nat) : Prop where
  each : ∀ x ∈ N.take k, okName x.name = true ∧ okIno x.ino = true ∧ (fnd Nz.ino Z x.ino).isSome = true
  rise : Rise ordN Nm.name (N.take k)
  nodup : ((N.take k).map Nm.ino).Nodup
  up : Rise ordI Nz.ino (Z.take k)
  cont : ∀ z ∈ Z.take k, may z.s z.L = true
theorem rto_zero (N : List Nm) (Z : List Nz) : RTo N Z 0 := ⟨by simp, by simp [Rise], by simp, by simp [Rise], by simp⟩
theorem rto_all {N : List Nm} {Z : List Nz} (h : RTo N Z N.length) (h1 : N.length ≤ 16) (h2 : N.length = Z.length) : GoodI (ig N Z) := by
  obtain ⟨a, b, c, d, e⟩ := h
  rw [h2] at d e
  rw [List.take_length] at a b c d e
  refine good_ref h1 (by show N.length = (Z.map Nz.d).length; simpa using h2) (fun x hx => ⟨(a x hx).1, (a x hx).2.1, ?_⟩) b c (rise_d.2 d) (fun d hd => ?_)
  · show (fnd Nd.ino (Z.map Nz.d) x.ino).isSome = true
    rw [fnd_map (key' := Nz.ino) Nz.d (fun _ => rfl), Option.isSome_map]
    exact (a x hx).2.2
  · obtain ⟨z, hz, rfl⟩ := List.mem_map.1 hd
    exact e z hz
theorem rto_succ {N : List Nm} {Z : List Nz} {k : Nat} (h : RTo N Z k) (hk : k < N.length) (hz : k < Z.length) (h1 : okName (N.getD k default).name = true) (h2 : okIno (N.getD k default).ino = true) (h3 : ixOf Nz.ino Z (N.getD k default).ino ≥ 0) (h4 : 0 < k → nlt (N.getD (k - 1) default).name (N.getD k default).name = true) (h5 : ∀ x ∈ N.take k, x.ino ≠ (N.getD k default).ino) (h6 : 0 < k → (Z.getD (k - 1) default).ino < (Z.getD k default).ino) (h7 : may (Z.getD k default).s (Z.getD k default).L = true) : RTo N Z (k + 1) := by
  have hf : (fnd Nz.ino Z (N.getD k default).ino).isSome = true := by
    cases hf : fnd Nz.ino Z (N.getD k default).ino with
    | none => have := ix_neg.2 hf; omega
    | some x => rfl
  refine ⟨fun x hx => (mem_take_succ hk hx).elim (h.each x) (fun e => by rw [e]; exact ⟨h1, h2, hf⟩), rise_succ hk h.rise h4, ?_, rise_succ hz h.up (fun h0 => decide_eq_true (h6 h0)), fun z hz' => (mem_take_succ hz hz').elim (h.cont z) (fun e => by rw [e]; exact h7)⟩
  rw [getD_take N k hk, List.map_append, List.nodup_append]
  refine ⟨h.nodup, by simp, fun a ha b hb => ?_⟩
  obtain ⟨x, hx, rfl⟩ := List.mem_map.1 ha
  simp only [List.map_cons, List.map_nil, List.mem_singleton] at hb
  rw [hb]
  exact h5 x hx

set_option maxHeartbeats 16000000 in
theorem rmayi_any (A : Option Addr) (n c : Nat) (A' : Option Addr) (n' c' : Nat) (N : List Nm) (Z : List Nz) (w : World) (h : Im w A n c A' n' c' N Z) (z : Bool) (hz : GoodI (ig N Z) ↔ z = true) :
    Calls Tryz.prog 16 #[iv A n c A' n' c'] w (TruthPost z w) := by
  have HF := Lib.hid (show ¬ GoodI (ig N Z) → false = z from fun h => by cases hz' : z with | false => rfl | true => exact absurd (hz.2 hz') h)
  obtain ⟨W, hW⟩ : ∃ W, w.alloc (.cells #[.slice A n c, .slice A' n' c'] 25) = W := ⟨_, rfl⟩
  have KW := Lib.hid (show Below w.heap.size w W by rw [← hW]; exact (Below.refl _ _).alloc (Nat.le_refl _) _)
  have B0 := Lib.hid (show IBox W w.heap.size A n c A' n' c' by rw [← hW]; exact ibox_new _ _ _ _ _ _ _)
  have H := Lib.hid (h.on KW.out); have HZ := Lib.hid hz
  have HW := Lib.hid hW
  have hm := h.names.max; have hm' := h.nodes.max
  have HL := Lib.hid h.names.len; have HL' := Lib.hid h.nodes.len
  have HS := Lib.hid h.str
  clear h hz hW
  show Calls Tryz.prog 16 #[.agg #[.slice A n c, .slice A' n' c']] w _
  go_enter Tryz.func16, Tryz.ntmps16
  go_upto_region 1 with fail
  rw [HW.out]
  have b0 := B0.out.c0; have b1 := B0.out.c1
  by_cases h16 : n ≤ 16
  · by_cases hnn : n = n'
    · subst hnn
      have h16' : ¬ 16 < n := by omega
      have h16i : ¬ (16 : Int) < (n : Int) := by omega
      go_wp2
      clear h16i
      go_loopw [3] (fun i wr => ∃ k : Nat, k ≤ n ∧ i = .int .i64 k ∧ Hid (RTo N Z k) ∧ Hid (Below W.heap.size W wr)) (fun i _ => n - (intOf i).toNat)
      case atStart => exact ⟨0, Nat.zero_le _, rfl, rto_zero N Z, Below.refl _ _⟩
      case round =>
        clear b0 b1
        obtain ⟨k, hk, rfl, HT, K1⟩ := hrel
        have HR := Lib.hid (H.out.on K1.out); have BR := Lib.hid (B0.out.on K1.out)
        by_cases hlt : k < n
        · obtain ⟨b, o, rfl, hb, _⟩ := HR.out.names.cells (by omega)
          obtain ⟨d, p, rfl, hd, _⟩ := HR.out.nodes.cells (by omega)
          have hkN : k < N.length := by rw [HL.out]; exact hlt
          have hkZ : k < Z.length := by rw [HL'.out]; exact hlt
          have hat := Nms.at HR.out.names k hlt
          have hzt := Nds.at HR.out.nodes k hlt
          have HN := Lib.hid (rto_succ HT.out hkN hkZ)
          have HM := Lib.hid (getD_mem' hkN)
          have HM' := Lib.hid (getD_mem' hkZ)
          have HEx := Lib.hid (HR.out.exts _ HM'.out)
          have hki : (k : Int) < (n : Int) := by omega
          have HP := Lib.hid (fun (h0 : 0 < k) w' (kk : Below wr.heap.size wr w') => (Nms.at (HR.out.names.on kk) (k - 1) (by omega)).1)
          have HP' := Lib.hid (fun (h0 : 0 < k) w' (kk : Below wr.heap.size wr w') => (Nds.at (HR.out.nodes.on kk) (k - 1) (by omega)).1)
          have HNd := Lib.hid (fun w' (kk : Below wr.heap.size wr w') => Nds.at (HR.out.nodes.on kk) k hlt)
          have HA := Lib.hid (show 0 < k → GoodI (ig N Z) → nlt (N.getD (k - 1) default).name (N.getD k default).name = true from fun h0 h => rise_adj (L := N) h.rise h0 hkN)
          have HA' := Lib.hid (show 0 < k → GoodI (ig N Z) → (Z.getD (k - 1) default).ino < (Z.getD k default).ino from fun h0 h => of_decide_eq_true (rise_adj (L := Z) (rise_d.1 h.up) h0 hkZ))
          have HJ := Lib.hid (show ∀ j, j < k → (N.getD j default).ino = (N.getD k default).ino → false = z from fun j hj he => HF.out fun h => h.apart (i := j) (j := k) hj hkN he)
          have HJm := Lib.hid (show ∀ j, j < k → ∀ w' (kk : Below wr.heap.size wr w'), w'.cell? ⟨b, o + j * 2 + 1, none⟩ = some (.int .i64 (N.getD j default).ino) from fun j hj w' kk => (Nms.at (HR.out.names.on kk) j (by omega)).2)
          generalize N.getD k default = x at *
          generalize N.getD (k - 1) default = px at *
          generalize Z.getD k default = y at *
          generalize Z.getD (k - 1) default = py at *
          obtain ⟨xs, xk⟩ := x
          obtain ⟨ps, pk⟩ := px
          obtain ⟨yi, ys, yA, yn, yc, yL⟩ := y
          obtain ⟨zi, zs, zA, zn, zc, zL⟩ := py
          obtain ⟨c0, c1⟩ := hat
          obtain ⟨d0, d1, d2⟩ := hzt
          simp only at c0 c1 d0 d1 d2 HN HA HA' HP HP' HEx HJ HNd
          have hxs := HS.out _ HM.out
          simp only at hxs
          have HXS := Lib.hid hxs
          clear hxs
          have b0 := BR.out.c0; have b1 := BR.out.c1
          go_upto_region 7 with fail
          obtain ⟨W1, hW1⟩ : ∃ W1, wr.alloc (.cells #[.string xs, .int .i64 xk] 62) = W1 := ⟨_, rfl⟩
          have KA := Lib.hid (show Below wr.heap.size wr W1 by rw [← hW1]; exact (Below.refl _ _).alloc (Nat.le_refl _) _)
          have K3 := Lib.hid (show Below W.heap.size W W1 from K1.out.trans (KA.out.mono K1.out.size))
          have D0 := Lib.hid (show NBox W1 wr.heap.size xs xk by rw [← hW1]; exact nbox_new _ _ _)
          have HR1 := Lib.hid (HR.out.on KA.out); have BR1 := Lib.hid (BR.out.on KA.out)
          have HW1 := Lib.hid hW1
          clear hW1 b0 b1 c0 c1
          rw [HW1.out]
          have b0 := BR1.out.c0; have b1 := BR1.out.c1; have v0 := D0.out.c0; have v1 := D0.out.c1
          have HEN := Lib.hid (show ∀ w2, Below W1.heap.size W1 w2 → Im w2 (some ⟨b, o, none⟩) n c (some ⟨d, p, none⟩) n c' N Z from fun w2 k => HR1.out.on k)
          cases hy1 : okName xs with
          | false =>
            have HY1 := Lib.hid hy1
            have HX := Lib.hid (HF.out fun h => by have := h.name _ HM.out; simp only at this; rw [HY1.out] at this; cases this)
            clear hy1
            go_quiet (first | (go_at_call 14; with_reducible exact quiet_mine (rname_any xs _ HXS.out false HY1.out)))
            go_wp2
            go_ret
            exact ⟨ret_bool HX.out, below_drewN (KW.out.trans (K3.out.mono KW.out.size)) _⟩
          | true =>
            have HY1 := Lib.hid hy1
            clear hy1
            have hcase : xk < 1 ∨ (1 ≤ xk ∧ 4611686018427387904 < xk) ∨ (1 ≤ xk ∧ xk ≤ 4611686018427387904) := by omega
            rcases hcase with hc | ⟨hc, hc2⟩ | ⟨hc, hc2⟩
            · have HX := Lib.hid (HF.out fun h => by have := h.ino _ HM.out; simp only [okIno, Bool.and_eq_true, decide_eq_true_eq] at this; omega)
              go_quiet (first | (go_at_call 14; with_reducible exact quiet_mine (rname_any xs _ HXS.out true HY1.out)))
              go_wp2
              go_ret
              exact ⟨ret_bool HX.out, below_drewN (KW.out.trans (K3.out.mono KW.out.size)) _⟩
            · have HX := Lib.hid (HF.out fun h => by have := h.ino _ HM.out; simp only [okIno, Bool.and_eq_true, decide_eq_true_eq] at this; omega)
              have hc' : ¬ xk < 1 := by omega
              go_quiet (first | (go_at_call 14; with_reducible exact quiet_mine (rname_any xs _ HXS.out true HY1.out)))
              go_wp2
              go_ret
              exact ⟨ret_bool HX.out, below_drewN (KW.out.trans (K3.out.mono KW.out.size)) _⟩
            · have hc' : ¬ xk < 1 := by omega
              have hc3 : ¬ 4611686018427387904 < xk := by omega
              have HOK := Lib.hid (show okIno xk = true by simp [okIno, hc, hc2])
              obtain ⟨r, hr⟩ : ∃ r, ixOf Nz.ino Z xk = r := ⟨_, rfl⟩
              have HRr := Lib.hid hr
              clear hr
              have SF := Lib.hid (fun w' (kk : Below W1.heap.size W1 w') => And.intro (D0.out.on kk).c0 (And.intro (D0.out.on kk).c1 (And.intro (BR1.out.on kk).c0 (BR1.out.on kk).c1)))
              have HP1 := Lib.hid (show Below W1.heap.size W1 (W1.drewN 1) from below_drewN (Below.refl _ _) 1)
              rcases Nat.eq_zero_or_pos k with hk0 | hk0
              · have hk1 : decide ((0 : Int) < (k : Int)) = false := by simp; omega
                have hk2 : decide (0 < k) = false := by simp; omega
                have hk3 : ¬ 0 < k := by omega
                replace hk0 := Lib.hid hk0
                have hkk : ¬ (0 : Int) < (k : Int) := by omega
                have qb0 := fun u : Wb W1 => (BR1.out.on u.k).c0
                have qb1 := fun u : Wb W1 => (BR1.out.on u.k).c1
                have qv0 := fun u : Wb W1 => (D0.out.on u.k).c0
                have qv1 := fun u : Wb W1 => (D0.out.on u.k).c1
                have QN : ∀ u : Wb W1, Calls Tryz.prog 34 #[.agg #[.slice (some ⟨b, o, none⟩) n c, .slice (some ⟨d, p, none⟩) n c'], .int .i64 xk] u.v (fun e w'' => e = .returned (.int .i64 r) ∧ ∃ m : Wb W1, w'' = m.v) := fun u => grew_num (rnode_any (some ⟨b, o, none⟩) n c (some ⟨d, p, none⟩) n c' N Z xk _ (HEN.out _ u.k) r HRr.out)
                refine wp_region_grew (by kernel_rfl) (by kernel_rfl) ?_
                repeat (go_big_quiet_step (first | (go_at_call 14; with_reducible exact grew_same (rname_any xs _ HXS.out true HY1.out)) | (go_at_call 34; with_reducible exact QN _)))
                refine wpQuiet_nil ?_
                rintro _ ⟨⟨w2, k2⟩, rfl⟩
                try dsimp only
                have K2 := Lib.hid k2
                clear k2 qb0 qb1 qv0 qv1 QN
                have KC := Lib.hid (KW.out.trans ((K3.out.trans (K2.out.mono K3.out.size)).mono KW.out.size))
                by_cases hr0 : r < 0
                · have HX := Lib.hid (HF.out fun h => by
                    obtain ⟨q, hq⟩ := good_node h xs ⟨xs, xk⟩ (by have := fnd_of_mem h.rise HM.out; exact this)
                    have := ix_neg.1 (show ixOf Nz.ino Z xk < 0 by rw [HRr.out]; exact hr0)
                    simp only at hq
                    rw [this] at hq; cases hq)
                  go_wp2
                  go_ret
                  exact ⟨ret_bool HX.out, KC.out⟩
                · have HR0 := Lib.hid (show ixOf Nz.ino Z xk ≥ 0 by rw [HRr.out]; omega)
                  clear b0 b1 v0 v1
                  go_wp2
                  go_loopw [5] (fun jv wq => ∃ j : Nat, j ≤ k ∧ jv = .int .i64 j ∧ Hid (∀ x ∈ N.take j, x.ino ≠ xk) ∧ Hid (Below W1.heap.size W1 wq)) (fun jv _ => k - (intOf jv).toNat)
                  case atStart => exact ⟨0, Nat.zero_le _, rfl, by simp [Hid], K2.out⟩
                  case round =>
                    obtain ⟨j, hj, rfl, HU, K5⟩ := hrel
                    have b0 := (BR1.out.on K5.out).c0; have b1 := (BR1.out.on K5.out).c1; have v0 := (D0.out.on K5.out).c0; have v1 := (D0.out.on K5.out).c1
                    have KD := Lib.hid (KW.out.trans ((K3.out.trans (K5.out.mono K3.out.size)).mono KW.out.size))
                    by_cases hjk : j < k
                    · have e0 := HJm.out j hjk _ (KA.out.trans (K5.out.mono KA.out.size))
                      have HJj := Lib.hid (HJ.out j hjk)
                      have HUs := Lib.hid (show (N.getD j default).ino ≠ xk → ∀ x ∈ N.take (j + 1), x.ino ≠ xk from fun hne x hx => (mem_take_succ (by omega) hx).elim (HU.out x) (fun e => by rw [e]; exact hne))
                      generalize (N.getD j default).ino = q at *
                      have hjn : (j : Int) < (n : Int) := by omega
                      have hjk' : (j : Int) < (k : Int) := by omega
                      by_cases hq : q = xk
                      · have HX := Lib.hid (HJj.out hq)
                        have hq' : (q == xk) = true := by simpa using hq
                        clear hq
                        go_wp2
                        go_quiet (fail)
                        go_wp2
                        go_ret
                        exact ⟨ret_bool HX.out, below_drewN KD.out _⟩
                      · have HX := Lib.hid (HUs.out hq)
                        have hq' : (q == xk) = false := by simpa using hq
                        clear hq
                        go_wp2
                        go_quiet (fail)
                        go_wp2
                        go_roundw
                        case rel => exact ⟨j + 1, by omega, by go_num, HX.out, below_drewN K5.out _⟩
                        case measure => simp [intOf]; omega
                    · obtain rfl : j = k := by omega
                      have ST := Lib.hid (fun w' (kk : Below W1.heap.size W1 w') => And.intro (BR1.out.on kk).c1 (HNd.out w' (KA.out.trans (kk.mono KA.out.size))))
                      have KP := Lib.hid (show Below W1.heap.size W1 (wr.drewN 1) from below_drewN K5.out 1)
                      obtain ⟨m, hm7⟩ : ∃ m, may ys yL = m := ⟨_, rfl⟩
                      have HM7 := Lib.hid hm7
                      clear hm7
                      have g1 : ¬ (0 : Int) < (j : Int) := by omega
                      go_wp2
                      have qs := fun u : Wb wr => (ST.out u.v (K5.out.trans (u.k.mono K5.out.size))).1
                      have q0 := fun u : Wb wr => (ST.out u.v (K5.out.trans (u.k.mono K5.out.size))).2.1
                      have q1 := fun u : Wb wr => (ST.out u.v (K5.out.trans (u.k.mono K5.out.size))).2.2.1
                      have q2 := fun u : Wb wr => (ST.out u.v (K5.out.trans (u.k.mono K5.out.size))).2.2.2
                      skip
                      have QM : ∀ u : Wb wr, Calls Tryz.prog 42 #[.agg #[.int .i64 ys, .slice yA yn yc]] u.v (fun e w'' => e = .returned (.bool m) ∧ ∃ m : Wb wr, w'' = m.v) := fun u => grew_truth (rmay_any ys yA yn yc yL _ (HEx.out.on (KA.out.trans ((K5.out.trans (u.k.mono K5.out.size)).mono KA.out.size))) m HM7.out)
                      refine wp_region_grew (by kernel_rfl) (by kernel_rfl) ?_
                      repeat (go_big_quiet_step (first | (go_at_call 42; with_reducible exact QM _)))
                      refine wpQuiet_nil ?_
                      rintro _ ⟨⟨w6, k6⟩, rfl⟩
                      try dsimp only
                      have K6 := Lib.hid (K5.out.trans (k6.mono K5.out.size))
                      clear k6 q0 q1 q2 qs QM
                      have KE := Lib.hid (KW.out.trans ((K3.out.trans (K6.out.mono K3.out.size)).mono KW.out.size))
                      cases m with
                      | false =>
                        have HX := Lib.hid (HF.out fun h => by have := h.cont _ (List.mem_map_of_mem HM'.out); simp only [Nz.d] at this; rw [HM7.out] at this; cases this)
                        go_wp2
                        go_ret
                        exact ⟨ret_bool HX.out, KE.out⟩
                      | true =>
                        have HX := Lib.hid (HN.out HY1.out HOK.out HR0.out (fun h0 => absurd h0 (by omega)) HU.out (fun h0 => absurd h0 (by omega)) HM7.out)
                        go_wp2
                        go_roundw
                        case rel => exact ⟨j + 1, by omega, by go_num, HX.out, K3.out.trans (K6.out.mono K3.out.size)⟩
                        case measure => simp [intOf]; omega
              · have c9 := HP.out hk0 _ KA.out
                have hk1 : (0 : Int) < (k : Int) := by omega
                have hk2 : (0 : Int) ≤ (k : Int) - 1 := by omega
                have hk3 : (k : Int) - 1 < (n : Int) := by omega
                have hk4 : ((k : Int) - 1).toNat = k - 1 := by omega
                have hk5 : IntKind.i64.wrap ((k : Int) - 1) = (k : Int) - 1 := by rw [IntKind.wrap_i64]; omega
                obtain ⟨y3, hy3⟩ : ∃ y, nlt ps xs = y := ⟨_, rfl⟩
                have hle := nle_is xs ps
                rw [hy3] at hle
                have HY3 := Lib.hid hy3
                have hlt3 : Op.bytesLess ps.toList xs.toList = y3 := hy3
                have hle2 := hle
                rw [Bool.beq_comm] at hle2
                clear hy3
                cases y3 with
                | false =>
                  have HX := Lib.hid (HF.out fun h => by have := HA.out hk0 h; rw [HY3.out] at this; cases this)
                  go_quiet (first | (go_at_call 14; with_reducible exact quiet_mine (rname_any xs _ HXS.out true HY1.out)))
                  go_wp2
                  go_ret
                  exact ⟨ret_bool HX.out, below_drewN (KW.out.trans (K3.out.mono KW.out.size)) _⟩
                | true =>
                  have HAA := Lib.hid HY3.out
                  have hne3 : (xs.toList == ps.toList) = false ∧ (ps.toList == xs.toList) = false ∧ Op.bytesLess xs.toList ps.toList = false := by
                    have h1 := ordN.ne (a := ps) (b := xs) HY3.out
                    refine ⟨?_, ?_, ordN.asym (a := ps) (b := xs) HY3.out⟩
                    · simp only [beq_eq_false_iff_ne]; exact fun e => h1 (toList_inj e).symm
                    · simp only [beq_eq_false_iff_ne]; exact fun e => h1 (toList_inj e)
                  obtain ⟨hne1, hne2, hne4⟩ := hne3
                  have SG := Lib.hid (fun w' (kk : Below W1.heap.size W1 w') => And.intro (HP.out hk0 _ (KA.out.trans (kk.mono KA.out.size))) (SF.out w' kk))
                  have qb0 := fun u : Wb W1 => (BR1.out.on u.k).c0
                  have qb1 := fun u : Wb W1 => (BR1.out.on u.k).c1
                  have qv0 := fun u : Wb W1 => (D0.out.on u.k).c0
                  have qv1 := fun u : Wb W1 => (D0.out.on u.k).c1
                  have qp := fun u : Wb W1 => HP.out hk0 u.v (KA.out.trans (u.k.mono KA.out.size))
                  have QN : ∀ u : Wb W1, Calls Tryz.prog 34 #[.agg #[.slice (some ⟨b, o, none⟩) n c, .slice (some ⟨d, p, none⟩) n c'], .int .i64 xk] u.v (fun e w'' => e = .returned (.int .i64 r) ∧ ∃ m : Wb W1, w'' = m.v) := fun u => grew_num (rnode_any (some ⟨b, o, none⟩) n c (some ⟨d, p, none⟩) n c' N Z xk _ (HEN.out _ u.k) r HRr.out)
                  refine wp_region_grew (by kernel_rfl) (by kernel_rfl) ?_
                  repeat (go_big_quiet_step (first | (go_at_call 14; with_reducible exact grew_same (rname_any xs _ HXS.out true HY1.out)) | (go_at_call 34; with_reducible exact QN _)))
                  refine wpQuiet_nil ?_
                  rintro _ ⟨⟨w2, k2⟩, rfl⟩
                  try dsimp only
                  have K2 := Lib.hid k2
                  clear k2 qb0 qb1 qv0 qv1 QN
                  have KC := Lib.hid (KW.out.trans ((K3.out.trans (K2.out.mono K3.out.size)).mono KW.out.size))
                  by_cases hr0 : r < 0
                  · have HX := Lib.hid (HF.out fun h => by
                      obtain ⟨q, hq⟩ := good_node h xs ⟨xs, xk⟩ (by have := fnd_of_mem h.rise HM.out; exact this)
                      have := ix_neg.1 (show ixOf Nz.ino Z xk < 0 by rw [HRr.out]; exact hr0)
                      simp only at hq
                      rw [this] at hq; cases hq)
                    go_wp2
                    go_ret
                    exact ⟨ret_bool HX.out, KC.out⟩
                  · have HR0 := Lib.hid (show ixOf Nz.ino Z xk ≥ 0 by rw [HRr.out]; omega)
                    clear b0 b1 v0 v1
                    go_wp2
                    go_loopw [5] (fun jv wq => ∃ j : Nat, j ≤ k ∧ jv = .int .i64 j ∧ Hid (∀ x ∈ N.take j, x.ino ≠ xk) ∧ Hid (Below W1.heap.size W1 wq)) (fun jv _ => k - (intOf jv).toNat)
                    case atStart => exact ⟨0, Nat.zero_le _, rfl, by simp [Hid], K2.out⟩
                    case round =>
                      obtain ⟨j, hj, rfl, HU, K5⟩ := hrel
                      have b0 := (BR1.out.on K5.out).c0; have b1 := (BR1.out.on K5.out).c1; have v0 := (D0.out.on K5.out).c0; have v1 := (D0.out.on K5.out).c1
                      have KD := Lib.hid (KW.out.trans ((K3.out.trans (K5.out.mono K3.out.size)).mono KW.out.size))
                      by_cases hjk : j < k
                      · have e0 := HJm.out j hjk _ (KA.out.trans (K5.out.mono KA.out.size))
                        have HJj := Lib.hid (HJ.out j hjk)
                        have HUs := Lib.hid (show (N.getD j default).ino ≠ xk → ∀ x ∈ N.take (j + 1), x.ino ≠ xk from fun hne x hx => (mem_take_succ (by omega) hx).elim (HU.out x) (fun e => by rw [e]; exact hne))
                        generalize (N.getD j default).ino = q at *
                        have hjn : (j : Int) < (n : Int) := by omega
                        have hjk' : (j : Int) < (k : Int) := by omega
                        by_cases hq : q = xk
                        · have HX := Lib.hid (HJj.out hq)
                          have hq' : (q == xk) = true := by simpa using hq
                          clear hq
                          go_wp2
                          go_quiet (fail)
                          go_wp2
                          go_ret
                          exact ⟨ret_bool HX.out, below_drewN KD.out _⟩
                        · have HX := Lib.hid (HUs.out hq)
                          have hq' : (q == xk) = false := by simpa using hq
                          clear hq
                          go_wp2
                          go_quiet (fail)
                          go_wp2
                          go_roundw
                          case rel => exact ⟨j + 1, by omega, by go_num, HX.out, below_drewN K5.out _⟩
                          case measure => simp [intOf]; omega
                      · obtain rfl : j = k := by omega
                        have ST := Lib.hid (fun w' (kk : Below W1.heap.size W1 w') => And.intro (BR1.out.on kk).c1 (HNd.out w' (KA.out.trans (kk.mono KA.out.size))))
                        have SU := Lib.hid (fun w' (kk : Below W1.heap.size W1 w') => And.intro (HP'.out hk0 _ (KA.out.trans (kk.mono KA.out.size))) (ST.out w' kk))
                        have KP := Lib.hid (show Below W1.heap.size W1 (wr.drewN 1) from below_drewN K5.out 1)
                        obtain ⟨m, hm7⟩ : ∃ m, may ys yL = m := ⟨_, rfl⟩
                        have HM7 := Lib.hid hm7
                        clear hm7
                        have e1 := HP'.out hk0 _ (KA.out.trans (K5.out.mono KA.out.size))
                        have g1 : (0 : Int) < (j : Int) := by omega
                        have g2 : (0 : Int) ≤ (j : Int) - 1 := by omega
                        have g3 : (j : Int) - 1 < (n : Int) := by omega
                        have g4 : ((j : Int) - 1).toNat = j - 1 := by omega
                        have g5 : IntKind.i64.wrap ((j : Int) - 1) = (j : Int) - 1 := by rw [IntKind.wrap_i64]; omega
                        by_cases hzy : zi < yi
                        · have g6 : decide (yi ≤ zi) = false := by simp; omega
                          go_wp2
                          have qs := fun u : Wb wr => (ST.out u.v (K5.out.trans (u.k.mono K5.out.size))).1
                          have q0 := fun u : Wb wr => (ST.out u.v (K5.out.trans (u.k.mono K5.out.size))).2.1
                          have q1 := fun u : Wb wr => (ST.out u.v (K5.out.trans (u.k.mono K5.out.size))).2.2.1
                          have q2 := fun u : Wb wr => (ST.out u.v (K5.out.trans (u.k.mono K5.out.size))).2.2.2
                          have q3 := fun u : Wb wr => HP'.out hk0 u.v (KA.out.trans ((K5.out.trans (u.k.mono K5.out.size)).mono KA.out.size))
                          have QM : ∀ u : Wb wr, Calls Tryz.prog 42 #[.agg #[.int .i64 ys, .slice yA yn yc]] u.v (fun e w'' => e = .returned (.bool m) ∧ ∃ m : Wb wr, w'' = m.v) := fun u => grew_truth (rmay_any ys yA yn yc yL _ (HEx.out.on (KA.out.trans ((K5.out.trans (u.k.mono K5.out.size)).mono KA.out.size))) m HM7.out)
                          refine wp_region_grew (by kernel_rfl) (by kernel_rfl) ?_
                          repeat (go_big_quiet_step (first | (go_at_call 42; with_reducible exact QM _)))
                          refine wpQuiet_nil ?_
                          rintro _ ⟨⟨w6, k6⟩, rfl⟩
                          try dsimp only
                          have K6 := Lib.hid (K5.out.trans (k6.mono K5.out.size))
                          clear k6 q0 q1 q2 qs QM
                          have KE := Lib.hid (KW.out.trans ((K3.out.trans (K6.out.mono K3.out.size)).mono KW.out.size))
                          cases m with
                          | false =>
                            have HX := Lib.hid (HF.out fun h => by have := h.cont _ (List.mem_map_of_mem HM'.out); simp only [Nz.d] at this; rw [HM7.out] at this; cases this)
                            go_wp2
                            go_ret
                            exact ⟨ret_bool HX.out, KE.out⟩
                          | true =>
                            have HX := Lib.hid (HN.out HY1.out HOK.out HR0.out (fun h0 => HAA.out) HU.out (fun h0 => hzy) HM7.out)
                            go_wp2
                            go_roundw
                            case rel => exact ⟨j + 1, by omega, by go_num, HX.out, K3.out.trans (K6.out.mono K3.out.size)⟩
                            case measure => simp [intOf]; omega
                        · have HX := Lib.hid (HF.out fun h => hzy (HA'.out hk0 h))
                          have g6 : yi ≤ zi := by omega
                          have hst := ST.out _ K5.out
                          obtain ⟨_, e2, e3, e4⟩ := hst
                          go_wp2
                          go_quiet (fail)
                          go_wp2
                          go_ret
                          exact ⟨ret_bool HX.out, below_drewN KD.out _⟩
        · have hkn : k = n := by omega
          have HX := Lib.hid (show true = z by
            refine (HZ.out.1 (rto_all ?_ (by rw [HL.out]; exact h16) (by rw [HL.out, HL'.out]))).symm
            have := HT.out
            rwa [hkn, ← HL.out] at this)
          have b0 := BR.out.c0; have b1 := BR.out.c1
          clear hkn
          go_wp2
          go_ret
          exact ⟨ret_bool HX.out, KW.out.trans (K1.out.mono KW.out.size)⟩
    · have HX := Lib.hid (HF.out fun h => hnn (by rw [← HL.out, ← HL'.out]; have := h.leq; simpa [ig] using this))
      have h16' : ¬ 16 < n := by omega
      have hnn' : ¬ (n : Int) = (n' : Int) := by omega
      have h16i : ¬ (16 : Int) < (n : Int) := by omega
      go_wp2
      go_ret
      exact ⟨ret_bool HX.out, KW.out⟩
  · have HX := Lib.hid (HF.out fun h => h16 (by rw [← HL.out]; exact h.len))
    have h16' : 16 < n := by omega
    have h16i : (16 : Int) < (n : Int) := by omega
    go_wp2
    go_ret
    exact ⟨ret_bool HX.out, KW.out⟩
end Go.Proofs.YtgaaieipeiekiaaGreat

namespace Go.Proofs.YtgaaieipeiekiaaGreat
open Go.RowKit
set_option maxRecDepth 100000

set_option maxHeartbeats 4000000 in
theorem rfind_img (A : Option Addr) (c : Nat) (A' : Option Addr) (c' : Nat) (N : List Nm) (Z : List Nz) (name : ByteArray) (w : World) (h : Im w A N.length c A' Z.length c' N Z) (z : Bool) (hz : GoodI (ig N Z) ↔ z = true) (k : Int) (y : Bool) (hT : z = true → findS N name = (k, y)) (hF : z = false → ((0 : Int), false) = (k, y)) :
    Calls Tryz.prog 10 #[iv A N.length c A' Z.length c', .string name] w (IntPost k y w) := by
  obtain ⟨W, hW⟩ : ∃ W, w.alloc (.cells #[.slice A N.length c, .slice A' Z.length c'] 25) = W := ⟨_, rfl⟩
  have KW := Lib.hid (show Below w.heap.size w W by rw [← hW]; exact (Below.refl _ _).alloc (Nat.le_refl _) _)
  have B0 := Lib.hid (show IBox W w.heap.size A N.length c A' Z.length c' by rw [← hW]; exact ibox_new _ _ _ _ _ _ _)
  have H := Lib.hid (h.on KW.out); have HZ := Lib.hid hz; have HT := Lib.hid hT; have HF := Lib.hid hF
  have HW := Lib.hid hW
  clear h hz hT hF hW
  obtain ⟨r, hr⟩ : ∃ r, ixOf Nm.name N name = r := ⟨_, rfl⟩
  have HR := Lib.hid hr
  clear hr
  show Calls Tryz.prog 10 #[.agg #[.slice A N.length c, .slice A' Z.length c'], .string name] w _
  go_enter Tryz.func10, Tryz.ntmps10
  go_upto_region 1 with fail
  rw [HW.out]
  have b0 := B0.out.c0; have b1 := B0.out.c1
  go_wp2_with fail
  refine (rnamed_any A N.length c A' Z.length c' N Z name W H.out r HR.out).mono ?_
  rintro e w1 ⟨rfl, k1⟩
  have K1 := Lib.hid (KW.out.trans (k1.mono KW.out.size))
  have B1 := Lib.hid (B0.out.on k1); have H1 := Lib.hid (H.out.on k1)
  clear k1 b0 b1
  have b0 := B1.out.c0; have b1 := B1.out.c1
  go_wp2_with fail
  refine (rmayi_any A N.length c A' Z.length c' N Z w1 H1.out z HZ.out).mono ?_
  rintro e w2 ⟨rfl, k2⟩
  have K2 := Lib.hid (K1.out.trans (k2.mono K1.out.size))
  have B2 := Lib.hid (B1.out.on k2); have H2 := Lib.hid (H1.out.on k2)
  clear k2 b0 b1
  have b0 := B2.out.c0; have b1 := B2.out.c1
  cases z with
  | false =>
    obtain ⟨e1, e2⟩ := Prod.mk.inj (HF.out (by first | rfl | trivial))
    subst e1 e2
    go_wp2
    go_ret2
    exact ⟨rfl, K2.out⟩
  | true =>
    have HK := Lib.hid (HT.out (by first | rfl | trivial))
    by_cases hr0 : r < 0
    · have HN := Lib.hid (show fnd Nm.name N name = none from ix_neg.1 (by rw [HR.out]; exact hr0))
      have hk := HK.out
      rw [findS, HN.out] at hk
      obtain ⟨e1, e2⟩ := Prod.mk.inj hk
      subst e1 e2
      clear hk
      go_wp2
      go_ret2
      exact ⟨rfl, K2.out⟩
    · obtain ⟨x, hx⟩ : ∃ x, fnd Nm.name N name = some x := by
        cases hf : fnd Nm.name N name with
        | none => exact absurd (by rw [← HR.out]; exact ix_neg.2 hf) hr0
        | some x => exact ⟨x, rfl⟩
      obtain ⟨i, hil, hi, hix⟩ := ix_some hx
      rw [HR.out] at hi
      subst hi
      obtain ⟨b, o, rfl, _, _⟩ := H2.out.names.cells (by omega)
      have hc := (Nms.at H2.out.names i hil).2
      rw [hix] at hc
      have hk := HK.out
      rw [findS, hx] at hk
      obtain ⟨e1, e2⟩ := Prod.mk.inj hk
      rw [e1] at hc
      subst e2
      have hil' : (i : Int) < (N.length : Int) := by omega
      have hi0 : ¬ (i : Int) < 0 := by omega
      clear hk hx hix e1 hr0
      go_wp2
      go_ret2
      exact ⟨rfl, K2.out⟩

set_option maxHeartbeats 4000000 in
theorem rget_img (A : Option Addr) (c : Nat) (A' : Option Addr) (c' : Nat) (N : List Nm) (Z : List Nz) (no : Int) (w : World) (h : Im w A N.length c A' Z.length c' N Z) (hl : ∀ z ∈ Z, z.n ≤ 1000000) (z : Bool) (hz : GoodI (ig N Z) ↔ z = true) (s : Int) (L : List Ex) (y : Bool) (hT : z = true → getS Z no = ((s, L), y)) (hF : z = false → (((0 : Int), ([] : List Ex)), false) = ((s, L), y)) :
    Calls Tryz.prog 12 #[iv A N.length c A' Z.length c', .int .i64 no] w (CtPost y s (fun M => M = L) w) := by
  obtain ⟨W, hW⟩ : ∃ W, (w.alloc (.cells #[.slice A N.length c, .slice A' Z.length c'] 25)).alloc (.cells #[.int .i64 0, .slice none 0 0] 32) = W := ⟨_, rfl⟩
  have KW := Lib.hid (show Below w.heap.size w W by rw [← hW]; exact ((Below.refl _ _).alloc (Nat.le_refl _) _).alloc (by simp) _)
  have B0 := Lib.hid (show IBox W w.heap.size A N.length c A' Z.length c' by rw [← hW]; exact (ibox_new _ _ _ _ _ _ _).on ((Below.refl _ _).alloc (Nat.le_refl _) _))
  have R0 := Lib.hid (show Box W (w.heap.size + 1) 0 none 0 0 by
    rw [← hW]
    have := box_new (w.alloc (.cells #[.slice A N.length c, .slice A' Z.length c'] 25)) 0 none 0 0
    simpa using this)
  have HS := Lib.hid (show W.heap.size = w.heap.size + 2 by rw [← hW]; simp)
  have H := Lib.hid (h.on KW.out); have HZ := Lib.hid hz; have HT := Lib.hid hT; have HF := Lib.hid hF; have HL := Lib.hid hl
  have HW := Lib.hid hW
  clear h hz hT hF hW hl
  obtain ⟨r, hr⟩ : ∃ r, ixOf Nz.ino Z no = r := ⟨_, rfl⟩
  have HR := Lib.hid hr
  clear hr
  show Calls Tryz.prog 12 #[.agg #[.slice A N.length c, .slice A' Z.length c'], .int .i64 no] w _
  go_enter Tryz.func12, Tryz.ntmps12
  go_upto_region 1 with fail
  rw [HW.out]
  have b0 := B0.out.c0; have b1 := B0.out.c1
  go_wp2_with fail
  refine (rnode_any A N.length c A' Z.length c' N Z no W H.out r HR.out).mono ?_
  rintro e w1 ⟨rfl, k1⟩
  have K1 := Lib.hid (KW.out.trans (k1.mono KW.out.size))
  have B1 := Lib.hid (B0.out.on k1); have H1 := Lib.hid (H.out.on k1); have R1 := Lib.hid (R0.out.on k1)
  have hs1 := Nat.le_trans (Nat.le_of_eq HS.out.symm) k1.size
  clear k1 b0 b1
  have b0 := B1.out.c0; have b1 := B1.out.c1
  go_wp2_with fail
  refine (rmayi_any A N.length c A' Z.length c' N Z w1 H1.out z HZ.out).mono ?_
  rintro e w2 ⟨rfl, k2⟩
  have K2 := Lib.hid (K1.out.trans (k2.mono K1.out.size))
  have B2 := Lib.hid (B1.out.on k2); have H2 := Lib.hid (H1.out.on k2); have R2 := Lib.hid (R1.out.on k2)
  have hs2 := Nat.le_trans hs1 k2.size
  clear k2 b0 b1
  have b0 := B2.out.c0; have b1 := B2.out.c1
  cases z with
  | false =>
    obtain ⟨e0, e2⟩ := Prod.mk.inj (HF.out (by first | rfl | trivial))
    obtain ⟨e1, e3⟩ := Prod.mk.inj e0
    subst e1 e2 e3
    have r0 := R2.out.c0; have r1 := R2.out.c1; have g0 := R2.out.f0; have g1 := R2.out.f1
    go_wp2
    have X := R2.out.put 0 none 0 0
    exact res_box2 rfl (w.heap.size + 1) 0 none 0 0 rfl X rfl ⟨none, 0, 0, [], rfl, rfl, mut_nil _ _, below_put K2.out _ (by omega) _ _⟩
  | true =>
    have HK := Lib.hid (HT.out (by first | rfl | trivial))
    by_cases hr0 : r < 0
    · have HN := Lib.hid (show fnd Nz.ino Z no = none from ix_neg.1 (by rw [HR.out]; exact hr0))
      have hk := HK.out
      rw [getS, HN.out] at hk
      obtain ⟨e0, e2⟩ := Prod.mk.inj hk
      obtain ⟨e1, e3⟩ := Prod.mk.inj e0
      subst e1 e2 e3
      clear hk e0
      have r0 := R2.out.c0; have r1 := R2.out.c1; have g0 := R2.out.f0; have g1 := R2.out.f1
      go_wp2
      have X := R2.out.put 0 none 0 0
      exact res_box2 rfl (w.heap.size + 1) 0 none 0 0 rfl X rfl ⟨none, 0, 0, [], rfl, rfl, mut_nil _ _, below_put K2.out _ (by omega) _ _⟩
    · obtain ⟨x, hx⟩ : ∃ x, fnd Nz.ino Z no = some x := by
        cases hf : fnd Nz.ino Z no with
        | none => exact absurd (by rw [← HR.out]; exact ix_neg.2 hf) hr0
        | some x => exact ⟨x, rfl⟩
      obtain ⟨i, hil, hi, hix⟩ := ix_some hx
      rw [HR.out] at hi
      subst hi
      obtain ⟨b, o, rfl, _, _⟩ := H2.out.nodes.cells (by omega)
      obtain ⟨_, hc1, hc2⟩ := Nds.at H2.out.nodes i hil
      rw [hix] at hc1 hc2
      have hk := HK.out
      rw [getS, hx] at hk
      obtain ⟨e0, e2⟩ := Prod.mk.inj hk
      obtain ⟨e1, e3⟩ := Prod.mk.inj e0
      subst e1 e2 e3
      have hxm := (fnd_mem hx).1
      have HE := Lib.hid (H2.out.exts x hxm)
      have hxn := HL.out x hxm
      have hil' : (i : Int) < (Z.length : Int) := by omega
      have hi0 : ¬ (i : Int) < 0 := by omega
      clear hk hx hix e0 hr0
      obtain ⟨xi, xs, xA, xn, xc, xL⟩ := x
      simp only at hc1 hc2 HE hxn
      go_wp2_with fail
      refine (copy_any xs xA xn xc xL w2 HE.out hxn).mono ?_
      rintro e w3 ⟨F, f, he, hm, k3⟩
      obtain rfl : e = .returned (.agg #[.int .i64 xs, .slice F xL.length f]) := he
      have R3 := Lib.hid (R2.out.on k3)
      have K3 := Lib.hid (K2.out.trans (k3.mono K2.out.size))
      have HM := Lib.hid hm
      clear k3 hm b0 b1
      have r0 := R3.out.c0; have r1 := R3.out.c1; have g0 := R3.out.f0; have g1 := R3.out.f1
      go_wp2
      have X := R3.out.put xs F xL.length f
      exact res_box2 rfl (w.heap.size + 1) _ _ _ _ rfl X rfl ⟨F, _, f, xL, rfl, rfl, HM.out.only (only_put _ _ _ _) (fun g hg hd => by omega) (by omega), below_put K3.out _ (by omega) _ _⟩

set_option maxHeartbeats 4000000 in
theorem rused_img (A : Option Addr) (c : Nat) (A' : Option Addr) (c' : Nat) (N : List Nm) (Z : List Nz) (w : World) (h : Im w A N.length c A' Z.length c' N Z) (hn : Z.length ≤ 1000) (hl : ∀ z ∈ Z, z.L.length ≤ 1000000) (z : Bool) (hz : GoodI (ig N Z) ↔ z = true) (k : Int) (hT : z = true → (usedS Z : Int) = k) (hF : z = false → 0 = k) :
    Calls Tryz.prog 19 #[iv A N.length c A' Z.length c'] w (NumPost k w) := by
  obtain ⟨W, hW⟩ : ∃ W, w.alloc (.cells #[.slice A N.length c, .slice A' Z.length c'] 25) = W := ⟨_, rfl⟩
  have KW := Lib.hid (show Below w.heap.size w W by rw [← hW]; exact (Below.refl _ _).alloc (Nat.le_refl _) _)
  have B0 := Lib.hid (show IBox W w.heap.size A N.length c A' Z.length c' by rw [← hW]; exact ibox_new _ _ _ _ _ _ _)
  have H := Lib.hid (h.on KW.out); have HZ := Lib.hid hz; have HT := Lib.hid hT; have HF := Lib.hid hF; have HL := Lib.hid hl
  have HW := Lib.hid hW
  have hm' := h.nodes.max
  clear h hz hT hF hW hl
  show Calls Tryz.prog 19 #[.agg #[.slice A N.length c, .slice A' Z.length c']] w _
  go_enter Tryz.func19, Tryz.ntmps19
  go_upto_region 1 with fail
  rw [HW.out]
  have HLE := Lib.hid (fun j => used_le (Z := Z.take j) (K := 1000000) (fun z hz => HL.out z (List.mem_of_mem_take hz)))
  go_wp2
  go_loopw [4, 3] (fun i s wr => ∃ j : Nat, j ≤ Z.length ∧ i = .int .i64 j ∧ s = .int .i64 (usedS (Z.take j)) ∧ Hid (0 < j → z = true) ∧ Hid (Below W.heap.size W wr)) (fun i _ _ => Z.length - (intOf i).toNat)
  case atStart => exact ⟨0, Nat.zero_le _, rfl, rfl, fun h => absurd h (by omega), Below.refl _ _⟩
  case round =>
    obtain ⟨j, hj, rfl, rfl, H0, KR⟩ := hrel
    have HR := Lib.hid (H.out.on KR.out); have BR := Lib.hid (B0.out.on KR.out)
    have b0 := BR.out.c0; have b1 := BR.out.c1
    by_cases hlt : j < Z.length
    · have hji : (j : Int) < (Z.length : Int) := by omega
      have HK := Lib.hid (KW.out.trans (KR.out.mono KW.out.size))
      cases z with
      | false =>
        have HX := Lib.hid (show (usedS (Z.take j) : Int) = k by
          rcases Nat.eq_zero_or_pos j with h0 | h0
          · rw [h0]; exact HF.out (by first | rfl | trivial)
          · have := H0.out h0; cases this)
        go_wp2_with (go_at_call 16; refine (rmayi_any A N.length c A' Z.length c' N Z _ HR.out false HZ.out).mono ?_; rintro e' w2 ⟨rfl, k2⟩; have K2 := Lib.hid (HK.out.trans (k2.mono HK.out.size)); clear k2)
        rw [HX.out]
        go_ret
        exact ⟨rfl, K2.out⟩
      | true =>
        obtain ⟨b, o, rfl, hb, _⟩ := HR.out.nodes.cells (by omega)
        have HM := Lib.hid (getD_mem' hlt)
        have HU := Lib.hid (used_succ Z j hlt)
        have HE := Lib.hid (HR.out.exts _ HM.out)
        have HN := Lib.hid (fun w' (kk : Below wr.heap.size wr w') => Nds.at (HR.out.nodes.on kk) j hlt)
        have hle := HLE.out j
        have hlt1 : (Z.take j).length * 1000000 ≤ 1000000000 := by rw [List.length_take]; omega
        have hle2 := HL.out _ HM.out
        generalize Z.getD j default = x at *
        obtain ⟨xi, xs, xA, xn, xc, xL⟩ := x
        simp only at HU HE hle2 HN
        have hxl := HE.out.len
        obtain ⟨u, hu⟩ : ∃ u, usedS (Z.take j) = u := ⟨_, rfl⟩
        have HUU := Lib.hid (show usedS (Z.take (j + 1)) = u + xn by rw [HU.out, hu, hxl])
        have hu9 : u ≤ 1000000000 := by omega
        have hxn9 : xn ≤ 1000000 := by omega
        rw [hu]
        clear hu hle hlt1 HU hle2 hxl
        go_wp2_with (go_at_call 16; refine (rmayi_any A N.length c (some ⟨b, o, none⟩) Z.length c' N Z _ HR.out true HZ.out).mono ?_; rintro e' w2 ⟨rfl, k2⟩; have K2 := Lib.hid (KR.out.trans (k2.mono KR.out.size)); obtain ⟨e0, e1, e2⟩ := HN.out _ k2; have B2 := Lib.hid (BR.out.on k2); clear k2 b0 b1; have b0 := B2.out.c0; have b1 := B2.out.c1)
        go_roundw
        case rel => exact ⟨j + 1, by omega, by go_num, by rw [HUU.out]; go_num, fun _ => by first | rfl | trivial, K2.out⟩
        case measure => simp [intOf]; omega
    · have hjn : j = Z.length := by omega
      have HX := Lib.hid (show (usedS (Z.take j) : Int) = k by
        cases hz : z with
        | true => rw [hjn, List.take_length]; exact HT.out hz
        | false =>
          rcases Nat.eq_zero_or_pos j with h0 | h0
          · rw [h0]; exact HF.out hz
          · have := H0.out h0; rw [hz] at this; cases this)
      clear hjn
      rw [HX.out]
      go_wp2
      go_ret
      exact ⟨rfl, KW.out.trans (KR.out.mono KW.out.size)⟩
end Go.Proofs.YtgaaieipeiekiaaGreat

namespace Go.Proofs.YtgaaieipeiekiaaGreat
open Go.RowKit
set_option maxRecDepth 100000

set_option maxHeartbeats 16000000 in
theorem rsame_img (A : Option Addr) (n c : Nat) (A' : Option Addr) (n' c' : Nat) (N : List Nm) (Z : List Nz) (D : Option Addr) (m d : Nat) (D' : Option Addr) (m' d' : Nat) (M : List Nm) (Y : List Nz) (w : World) (h : Im w A n c A' n' c' N Z) (h' : Im w D m d D' m' d' M Y) (z : Bool) (hz : ig N Z = ig M Y ↔ z = true) :
    Calls Tryz.prog 21 #[iv A n c A' n' c', iv D m d D' m' d'] w (TruthPost z w) := by
  have hd : (N = M ∧ Z.map Nz.d = Y.map Nz.d) ↔ z = true := by
    rw [← hz]; show _ ↔ Ig.mk _ _ = Ig.mk _ _
    exact ⟨fun ⟨h1, h2⟩ => by rw [h1, h2], fun h => by injection h with h1 h2; exact ⟨h1, h2⟩⟩
  have HF := Lib.hid (show ¬ (N = M ∧ Z.map Nz.d = Y.map Nz.d) → false = z from fun h => by cases hz : z with | false => rfl | true => exact absurd (hd.2 hz) h)
  obtain ⟨W, hW⟩ : ∃ W, (w.alloc (.cells #[.slice A n c, .slice A' n' c'] 25)).alloc (.cells #[.slice D m d, .slice D' m' d'] 25) = W := ⟨_, rfl⟩
  have KW := Lib.hid (show Below w.heap.size w W by rw [← hW]; exact ((Below.refl _ _).alloc (Nat.le_refl _) _).alloc (by simp) _)
  have B0 := Lib.hid (show IBox W w.heap.size A n c A' n' c' by rw [← hW]; exact (ibox_new _ _ _ _ _ _ _).on ((Below.refl _ _).alloc (Nat.le_refl _) _))
  have B1 := Lib.hid (show IBox W (w.heap.size + 1) D m d D' m' d' by
    rw [← hW]
    have := ibox_new (w.alloc (.cells #[.slice A n c, .slice A' n' c'] 25)) D m d D' m' d'
    simpa using this)
  have H := Lib.hid (h.on KW.out); have H' := Lib.hid (h'.on KW.out); have HD := Lib.hid hd
  have HW := Lib.hid hW
  have hm1 := h.names.max; have hm2 := h.nodes.max; have hm3 := h'.names.max; have hm4 := h'.nodes.max
  clear h h' hz hd hW
  show Calls Tryz.prog 21 #[.agg #[.slice A n c, .slice A' n' c'], .agg #[.slice D m d, .slice D' m' d']] w _
  go_enter Tryz.func21, Tryz.ntmps21
  go_upto_region 1 with fail
  rw [HW.out]
  have b0 := B0.out.c0; have b1 := B0.out.c1; have d0 := B1.out.c0; have d1 := B1.out.c1
  by_cases hl : n = m
  · by_cases hl' : n' = m'
    · subst hl hl'
      go_wp2
      go_loopw [5] (fun i wr => ∃ j : Nat, j ≤ n ∧ i = .int .i64 j ∧ Hid (N.take j = M.take j) ∧ Hid (Below W.heap.size W wr)) (fun i _ => n - (intOf i).toNat)
      case atStart => exact ⟨0, Nat.zero_le _, rfl, rfl, Below.refl _ _⟩
      case round =>
        clear b0 b1 d0 d1
        obtain ⟨j, hj, rfl, HT, KR⟩ := hrel
        have HR := Lib.hid (H.out.on KR.out); have HR' := Lib.hid (H'.out.on KR.out)
        have C0 := Lib.hid (B0.out.on KR.out); have C1 := Lib.hid (B1.out.on KR.out)
        have KX := Lib.hid (KW.out.trans (KR.out.mono KW.out.size))
        have b0 := C0.out.c0; have b1 := C0.out.c1; have d0 := C1.out.c0; have d1 := C1.out.c1
        by_cases hlt : j < n
        · obtain ⟨b, o, rfl, _, _⟩ := HR.out.names.cells (by omega)
          obtain ⟨b', o', rfl, _, _⟩ := HR'.out.names.cells (by omega)
          obtain ⟨x0, x1⟩ := Nms.at HR.out.names j hlt
          obtain ⟨y0, y1⟩ := Nms.at HR'.out.names j hlt
          have hji : (j : Int) < (n : Int) := by omega
          have HS := Lib.hid (show N.getD j default = M.getD j default → N.take (j + 1) = M.take (j + 1) from fun he => by
            rw [getD_take N j (by rw [H.out.names.len]; exact hlt), getD_take M j (by rw [H'.out.names.len]; exact hlt), HT.out, he])
          have HX := Lib.hid (show N.getD j default ≠ M.getD j default → false = z from fun he => HF.out (fun h => he (by rw [h.1])))
          generalize N.getD j default = x at *
          generalize M.getD j default = y at *
          obtain ⟨xn, xk⟩ := x
          obtain ⟨yn, yk⟩ := y
          simp only at x0 x1 y0 y1
          have hxy : ((⟨xn, xk⟩ : Nm) = ⟨yn, yk⟩) ↔ (xn = yn ∧ xk = yk) := ⟨fun h => by injection h with h1 h2; exact ⟨h1, h2⟩, fun ⟨h1, h2⟩ => by rw [h1, h2]⟩
          obtain ⟨q, hq⟩ : ∃ q : Bool, (xn = yn ∧ xk = yk) ↔ q = true := by
            by_cases h : xn = yn ∧ xk = yk
            · exact ⟨true, by simp [h]⟩
            · exact ⟨false, by simp [h]⟩
          have HE : ∀ w', (binOp .neq 62 (.agg #[.string xn, .int .i64 xk]) (.agg #[.string yn, .int .i64 yk])).run Tryz.prog w' = .ok (.bool (!q)) w' := fun w' => run_neqn w' hq
          have HQ := Lib.hid (hxy.trans hq)
          clear hq hxy
          cases q with
          | true =>
            go_wp2
            go_quiet (fail)
            go_wp2
            go_roundw
            case rel => exact ⟨j + 1, by omega, by go_num, HS.out (HQ.out.2 (by first | rfl | trivial)), below_drewN KR.out _⟩
            case measure => simp [intOf]; omega
          | false =>
            go_wp2
            go_quiet (fail)
            go_wp2
            go_ret
            exact ⟨ret_bool (HX.out (fun h => by have := HQ.out.1 h; cases this)), below_drewN KX.out _⟩
        · have HN := Lib.hid (show N = M by
            have := HT.out
            rw [show j = n by omega] at this
            rwa [List.take_of_length_le (Nat.le_of_eq H.out.names.len), List.take_of_length_le (Nat.le_of_eq H'.out.names.len)] at this)
          obtain rfl : j = n := by omega
          have HFz := Lib.hid (show ¬ Z.map Nz.d = Y.map Nz.d → false = z from fun h => HF.out (fun hh => h hh.2))
          go_wp2
          clear b0 b1 d0 d1
          go_loopw [6] (fun i wq => ∃ k : Nat, k ≤ n' ∧ i = .int .i64 k ∧ Hid ((Z.take k).map Nz.d = (Y.take k).map Nz.d) ∧ Hid (Below W.heap.size W wq)) (fun i _ => n' - (intOf i).toNat)
          case atStart => exact ⟨0, Nat.zero_le _, rfl, rfl, KR.out⟩
          case round =>
            clear HR HR' C0 C1 KX KR HT
            obtain ⟨k, hk, rfl, HT, KR⟩ := hrel
            have HR := Lib.hid (H.out.on KR.out); have HR' := Lib.hid (H'.out.on KR.out)
            have C0 := Lib.hid (B0.out.on KR.out); have C1 := Lib.hid (B1.out.on KR.out)
            have KX := Lib.hid (KW.out.trans (KR.out.mono KW.out.size))
            have b0 := C0.out.c0; have b1 := C0.out.c1; have d0 := C1.out.c0; have d1 := C1.out.c1
            by_cases hlt : k < n'
            · obtain ⟨b, o, rfl, hb1, _⟩ := HR.out.nodes.cells (by omega)
              obtain ⟨b', o', rfl, hb2, _⟩ := HR'.out.nodes.cells (by omega)
              have hkZ : k < Z.length := by rw [H.out.nodes.len]; exact hlt
              have hkY : k < Y.length := by rw [H'.out.nodes.len]; exact hlt
              have HXm := Lib.hid (HR.out.exts _ (getD_mem' hkZ)); have HYm := Lib.hid (HR'.out.exts _ (getD_mem' hkY))
              have QX := Lib.hid (fun u : Wb wr => Nds.at (HR.out.nodes.on u.k) k hlt)
              have QY := Lib.hid (fun u : Wb wr => Nds.at (HR'.out.nodes.on u.k) k hlt)
              have hji : (k : Int) < (n' : Int) := by omega
              have HS := Lib.hid (show (Z.getD k default).d = (Y.getD k default).d → (Z.take (k + 1)).map Nz.d = (Y.take (k + 1)).map Nz.d from fun he => by
                rw [getD_take Z k hkZ, getD_take Y k hkY, List.map_append, List.map_append, HT.out, List.map_cons, List.map_cons, he])
              have HX := Lib.hid (show (Z.getD k default).d ≠ (Y.getD k default).d → false = z from fun he => HFz.out (fun h => he (by
                have e1 := map_d_get Z k hkZ
                have e2 := map_d_get Y k hkY
                rw [← e1, ← e2, h])))
              generalize Z.getD k default = x at *
              generalize Y.getD k default = y at *
              obtain ⟨xi, xs, xA, xn, xc, xL⟩ := x
              obtain ⟨yi, ys, yA, yn, yc, yL⟩ := y
              simp only at HXm HYm QX QY
              have x0 := fun u => (QX.out u).1; have x1 := fun u => (QX.out u).2.1; have x2 := fun u => (QX.out u).2.2
              have y0 := fun u => (QY.out u).1; have y1 := fun u => (QY.out u).2.1; have y2 := fun u => (QY.out u).2.2
              have q0 := fun u : Wb wr => (C0.out.on u.k).c1; have q1 := fun u : Wb wr => (C1.out.on u.k).c1
              have hnd : (Nz.d ⟨xi, xs, xA, xn, xc, xL⟩ = Nz.d ⟨yi, ys, yA, yn, yc, yL⟩) ↔ (xi = yi ∧ xs = ys ∧ xL = yL) := by
                show Nd.mk _ _ _ = Nd.mk _ _ _ ↔ _
                exact ⟨fun h => by injection h with h1 h2 h3; exact ⟨h1, h2, h3⟩, fun ⟨h1, h2, h3⟩ => by rw [h1, h2, h3]⟩
              obtain ⟨p, hp⟩ : ∃ p, (decide (xs = ys) && decide (xL = yL)) = p := ⟨_, rfl⟩
              have HP := Lib.hid hp
              clear hp
              have QM : ∀ u : Wb wr, Calls Tryz.prog 17 #[.agg #[.int .i64 xs, .slice xA xn xc], .agg #[.int .i64 ys, .slice yA yn yc]] u.v (fun e w'' => e = .returned (.bool p) ∧ ∃ m : Wb wr, w'' = m.v) := fun u => grew_truth (rsame_any xs xA xn xc xL ys yA yn yc yL _ (HXm.out.on u.k) (HYm.out.on u.k) p HP.out)
              by_cases hi : xi = yi
              · have hi' : (xi != yi) = false := by simpa using hi
                have HI := Lib.hid hi
                clear hi
                cases p with
                | true =>
                  have HA := Lib.hid (HS.out (hnd.2 (by have := HP.out; simp only [Bool.and_eq_true, decide_eq_true_eq] at this; exact ⟨HI.out, this.1, this.2⟩)))
                  clear hnd
                  go_wp2
                  refine wp_region_grew (by kernel_rfl) (by kernel_rfl) ?_
                  repeat (go_big_quiet_step (first | (go_at_call 17; with_reducible exact QM _)))
                  refine wpQuiet_nil ?_
                  rintro _ ⟨⟨w6, k6⟩, rfl⟩
                  try dsimp only
                  have K6 := Lib.hid (KR.out.trans (k6.mono KR.out.size))
                  clear k6
                  go_wp2
                  go_roundw
                  case rel => exact ⟨k + 1, by omega, by go_num, HA.out, K6.out⟩
                  case measure => simp [intOf]; omega
                | false =>
                  have HA := Lib.hid (HX.out (fun h => by
                    obtain ⟨_, h2, h3⟩ := hnd.1 h
                    have := HP.out
                    simp [h2, h3] at this))
                  clear hnd
                  go_wp2
                  refine wp_region_grew (by kernel_rfl) (by kernel_rfl) ?_
                  repeat (go_big_quiet_step (first | (go_at_call 17; with_reducible exact QM _)))
                  refine wpQuiet_nil ?_
                  rintro _ ⟨⟨w6, k6⟩, rfl⟩
                  try dsimp only
                  have K6 := Lib.hid (KX.out.trans (k6.mono KX.out.size))
                  clear k6
                  go_wp2
                  go_ret
                  exact ⟨ret_bool HA.out, K6.out⟩
              · have hi' : (xi != yi) = true := by simpa using hi
                have HA := Lib.hid (HX.out (fun h => hi (hnd.1 h).1))
                clear hi hnd
                go_wp2
                refine wp_region_grew (by kernel_rfl) (by kernel_rfl) ?_
                repeat (go_big_quiet_step (first | (go_at_call 17; with_reducible exact QM _)))
                refine wpQuiet_nil ?_
                rintro _ ⟨⟨w6, k6⟩, rfl⟩
                try dsimp only
                have K6 := Lib.hid (KX.out.trans (k6.mono KX.out.size))
                clear k6
                go_wp2
                go_ret
                exact ⟨ret_bool HA.out, K6.out⟩
            · have HX := Lib.hid (show true = z from (HD.out.1 ⟨HN.out, by
                have := HT.out
                rw [show k = n' by omega] at this
                rwa [List.take_of_length_le (Nat.le_of_eq H.out.nodes.len), List.take_of_length_le (Nat.le_of_eq H'.out.nodes.len)] at this⟩).symm)
              go_wp2
              go_ret
              exact ⟨ret_bool HX.out, KX.out⟩
    · have HX := Lib.hid (HF.out fun h => hl' (by rw [← H.out.nodes.len, ← H'.out.nodes.len]; have := congrArg List.length h.2; simpa using this))
      have hq' : ((n' : Int) != (m' : Int)) = true := by simp; omega
      subst hl
      go_wp2
      go_ret
      exact ⟨ret_bool HX.out, KW.out⟩
  · have HX := Lib.hid (HF.out fun h => hl (by rw [← H.out.names.len, ← H'.out.names.len, h.1]))
    have hq' : ((n : Int) != (m : Int)) = true := by simp; omega
    go_wp2
    go_ret
    exact ⟨ret_bool HX.out, KW.out⟩
end Go.Proofs.YtgaaieipeiekiaaGreat
