/- Contract of the reference's WriteContent. -/
import Derived.Test.YtigfimlpjmmpoaaSpecG
import Derived.WalkKit
import Derived.WalkSpells
import Derived.WalkLawsBesides
import Derived.Lib.Hide
import Derived.BigQuiet
import Derived.StillTailTactics
namespace Go.Proofs.Ytigfimlpjmmpoaa
open Go.RowKit

/-- A byte of the list is stored. -/
theorem Grow.byte {b : Nat} {s : Int} {mx : Nat} {R R' : List Ex → Prop} {w W : World} {g o n c : Nat} {M : List Ex} (h : Grow b s mx R w W (some ⟨g, o, none⟩) n c M) (hbw : b ≤ w.heap.size) (j r : Nat) (hj : j < n) (hr : r < 8) (x : Int) (hx : 0 ≤ x ∧ x ≤ 255) (e : Ex) (he : M.getD j default = e)
    (hR : R' (M.set j ⟨e.no, splice e.bs r [x]⟩)) : Grow b s mx R' w (W.setCell ⟨g, o + j * 9 + 1 + r, none⟩ (.int .u8 x)) (some ⟨g, o, none⟩) n c (M.set j ⟨e.no, splice e.bs r [x]⟩) := by
  obtain ⟨h1, h2, h3⟩ := h.list.own g o rfl
  have hs := h.size
  have hok := h.list.exts.get j hj
  rw [he] at hok
  have hp := h.list.exts.put j (1 + r) [Value.int .u8 x] ⟨e.no, splice e.bs r [x]⟩ hj (by simp; omega) (ok_splice hok r [x] (by simp; omega) (by intro y hy; rw [List.mem_singleton] at hy; subst hy; exact hx)) (by rw [he, splice_bytes]; rfl)
  have hw : W.setCells g (o + j * 9 + (1 + r)) [Value.int .u8 x] = W.setCell ⟨g, o + j * 9 + 1 + r, none⟩ (.int .u8 x) := by
    rw [← Nat.add_assoc]; rfl
  rw [hw] at hp
  have o1 : Only (fun d => d = g) W (W.setCell ⟨g, o + j * 9 + 1 + r, none⟩ (.int .u8 x)) := (Only.refl (fun d => d = g) W).setCell ⟨g, o + j * 9 + 1 + r, none⟩ (fun _ => rfl) _
  refine ⟨Row.only h.box o1 (by omega), ⟨hp, fun g' o' hh => ?_⟩, h.le, hR, Row.only h.res o1 (by omega), h.below.trans (o1.below (Nat.le_trans hbw h.below.size) (fun d hd => by omega)), Nat.le_trans h.size o1.size⟩
  injection hh with hh; injection hh with e1 e2; subst e1 e2
  refine ⟨h1, Nat.lt_of_lt_of_le h2 o1.size, fun q => ?_⟩
  rw [← hw, World.frozen?_setCells]
  exact h3 q

set_option maxRecDepth 100000 in
set_option maxHeartbeats 8000000 in
theorem rwrite_any (s : Int) (A : Option Addr) (n c : Nat) (L : List Ex) (p : Int) (BA : Option Addr) (nb cb : Nat) (bs : List Int) (w : World) (h : Exts w A n c L) (hn : n ≤ 10000) (p9 : -9223372036854775808 ≤ p ∧ p ≤ 9223372036854775807) (hb : Nums .u8 w BA nb cb bs) (hb8 : ∀ x ∈ bs, 0 ≤ x ∧ x ≤ 255) (z : Bool) (hz : ((eo p (nb : Int)).isSome && decide (nb ≤ 4096) && may s L) = z) :
    Calls Try.prog 24 #[ct s A n c, .int .i64 p, .slice BA nb cb] w (CtPost z (if z = true then wsz s p nb else 0) (fun M => if z = true then WR L p bs M else M = []) w) := by
  have D0 := Lib.hid (duo_new w s A n c)
  have H := Lib.hid h
  have HZ := Lib.hid hz
  have HB := Lib.hid hb; have HB8 := Lib.hid hb8
  have hmx := h.max
  have hbm : nb ≤ 9223372036854775807 := by have := hb.le; have := hb.mx; unfold maxLen at this; omega
  clear h hz hb hb8
  show Calls Try.prog 24 #[.agg #[.int .i64 s, .slice A n c], .int .i64 p, .slice BA nb cb] w _
  go_enter Try.func24, Try.ntmps24
  go_wp2_with fail
  obtain ⟨y, hy⟩ : ∃ y, may s L = y := ⟨_, rfl⟩
  have HY := Lib.hid hy
  clear hy
  refine (rmay_any s A n c L _ (H.out.on D0.out.below) y HY.out).mono ?_
  rintro e w1 ⟨rfl, k1⟩
  have D1 := Lib.hid (D0.out.on k1)
  clear k1 D0
  have c0 := D1.out.b0.c0; have c1 := D1.out.b0.c1; have d0 := D1.out.b1.c0; have d1 := D1.out.b1.c1; have f0 := D1.out.b1.f0; have f1 := D1.out.b1.f1
  cases y with
  | false =>
    have hzy : false = z := by rw [← HZ.out, HY.out]; simp
    subst hzy
    go_wp2
    refine res_box2 rfl (w.heap.size + 1) 0 none 0 0 rfl D1.out.none.1 rfl ?_
    exact ⟨none, 0, 0, [], rfl, rfl, D1.out.none.2.1, D1.out.none.2.2⟩
  | true =>
    by_cases t0 : 0 ≤ p
    · by_cases t2 : nb ≤ 4096
      · have t2i : (nb : Int) ≤ 4096 := by omega
        by_cases t3 : p ≤ 1099511627776 - (nb : Int)
        · have hzy : true = z := by
            rw [← HZ.out, HY.out]
            have he : (eo p (nb : Int)).isSome = true := by
              cases he : eo p (nb : Int) with
              | some _ => rfl
              | none => exact absurd ⟨t0, by omega, by omega⟩ (eo_none he)
            simp [he, t2]
          subst hzy
          have HG := Lib.hid ((may_iff s L).1 HY.out)
          obtain ⟨hs0, hs1⟩ : 0 ≤ s ∧ s ≤ 1099511627776 := ⟨HG.out.s0, HG.out.s1⟩
          go_wp2_with fail
          refine (copy_any s A n c L w1 (H.out.on D1.out.below) (by omega)).mono ?_
          rintro e w2 ⟨A2, c2, rfl, m2, k2⟩
          rw [H.out.len] at m2 ⊢
          have D2 := Lib.hid (D1.out.on k2)
          have G2 := Lib.hid (grow_start D1.out k2 m2 (WR L p (bs.take 0)) (wr_zero HG.out.up p))
          clear c0 c1 d0 d1 f0 f1 m2
          have c0 := D2.out.b0.c0; have c1 := D2.out.b0.c1; have g0 := D2.out.b0.f0; have g1 := D2.out.b0.f1
          unfold ct
          go_wp2
          go_loopw [8] (fun i wr => ∃ j : Nat, i = .int .i64 (j : Int) ∧ j ≤ nb ∧ Hid (∃ A3 n3 c3 M3, Grow w.heap.size s (n + j) (WR L p (bs.take j)) w wr A3 n3 c3 M3)) (fun i _ => nb - (intOf i).toNat)
          case atStart => exact ⟨0, rfl, Nat.zero_le _, ⟨_, _, _, _, G2.out⟩⟩
          case round =>
            clear G2 c0 c1 g0 g1
            obtain ⟨j, rfl, hj, G⟩ := hrel
            obtain ⟨A3, n3, c3, M3, G3x⟩ := G.out
            have G3 := Lib.hid G3x
            clear G3x G
            have c0 := G3.out.box.c0; have c1 := G3.out.box.c1; have g0 := G3.out.box.f0; have g1 := G3.out.box.f1
            have d0 := G3.out.res.c0; have d1 := G3.out.res.c1; have f0 := G3.out.res.f0; have f1 := G3.out.res.f1
            by_cases hlt : j < nb
            · have hji : (j : Int) < (nb : Int) := by omega
              obtain ⟨no, hno, no0, no1, hne⟩ : ∃ no : Int, (p + (j : Int)).tdiv 8 = no ∧ 0 ≤ no ∧ no ≤ 137438953472 ∧ (p + (j : Int)) / 8 = no := ⟨_, rfl, by rw [Int.tdiv_eq_ediv_of_nonneg (by omega)]; omega, by rw [Int.tdiv_eq_ediv_of_nonneg (by omega)]; omega, by rw [Int.tdiv_eq_ediv_of_nonneg (by omega)]⟩
              obtain ⟨r, hr, hr8, hre⟩ : ∃ r : Nat, (p + (j : Int)).tmod 8 = (r : Int) ∧ r < 8 ∧ (p + (j : Int)) % 8 = (r : Int) := ⟨((p + (j : Int)) % 8).toNat, by rw [Int.tmod_eq_emod_of_nonneg (by omega)]; omega, by omega, by omega⟩
              have HNE := Lib.hid hne; have HRE := Lib.hid hre
              clear hne hre
              go_wp2_with fail
              refine (need_any w.heap.size (w.heap.size + 2) s A3 n3 c3 M3 no wr G3.out.box G3.out.list (by have := G3.out.le; omega) G3.out.is.1 G3.out.size).mono ?_
              rintro e w4 ⟨A4, c4, rfl, b4, m4, o4⟩
              have HNX := Lib.hid (WR.next (no := no) (r := r) H.out.ok G3.out.is (by rw [HB.out.len]; exact hlt) HNE.out HRE.out)
              have hIA := ins_at G3.out.is.1 no
              have G4 := Lib.hid (G3.out.next (mx' := n + (j + 1)) (R' := fun _ => True) b4 m4 (by have := ins_len M3 no; have := G3.out.le; have := G3.out.list.exts.len; omega) trivial o4 (Nat.le_refl _))
              clear b4 m4 o4 c0 c1 d0 d1 f0 f1 g0 g1
              obtain ⟨k, hk⟩ : ∃ k, idx M3 no = k := ⟨_, rfl⟩
              obtain ⟨M4, hM4⟩ : ∃ M, ins M3 no = M := ⟨_, rfl⟩
              obtain ⟨n4, hn4⟩ : ∃ m, M4.length = m := ⟨_, rfl⟩
              rw [hk, hM4] at hIA HNX
              rw [hk]
              rw [hM4, hn4] at G4
              rw [hn4] at hIA
              obtain ⟨hkn, hIE⟩ := hIA
              obtain ⟨g, o, rfl, hgl, _⟩ := G4.out.list.exts.cells (by omega)
              have HIE := Lib.hid hIE
              obtain ⟨sb, so, rfl, hsbl, hsc⟩ := HB.out.cells (by omega)
              have hx0 := hsc j hlt
              have hx1 := (G4.out.below.cell (p := ⟨sb, so + j, none⟩) hsbl).trans hx0
              have hx8 := HB8.out (bs.getD j 0) (by rw [List.getD_eq_getElem?_getD, List.getElem?_eq_getElem (by rw [HB.out.len]; exact hlt)]; exact List.getElem_mem _)
              clear hsc hx0 hIE hk hM4 hn4
              generalize bs.getD j 0 = x at *
              have cb := G4.out.list.exts.byte k hkn r hr8
              have fb := (G4.out.list.own g o rfl).2.2 (o + k * 9 + 1 + r)
              have c1 := G4.out.box.c1
              generalize (M4.getD k default).bs.getD r 0 = x0 at cb
              have hk0 : (0 : Int) ≤ (k : Int) := by omega
              have hk1 : (k : Int) < (n4 : Int) := by omega
              have hr0 : (0 : Int) ≤ (r : Int) := by omega
              have hr1 : (r : Int) < 8 := by omega
              have hj0 : (0 : Int) ≤ (j : Int) := by omega
              have hwr : IntKind.i64.wrap (p + (j : Int)) = p + (j : Int) := IntWalk.i64_in _ (by omega)
              go_wp2
              go_still_tail 14, (by kernel_rfl)
              have G5 := Lib.hid ((G4.out.on (below_drewN (Below.refl _ _) 1) (Nat.le_refl _)).byte (R' := WR L p (bs.take (j + 1))) (Nat.le_refl _) k r hkn hr8 x hx8 ⟨no, (look M3 no).getD nul8⟩ HIE.out HNX.out)
              go_wp2
              go_roundw
              case rel => exact ⟨j + 1, by go_num, by omega, ⟨_, _, _, _, G5.out⟩⟩
              case measure => simp [intOf]; omega
            · obtain rfl : j = nb := by omega
              have HE := Lib.hid (show WR L p bs M3 from by have := G3.out.is; rwa [List.take_of_length_le (by rw [HB.out.len]; exact Nat.le_refl _)] at this)
              by_cases g0x : 0 < j
              · have g0i : (0 : Int) < (j : Int) := by omega
                by_cases g : s < p + (j : Int)
                · have HV := Lib.hid (show wsz s p j = p + (j : Int) by simp [wsz, show j ≠ 0 by omega]; omega)
                  have G4 := Lib.hid (G3.out.size0 (Nat.le_refl _) (p + (j : Int)))
                  go_wp2
                  all_goals
                    have X := G4.out.done (p + (j : Int))
                    refine res_box2 rfl (w.heap.size + 1) (p + (j : Int)) A3 n3 c3 rfl X.1 rfl ?_
                    exact ⟨A3, n3, c3, M3, by rw [HV.out]; rfl, HE.out, X.2.1, X.2.2⟩
                · have g1x : p + (j : Int) ≤ s := by omega
                  have HV := Lib.hid (show wsz s p j = s by simp [wsz, show j ≠ 0 by omega]; omega)
                  have G4 := Lib.hid (G3.out.size0 (Nat.le_refl _) s)
                  go_wp2
                  all_goals
                    have X := G4.out.done s
                    refine res_box2 rfl (w.heap.size + 1) s A3 n3 c3 rfl X.1 rfl ?_
                    exact ⟨A3, n3, c3, M3, by rw [HV.out]; rfl, HE.out, X.2.1, X.2.2⟩
              · have g0i : ¬ (0 : Int) < (j : Int) := by omega
                have HV := Lib.hid (show wsz s p j = s by simp [wsz, show j = 0 by omega])
                go_wp2
                have X := G3.out.done s
                refine res_box2 rfl (w.heap.size + 1) s A3 n3 c3 rfl X.1 rfl ?_
                exact ⟨A3, n3, c3, M3, by rw [HV.out]; rfl, HE.out, X.2.1, X.2.2⟩
        · have hzy : false = z := by
            rw [← HZ.out]
            cases he : eo p (nb : Int) with
            | none => rfl
            | some d => obtain ⟨x1, x2, x3, x4⟩ := eo_some he; exact absurd x1 (by omega)
          subst hzy
          go_wp2
          refine res_box2 rfl (w.heap.size + 1) 0 none 0 0 rfl D1.out.none.1 rfl ?_
          exact ⟨none, 0, 0, [], rfl, rfl, D1.out.none.2.1, D1.out.none.2.2⟩
      · have t2i : ¬ (nb : Int) ≤ 4096 := by omega
        have hzy : false = z := by rw [← HZ.out]; simp [t2]
        subst hzy
        go_wp2
        refine res_box2 rfl (w.heap.size + 1) 0 none 0 0 rfl D1.out.none.1 rfl ?_
        exact ⟨none, 0, 0, [], rfl, rfl, D1.out.none.2.1, D1.out.none.2.2⟩
    · have hzy : false = z := by
        rw [← HZ.out]
        cases he : eo p (nb : Int) with
        | none => rfl
        | some d => obtain ⟨x1, x2, x3, x4⟩ := eo_some he; exact absurd x1 (by omega)
      subst hzy
      go_wp2
      refine res_box2 rfl (w.heap.size + 1) 0 none 0 0 rfl D1.out.none.1 rfl ?_
      exact ⟨none, 0, 0, [], rfl, rfl, D1.out.none.2.1, D1.out.none.2.2⟩
end Go.Proofs.Ytigfimlpjmmpoaa
