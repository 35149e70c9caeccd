/- Contract of conv's New. -/
import Derived.Test.YtghihmmapignmaaConvG
import Derived.WalkKit
import Derived.WalkSpells
import Derived.WalkLawsBesides
import Derived.Lib.Hide
import Derived.Deep.RegionHeld3
namespace Go.Proofs.Ytghihmmapignmaa
open Go.RowKit

section
variable {ops : Array Oper} {rest : List Oper} {o : Oper} {a : Act} {w : World} {Q : Exit → Act → World → Prop}
/-- The variable gets other conversions. -/
theorem st_storec (hgd : o.guard = none) (x y : Operand) (ho : o.op = .store 23 x y) (b : Nat) (hx : a.eval x = .pointer (some ⟨b, 0, none⟩)) (p q : Cf) (hy : a.eval y = p.val) (hr : Row w b 23 q.cells)
    (h : ∀ w1 : World, Row w1 b 23 p.cells → Only (fun d => d = b) w w1 → wpList Try.prog ops Q rest (a.put o.dst undef) w1) : wpList Try.prog ops Q (o :: rest) a w := by
  refine wpList_plain hgd fun K hK => ?_
  unfold Oper.wp execOp
  have hrun := run_storeVar_row w b 23 23 q.cells p.cells (P := Try.prog) hr size23 rfl (by simp [Cf.cells, Value.oneCell'])
  simp only [ho, hx, hy, Cf.val, Instr.storeAt, Instr.sureAddr, Sem.run_bind, Sem.run_pure, Result.andThen_ok, hrun]
  exact hK _ _ (h _ (setRow_heap w b _ _ 23 (0, 0) hr) ⟨rfl, rfl, rfl, by simp, fun k _ hn => setRow_other w b k _ hn⟩)
end

def NewCPost (x : Cf) (w : World) (e : Ending) (w' : World) : Prop :=
  ∃ b sb pb T, e = .returned (.pointer (some ⟨b, 0, none⟩)) ∧ Cw b sb pb x.eff [] [] 0 w' T ∧ (∀ d, Bs b sb T d → w.heap.size ≤ d) ∧ Below w.heap.size w w'

theorem Row.setv {w : World} {b : Nat} {t : TypeId} {c : Array Value} (h : Row w b t c) (k : Nat) (x : Value) : Row (w.setCell ⟨b, k, none⟩ x) b t (c.setIfInBounds k x) := heap_setCell_same w b k c t x h
theorem cvC_p (v : Value) (t1 t2 : List Int) (p u q : Value) (h1 : t1.length = 256) (h2 : t2.length = 256) : (cvC v t1 t2 p u).setIfInBounds 513 q = cvC v t1 t2 q u := by
  apply Array.ext_getElem?
  intro i
  rw [Array.getElem?_setIfInBounds, cvC_size _ _ _ _ _ h1 h2, cvC_at _ _ _ _ _ h1 h2, cvC_at _ _ _ _ _ h1 h2]
  by_cases hi : 513 = i
  · subst hi; simp
  · rw [if_neg hi, if_neg (show ¬ i = 513 by omega), if_neg (show ¬ i = 513 by omega)]
theorem cvC_u (v : Value) (t1 t2 : List Int) (p u q : Value) (h1 : t1.length = 256) (h2 : t2.length = 256) : (cvC v t1 t2 p u).setIfInBounds 514 q = cvC v t1 t2 p q := by
  apply Array.ext_getElem?
  intro i
  rw [Array.getElem?_setIfInBounds, cvC_size _ _ _ _ _ h1 h2, cvC_at _ _ _ _ _ h1 h2, cvC_at _ _ _ _ _ h1 h2]
  by_cases hi : 514 = i
  · subst hi; simp
  · rw [if_neg hi, if_neg (show ¬ i = 514 by omega), if_neg (show ¬ i = 514 by omega)]

/-- A Conv known whole. -/
theorem cw_of {w : World} {b sb pb : Nat} {x : Cf} {T : Nat → Prop} (hm : x.may = true) (hr : Row w b 65 (cvC (.pointer (some ⟨sb, 0, none⟩)) x.t1 x.t2 (ptrP x pb) (ptrU x pb))) (hs : Sw w sb x.sw []) (hR : Rec x pb [] 0 w T) (hne : sb ≠ b) (ha : ∀ d, T d → d ≠ b ∧ d ≠ sb) : Cw b sb pb x [] [] 0 w T := by
  have h1 := (good_t1 x).1; have h2 := (good_t2 x).1
  have hc := cvC_at (.pointer (some ⟨sb, 0, none⟩)) x.t1 x.t2 (ptrP x pb) (ptrU x pb) h1 h2
  have s1 : (cs x.t1).size = 256 := by rw [cs_size, h1]
  have s2 : (cs x.t2).size = 256 := by rw [cs_size, h2]
  refine ⟨hm, hr.lt, hne, by rw [hr.at, hc]; rfl, fun j v hv => ?_, fun j v hv => ?_, by rw [hr.at, hc]; simp, by rw [hr.at, hc]; simp, hs, hR, ha, Are.nil, Are.nil, ok_nil x⟩
  · have hj : j < 256 := by
      by_cases hj : j < 256
      · exact hj
      · rw [List.getElem?_eq_none (by rw [List.length_map, h1]; omega)] at hv; cases hv
    rw [hr.at, hc, if_neg (by omega), if_pos (by omega), show 1 + j - 1 = j by omega]
    rw [← hv]; simp [cs]
  · have hj : j < 256 := by
      by_cases hj : j < 256
      · exact hj
      · rw [List.getElem?_eq_none (by rw [List.length_map, h2]; omega)] at hv; cases hv
    rw [hr.at, hc, if_neg (by omega), if_neg (by omega), if_pos (by omega), show 257 + j - 257 = j by omega]
    rw [← hv]; simp [cs]

set_option maxRecDepth 100000 in
set_option maxHeartbeats 8000000 in
theorem newc_any (x : Cf) (w : World) : Calls Try.prog 16 #[x.val] w (NewCPost x w) := by
  have CM := Lib.hid (may_any x)
  have EF : ∃ y, x.eff = y := ⟨_, rfl⟩
  obtain ⟨y, hy⟩ := EF
  have HY := Lib.hid hy
  have MY := Lib.hid (show y.may = true by rw [← hy]; exact eff_may x)
  have EM := Lib.hid (show (x.may = true → x = y) ∧ (x.may = false → Cf.zero = y) from ⟨fun h => by rw [← hy, eff_of h], fun h => by rw [← hy, eff_not h]⟩)
  have FT := Lib.hid (Cf.fit MY.out)
  have CA := Lib.hid (ahead_any y); have CB := Lib.hid (behind_any y)
  have KB := Lib.hid (blocks_any y); have KU := Lib.hid (unblocks_any y)
  have L1 := Lib.hid (good_t1 y).1; have L2 := Lib.hid (good_t2 y).1
  have B0 := Lib.hid (row_new w x.cells 23)
  have WF := Lib.hid (fun (W : World) (b sb pb : Nat) (T : Nat → Prop) => @cw_of W b sb pb y T MY.out)
  clear hy
  obtain ⟨u1, hu1⟩ : ∃ u1, y.t1 = u1 := ⟨_, rfl⟩
  obtain ⟨u2, hu2⟩ : ∃ u2, y.t2 = u2 := ⟨_, rfl⟩
  rw [hu1] at CA L1 WF
  rw [hu2] at CB L2 WF
  clear hu1 hu2
  generalize hmy : x.may = z at *
  have HX : x.val = .agg #[.bool x.sw, .bool x.bl, .bool x.ub, .bool x.lc, .bool x.uc, .bool x.ac, .bool x.eb, .bool x.ib, .int .i64 x.cb] := rfl
  rw [HX]
  clear HX hmy
  go_enter Try.func16, Try.ntmps16
  go_wp2_with fail
  refine (CM.out _).mono ?_
  rintro e w1 ⟨rfl, k1⟩
  have K1 := Lib.hid (((Below.refl _ w).alloc (Nat.le_refl _) (.cells x.cells 23)).trans (k1.mono (by simp)))
  have R1 := Lib.hid (show Row w1 w.heap.size 23 x.cells from B0.out.on k1)
  clear k1 B0
  cases z
  · have EZ := Lib.hid (EM.out.2 rfl)
    go_wp2_with (refine st_storec rfl _ _ rfl w.heap.size rfl Cf.zero x rfl R1.out ?_)
    intro w2 q1 q2
    have R2 := Lib.hid (show Row w2 w.heap.size 23 y.cells by rw [← EZ.out]; exact q1)
    have K2 := Lib.hid (K1.out.trans (q2.below K1.out.size (fun d hd => by rw [hd]; exact Nat.le_refl _)))
    clear q1 q2 EZ R1 K1
    clear EM CM
    have KD := Lib.hid (K2.out.drew)
    have RD := Lib.hid (show Row w2.drew w.heap.size 23 y.cells from R2.out)
    clear R2
    go_wp2_with fail
    have hS := RD.out
    refine wp_region_held_drew (S := fun w' => Row w' w.heap.size 23 y.cells) (by kernel_rfl) hS (fun hHeld => ?_)
    clear hS
    show wpAnyH _ _ _ _ _ 10 _ _ _
    refine take_at 0 8 (v := ?vp0) (fuel := 9) rfl rfl (by kernel_rfl) (by kernel_rfl) (by kernel_rfl) (fun _ _ _ h => h) (by rfl) hHeld ?hyp0 ?restp0
    case hyp0 => (intro w' hSw; (try dsimp only at hSw); go_simp <;> with_reducible rfl)
    simp only [Act.put, List.setIfInBounds_toArray, List.set_cons_zero, List.set_cons_succ]
    refine take_at 1 9 (v := .bool y.sw) (fuel := 8) rfl rfl (by kernel_rfl) (by kernel_rfl) (by kernel_rfl) (fun _ _ _ h => h) (by rfl) hHeld ?hyxp ?restxp
    case hyxp => (intro w' hSw; have cc := (box_of_row hSw).c0; go_simp <;> with_reducible rfl)
    simp only [Act.put, List.setIfInBounds_toArray, List.set_cons_zero, List.set_cons_succ]
    refine take_box 3 11 (fuel := 7) _ w.heap.size y rfl rfl (by kernel_rfl) (by kernel_rfl) (by kernel_rfl) (fun _ _ _ h => h) (by rfl) hHeld rfl rfl (fun _ h => h) ?_
    simp only [Act.put, List.setIfInBounds_toArray, List.set_cons_zero, List.set_cons_succ]
    refine take_box 5 13 (fuel := 6) _ w.heap.size y rfl rfl (by kernel_rfl) (by kernel_rfl) (by kernel_rfl) (fun _ _ _ h => h) (by rfl) hHeld rfl rfl (fun _ h => h) ?_
    simp only [Act.put, List.setIfInBounds_toArray, List.set_cons_zero, List.set_cons_succ]
    refine wpAnyH_ready (rs := [2]) (fuel := 5) (by kernel_rfl) (by simp) ?_
    refine AllReadyH.cons rfl (fun Kq hK => ?_) AllReadyH.nil
    go_simp
    refine (snew_any y.sw _).mono ?_
    rintro e w3 ⟨sb, rfl, F3, s3, k3⟩
    have R3 := Lib.hid (RD.out.on k3); have S3 := Lib.hid F3; have K3 := Lib.hid (KD.out.trans (k3.mono KD.out.size)); have L3 := Lib.hid s3
    go_simp
    refine hK.out _ _ R3.out (fun hH1 => ?_)
    clear hK Kq hHeld F3 s3 k3
    (try simp only [Act.put, List.setIfInBounds_toArray, List.set_cons_zero, List.set_cons_succ])
    refine wpAnyH_ready (rs := [4]) (fuel := 4) (by kernel_rfl) (by simp) ?_
    refine AllReadyH.cons rfl (fun Kq hK => ?_) AllReadyH.nil
    go_simp
    refine (CA.out _).mono ?_
    rintro e w4 ⟨rfl, k4⟩
    have R4 := Lib.hid (R3.out.on k4); have S4 := Lib.hid (S3.out.on' k4); have K4 := Lib.hid (K3.out.trans (k4.mono K3.out.size))
    go_simp
    refine hK.out _ _ R4.out (fun hH2 => ?_)
    clear hK Kq hH1 k4
    (try simp only [Act.put, List.setIfInBounds_toArray, List.set_cons_zero, List.set_cons_succ])
    refine wpAnyH_ready (rs := [6]) (fuel := 3) (by kernel_rfl) (by simp) ?_
    refine AllReadyH.cons rfl (fun Kq hK => ?_) AllReadyH.nil
    go_simp
    refine (CB.out _).mono ?_
    rintro e w5 ⟨rfl, k5⟩
    have R5 := Lib.hid (R4.out.on k5); have S5 := Lib.hid (S4.out.on' k5); have K5 := Lib.hid (K4.out.trans (k5.mono K4.out.size))
    go_simp
    refine hK.out _ _ R5.out (fun hH3 => ?_)
    clear hK Kq hH2 k5
    (try simp only [Act.put, List.setIfInBounds_toArray, List.set_cons_zero, List.set_cons_succ])
    refine wpAnyH_ready (rs := [7]) (fuel := 2) (by kernel_rfl) (by simp) ?_
    refine AllReadyH.cons rfl (fun Kq hK => ?_) AllReadyH.nil
    refine step_build rfl _ rfl (cvC (.pointer (some ⟨sb, 0, none⟩)) u1 u2 (.pointer none) (.pointer none)) (by simpa [Act.eval] using built_conv (.pointer (some ⟨sb, 0, none⟩)) rfl u1 u2 L1.out L2.out) ?_
    go_simp
    refine hK.out _ _ hH3 (fun hH4 => ?_)
    clear hK Kq hH3
    (try simp only [Act.put, List.setIfInBounds_toArray, List.set_cons_zero, List.set_cons_succ])
    refine wpAnyH_ready (rs := [8]) (fuel := 1) (by kernel_rfl) (by simp) ?_
    refine AllReadyH.cons rfl (fun Kq hK => ?_) AllReadyH.nil
    refine step_box rfl _ rfl (cvC (.pointer (some ⟨sb, 0, none⟩)) u1 u2 (.pointer none) (.pointer none)) rfl ?_
    intro v w6 r6 k6 l6
    have R6 := Lib.hid (R5.out.on k6); have S6 := Lib.hid (S5.out.on' k6); have K6 := Lib.hid (K5.out.trans (k6.mono K5.out.size)); have V6 := Lib.hid r6
    go_simp
    refine hK.out _ _ R6.out (fun hH5 => ?_)
    clear hK Kq hH4 k6 r6
    (try simp only [Act.put, List.setIfInBounds_toArray, List.set_cons_zero, List.set_cons_succ])
    refine take_at 9 3 (v := ?vp9) (fuel := 0) rfl rfl (by kernel_rfl) (by kernel_rfl) (by kernel_rfl) (fun _ _ _ h => h) (by rfl) hH5 ?hyp9 ?restp9
    case hyp9 => (intro w' hSw; (try dsimp only at hSw); go_simp <;> with_reducible rfl)
    simp only [Act.put, List.setIfInBounds_toArray, List.set_cons_zero, List.set_cons_succ]
    refine wpAnyH_done (by kernel_rfl) ?_ _
    clear hH5
    cases hbl : y.blocks
    · have HBL := Lib.hid hbl
      rw [hbl] at KB
      clear hbl
      obtain ⟨_, c0, c1, c2, c3, c4, c5, c6, c7, c8⟩ := box_of_row R6.out
      simp only [Nat.zero_add] at c1 c2 c3 c4 c5 c6 c7 c8
      go_wp2_with fail
      refine (KB.out _).mono ?_
      rintro e w7 ⟨rfl, k7⟩
      have R7 := Lib.hid (R6.out.on k7); have S7 := Lib.hid (S6.out.on' k7); have K7 := Lib.hid (K6.out.trans (k7.mono K6.out.size)); have V7 := Lib.hid (V6.out.on k7)
      clear c0 c1 c2 c3 c4 c5 c6 c7 c8
      clear k7
      cases hul : y.unblocks
      · have HUL := Lib.hid hul
        rw [hul] at KU
        clear hul
        obtain ⟨_, c0, c1, c2, c3, c4, c5, c6, c7, c8⟩ := box_of_row R7.out
        simp only [Nat.zero_add] at c1 c2 c3 c4 c5 c6 c7 c8
        go_wp2_with fail
        refine (KU.out _).mono ?_
        rintro e w8 ⟨rfl, k8⟩
        have R8 := Lib.hid (R7.out.on k8); have S8 := Lib.hid (S7.out.on' k8); have K8 := Lib.hid (K7.out.trans (k8.mono K7.out.size)); have V8 := Lib.hid (V7.out.on k8)
        clear c0 c1 c2 c3 c4 c5 c6 c7 c8
        clear k8
        have HF := Lib.hid (WF.out w8 v sb 0 (fun _ => False) (by rw [ptrP, ptrU, HBL.out, HUL.out]; exact V8.out) S8.out (.inr (.inr ⟨HBL.out, HUL.out, rfl, fun _ h => h⟩)) (by have := S5.out.lt; omega) (fun _ h => h.elim))
        go_wp2_with fail
        go_ret
        refine ⟨v, sb, 0, (fun _ => False), rfl, by rw [HY.out]; exact HF.out, ?_, K8.out⟩
        rintro d (hd | hd | hd)
        · rw [hd]; exact Nat.le_trans K5.out.size l6
        · rw [hd]; exact Nat.le_trans KD.out.size L3.out
        · exact hd.elim
      · have HUL := Lib.hid hul
        rw [hul] at KU
        clear hul
        obtain ⟨_, c0, c1, c2, c3, c4, c5, c6, c7, c8⟩ := box_of_row R7.out
        simp only [Nat.zero_add] at c1 c2 c3 c4 c5 c6 c7 c8
        go_wp2_with fail
        refine (KU.out _).mono ?_
        rintro e w8 ⟨rfl, k8⟩
        have R8 := Lib.hid (R7.out.on k8); have S8 := Lib.hid (S7.out.on' k8); have K8 := Lib.hid (K7.out.trans (k8.mono K7.out.size)); have V8 := Lib.hid (V7.out.on k8)
        clear c0 c1 c2 c3 c4 c5 c6 c7 c8
        clear k8
        obtain ⟨_, c0, c1, c2, c3, c4, c5, c6, c7, c8⟩ := box_of_row R8.out
        simp only [Nat.zero_add] at c1 c2 c3 c4 c5 c6 c7 c8
        go_wp2_with fail
        refine (newu_any y.cb w8 (by have := FT.out.nn; omega) (by have := FT.out.le; omega)).mono ?_
        rintro e w9 ⟨pb, rfl, F, s9, k9⟩
        have R9 := R8.out.on k9; have S9 := S8.out.on' k9; have K9 := K8.out.trans (k9.mono K8.out.size); have V9 := V8.out.on k9
        have d3 := (V9.at 514).trans (cvC_at _ _ _ _ _ L1.out L2.out 514)
        simp at d3
        have f3 := V9.free 514
        have hs2 := S8.out.lt; have hv2 := V8.out.lt; have hb2 := R8.out.lt
        have hvw : w.heap.size ≤ v := Nat.le_trans K5.out.size l6
        have hsw : w.heap.size ≤ sb := Nat.le_trans KD.out.size L3.out
        have O10 : Only (fun d => d = v) w9 (w9.setCell ⟨v, 514, none⟩ (.pointer (some ⟨pb, 0, none⟩))) := (Only.refl (fun d => d = v) w9).setCell ⟨v, 514, none⟩ (fun _ => rfl) _
        have V10 := V9.setv 514 (.pointer (some ⟨pb, 0, none⟩))
        rw [cvC_u _ _ _ _ _ _ L1.out L2.out] at V10
        have R10 := R9.only O10 (show ¬ w.heap.size = v by have := l6; have := R5.out.lt; omega)
        have S10 := S9.only O10 (show ¬ sb = v by have := S5.out.lt; omega)
        have F10 := F.only O10 (fun d hd hv => by omega)
        have K10 := K9.trans (O10.below K9.size (fun d hd => by rw [hd]; exact hvw))
        have hpb : w.heap.size ≤ pb := Nat.le_trans K8.out.size s9
        have hpv : pb ≠ v ∧ pb ≠ sb := by omega
        obtain ⟨w10, hw10⟩ : ∃ W, w9.setCell ⟨v, 514, none⟩ (.pointer (some ⟨pb, 0, none⟩)) = W := ⟨_, rfl⟩
        rw [hw10] at V10 R10 S10 F10 K10
        have R10 := Lib.hid R10; have S10 := Lib.hid S10; have K10 := Lib.hid K10; have V10 := Lib.hid V10; have F10 := Lib.hid F10
        clear F s9 k9 R9 S9 K9 V9 O10
        clear c0 c1 c2 c3 c4 c5 c6 c7 c8
        have HF := Lib.hid (WF.out w10 v sb pb (fun d => d = pb) (by rw [ptrP, ptrU, HBL.out, HUL.out]; exact V10.out) S10.out (.inr (.inl ⟨HBL.out, HUL.out, F10.out, rfl⟩)) (by have := S5.out.lt; omega) (fun d hd => by rw [hd]; exact hpv))
        go_wp2_with fail
        go_ret
        refine ⟨v, sb, pb, (fun d => d = pb), rfl, by rw [HY.out]; exact HF.out, ?_, K10.out⟩
        rintro d (hd | hd | hd)
        · rw [hd]; exact hvw
        · rw [hd]; exact hsw
        · rw [hd]; exact hpb
    · have HBL := Lib.hid hbl
      have HUL := Lib.hid (FT.out.one hbl)
      rw [hbl] at KB
      clear hbl
      obtain ⟨_, c0, c1, c2, c3, c4, c5, c6, c7, c8⟩ := box_of_row R6.out
      simp only [Nat.zero_add] at c1 c2 c3 c4 c5 c6 c7 c8
      go_wp2_with fail
      refine (KB.out _).mono ?_
      rintro e w7 ⟨rfl, k7⟩
      have R7 := Lib.hid (R6.out.on k7); have S7 := Lib.hid (S6.out.on' k7); have K7 := Lib.hid (K6.out.trans (k7.mono K6.out.size)); have V7 := Lib.hid (V6.out.on k7)
      clear c0 c1 c2 c3 c4 c5 c6 c7 c8
      clear k7
      obtain ⟨_, c0, c1, c2, c3, c4, c5, c6, c7, c8⟩ := box_of_row R7.out
      simp only [Nat.zero_add] at c1 c2 c3 c4 c5 c6 c7 c8
      go_wp2_with fail
      refine (newp_any y.cb w7 (by have := FT.out.nn; omega) (by have := FT.out.le; omega)).mono ?_
      rintro e w8 ⟨pb, rfl, F, s8, k8⟩
      have R8 := R7.out.on k8; have S8 := S7.out.on' k8; have K8 := K7.out.trans (k8.mono K7.out.size); have V8 := V7.out.on k8
      have d3 := (V8.at 513).trans (cvC_at _ _ _ _ _ L1.out L2.out 513)
      simp at d3
      have f3 := V8.free 513
      have hs2 := S7.out.lt; have hv2 := V7.out.lt; have hb2 := R7.out.lt
      have hvw : w.heap.size ≤ v := Nat.le_trans K5.out.size l6
      have hsw : w.heap.size ≤ sb := Nat.le_trans KD.out.size L3.out
      have O9 : Only (fun d => d = v) w8 (w8.setCell ⟨v, 513, none⟩ (.pointer (some ⟨pb, 0, none⟩))) := (Only.refl (fun d => d = v) w8).setCell ⟨v, 513, none⟩ (fun _ => rfl) _
      have V9 := V8.setv 513 (.pointer (some ⟨pb, 0, none⟩))
      rw [cvC_p _ _ _ _ _ _ L1.out L2.out] at V9
      have R9 := R8.only O9 (show ¬ w.heap.size = v by have := l6; have := R5.out.lt; omega)
      have S9 := S8.only O9 (show ¬ sb = v by have := S5.out.lt; omega)
      have F9 := F.only O9 (fun d hd hv => by omega)
      have K9 := K8.trans (O9.below K8.size (fun d hd => by rw [hd]; exact hvw))
      have hpb : w.heap.size ≤ pb := Nat.le_trans K7.out.size s8
      have hpv : pb ≠ v ∧ pb ≠ sb := by omega
      obtain ⟨w9, hw9⟩ : ∃ W, w8.setCell ⟨v, 513, none⟩ (.pointer (some ⟨pb, 0, none⟩)) = W := ⟨_, rfl⟩
      rw [hw9] at V9 R9 S9 F9 K9
      have R9 := Lib.hid R9; have S9 := Lib.hid S9; have K9 := Lib.hid K9; have V9 := Lib.hid V9; have F9 := Lib.hid F9
      clear F s8 k8 R8 S8 K8 V8 O9
      clear c0 c1 c2 c3 c4 c5 c6 c7 c8
      rw [HUL.out] at KU
      obtain ⟨_, c0, c1, c2, c3, c4, c5, c6, c7, c8⟩ := box_of_row R9.out
      simp only [Nat.zero_add] at c1 c2 c3 c4 c5 c6 c7 c8
      go_wp2_with fail
      refine (KU.out _).mono ?_
      rintro e w10 ⟨rfl, k10⟩
      have R10 := Lib.hid (R9.out.on k10); have S10 := Lib.hid (S9.out.on' k10); have K10 := Lib.hid (K9.out.trans (k10.mono K9.out.size)); have V10 := Lib.hid (V9.out.on k10)
      clear c0 c1 c2 c3 c4 c5 c6 c7 c8
      have F10 := Lib.hid (F9.out.on k10)
      clear k10
      have HF := Lib.hid (WF.out w10 v sb pb (fun d => d = pb) (by rw [ptrP, ptrU, HBL.out, HUL.out]; exact V10.out) S10.out (.inl ⟨HBL.out, F10.out⟩) (by have := S5.out.lt; omega) (fun d hd => by rw [hd]; exact hpv))
      go_wp2_with fail
      go_ret
      refine ⟨v, sb, pb, (fun d => d = pb), rfl, by rw [HY.out]; exact HF.out, ?_, K10.out⟩
      rintro d (hd | hd | hd)
      · rw [hd]; exact hvw
      · rw [hd]; exact hsw
      · rw [hd]; exact hpb
  · have EZ := Lib.hid (EM.out.1 rfl)
    have R2 := Lib.hid (show Row w1 w.heap.size 23 y.cells by rw [← EZ.out]; exact R1.out)
    have K2 := K1
    clear EZ R1 K1
    generalize w1 = w2 at *
    clear EM CM
    have KD := Lib.hid (K2.out.drew)
    have RD := Lib.hid (show Row w2.drew w.heap.size 23 y.cells from R2.out)
    clear R2
    go_wp2_with fail
    have hS := RD.out
    refine wp_region_held_drew (S := fun w' => Row w' w.heap.size 23 y.cells) (by kernel_rfl) hS (fun hHeld => ?_)
    clear hS
    show wpAnyH _ _ _ _ _ 10 _ _ _
    refine take_at 0 8 (v := ?vq0) (fuel := 9) rfl rfl (by kernel_rfl) (by kernel_rfl) (by kernel_rfl) (fun _ _ _ h => h) (by rfl) hHeld ?hyq0 ?restq0
    case hyq0 => (intro w' hSw; (try dsimp only at hSw); go_simp <;> with_reducible rfl)
    simp only [Act.put, List.setIfInBounds_toArray, List.set_cons_zero, List.set_cons_succ]
    refine take_at 1 9 (v := .bool y.sw) (fuel := 8) rfl rfl (by kernel_rfl) (by kernel_rfl) (by kernel_rfl) (fun _ _ _ h => h) (by rfl) hHeld ?hyxq ?restxq
    case hyxq => (intro w' hSw; have cc := (box_of_row hSw).c0; go_simp <;> with_reducible rfl)
    simp only [Act.put, List.setIfInBounds_toArray, List.set_cons_zero, List.set_cons_succ]
    refine take_box 3 11 (fuel := 7) _ w.heap.size y rfl rfl (by kernel_rfl) (by kernel_rfl) (by kernel_rfl) (fun _ _ _ h => h) (by rfl) hHeld rfl rfl (fun _ h => h) ?_
    simp only [Act.put, List.setIfInBounds_toArray, List.set_cons_zero, List.set_cons_succ]
    refine take_box 5 13 (fuel := 6) _ w.heap.size y rfl rfl (by kernel_rfl) (by kernel_rfl) (by kernel_rfl) (fun _ _ _ h => h) (by rfl) hHeld rfl rfl (fun _ h => h) ?_
    simp only [Act.put, List.setIfInBounds_toArray, List.set_cons_zero, List.set_cons_succ]
    refine wpAnyH_ready (rs := [2]) (fuel := 5) (by kernel_rfl) (by simp) ?_
    refine AllReadyH.cons rfl (fun Kq hK => ?_) AllReadyH.nil
    go_simp
    refine (snew_any y.sw _).mono ?_
    rintro e w3 ⟨sb, rfl, F3, s3, k3⟩
    have R3 := Lib.hid (RD.out.on k3); have S3 := Lib.hid F3; have K3 := Lib.hid (KD.out.trans (k3.mono KD.out.size)); have L3 := Lib.hid s3
    go_simp
    refine hK.out _ _ R3.out (fun hH1 => ?_)
    clear hK Kq hHeld F3 s3 k3
    (try simp only [Act.put, List.setIfInBounds_toArray, List.set_cons_zero, List.set_cons_succ])
    refine wpAnyH_ready (rs := [4]) (fuel := 4) (by kernel_rfl) (by simp) ?_
    refine AllReadyH.cons rfl (fun Kq hK => ?_) AllReadyH.nil
    go_simp
    refine (CA.out _).mono ?_
    rintro e w4 ⟨rfl, k4⟩
    have R4 := Lib.hid (R3.out.on k4); have S4 := Lib.hid (S3.out.on' k4); have K4 := Lib.hid (K3.out.trans (k4.mono K3.out.size))
    go_simp
    refine hK.out _ _ R4.out (fun hH2 => ?_)
    clear hK Kq hH1 k4
    (try simp only [Act.put, List.setIfInBounds_toArray, List.set_cons_zero, List.set_cons_succ])
    refine wpAnyH_ready (rs := [6]) (fuel := 3) (by kernel_rfl) (by simp) ?_
    refine AllReadyH.cons rfl (fun Kq hK => ?_) AllReadyH.nil
    go_simp
    refine (CB.out _).mono ?_
    rintro e w5 ⟨rfl, k5⟩
    have R5 := Lib.hid (R4.out.on k5); have S5 := Lib.hid (S4.out.on' k5); have K5 := Lib.hid (K4.out.trans (k5.mono K4.out.size))
    go_simp
    refine hK.out _ _ R5.out (fun hH3 => ?_)
    clear hK Kq hH2 k5
    (try simp only [Act.put, List.setIfInBounds_toArray, List.set_cons_zero, List.set_cons_succ])
    refine wpAnyH_ready (rs := [7]) (fuel := 2) (by kernel_rfl) (by simp) ?_
    refine AllReadyH.cons rfl (fun Kq hK => ?_) AllReadyH.nil
    refine step_build rfl _ rfl (cvC (.pointer (some ⟨sb, 0, none⟩)) u1 u2 (.pointer none) (.pointer none)) (by simpa [Act.eval] using built_conv (.pointer (some ⟨sb, 0, none⟩)) rfl u1 u2 L1.out L2.out) ?_
    go_simp
    refine hK.out _ _ hH3 (fun hH4 => ?_)
    clear hK Kq hH3
    (try simp only [Act.put, List.setIfInBounds_toArray, List.set_cons_zero, List.set_cons_succ])
    refine wpAnyH_ready (rs := [8]) (fuel := 1) (by kernel_rfl) (by simp) ?_
    refine AllReadyH.cons rfl (fun Kq hK => ?_) AllReadyH.nil
    refine step_box rfl _ rfl (cvC (.pointer (some ⟨sb, 0, none⟩)) u1 u2 (.pointer none) (.pointer none)) rfl ?_
    intro v w6 r6 k6 l6
    have R6 := Lib.hid (R5.out.on k6); have S6 := Lib.hid (S5.out.on' k6); have K6 := Lib.hid (K5.out.trans (k6.mono K5.out.size)); have V6 := Lib.hid r6
    go_simp
    refine hK.out _ _ R6.out (fun hH5 => ?_)
    clear hK Kq hH4 k6 r6
    (try simp only [Act.put, List.setIfInBounds_toArray, List.set_cons_zero, List.set_cons_succ])
    refine take_at 9 3 (v := ?vq9) (fuel := 0) rfl rfl (by kernel_rfl) (by kernel_rfl) (by kernel_rfl) (fun _ _ _ h => h) (by rfl) hH5 ?hyq9 ?restq9
    case hyq9 => (intro w' hSw; (try dsimp only at hSw); go_simp <;> with_reducible rfl)
    simp only [Act.put, List.setIfInBounds_toArray, List.set_cons_zero, List.set_cons_succ]
    refine wpAnyH_done (by kernel_rfl) ?_ _
    clear hH5
    cases hbl : y.blocks
    · have HBL := Lib.hid hbl
      rw [hbl] at KB
      clear hbl
      obtain ⟨_, c0, c1, c2, c3, c4, c5, c6, c7, c8⟩ := box_of_row R6.out
      simp only [Nat.zero_add] at c1 c2 c3 c4 c5 c6 c7 c8
      go_wp2_with fail
      refine (KB.out _).mono ?_
      rintro e w7 ⟨rfl, k7⟩
      have R7 := Lib.hid (R6.out.on k7); have S7 := Lib.hid (S6.out.on' k7); have K7 := Lib.hid (K6.out.trans (k7.mono K6.out.size)); have V7 := Lib.hid (V6.out.on k7)
      clear c0 c1 c2 c3 c4 c5 c6 c7 c8
      clear k7
      cases hul : y.unblocks
      · have HUL := Lib.hid hul
        rw [hul] at KU
        clear hul
        obtain ⟨_, c0, c1, c2, c3, c4, c5, c6, c7, c8⟩ := box_of_row R7.out
        simp only [Nat.zero_add] at c1 c2 c3 c4 c5 c6 c7 c8
        go_wp2_with fail
        refine (KU.out _).mono ?_
        rintro e w8 ⟨rfl, k8⟩
        have R8 := Lib.hid (R7.out.on k8); have S8 := Lib.hid (S7.out.on' k8); have K8 := Lib.hid (K7.out.trans (k8.mono K7.out.size)); have V8 := Lib.hid (V7.out.on k8)
        clear c0 c1 c2 c3 c4 c5 c6 c7 c8
        clear k8
        have HF := Lib.hid (WF.out w8 v sb 0 (fun _ => False) (by rw [ptrP, ptrU, HBL.out, HUL.out]; exact V8.out) S8.out (.inr (.inr ⟨HBL.out, HUL.out, rfl, fun _ h => h⟩)) (by have := S5.out.lt; omega) (fun _ h => h.elim))
        go_wp2_with fail
        go_ret
        refine ⟨v, sb, 0, (fun _ => False), rfl, by rw [HY.out]; exact HF.out, ?_, K8.out⟩
        rintro d (hd | hd | hd)
        · rw [hd]; exact Nat.le_trans K5.out.size l6
        · rw [hd]; exact Nat.le_trans KD.out.size L3.out
        · exact hd.elim
      · have HUL := Lib.hid hul
        rw [hul] at KU
        clear hul
        obtain ⟨_, c0, c1, c2, c3, c4, c5, c6, c7, c8⟩ := box_of_row R7.out
        simp only [Nat.zero_add] at c1 c2 c3 c4 c5 c6 c7 c8
        go_wp2_with fail
        refine (KU.out _).mono ?_
        rintro e w8 ⟨rfl, k8⟩
        have R8 := Lib.hid (R7.out.on k8); have S8 := Lib.hid (S7.out.on' k8); have K8 := Lib.hid (K7.out.trans (k8.mono K7.out.size)); have V8 := Lib.hid (V7.out.on k8)
        clear c0 c1 c2 c3 c4 c5 c6 c7 c8
        clear k8
        obtain ⟨_, c0, c1, c2, c3, c4, c5, c6, c7, c8⟩ := box_of_row R8.out
        simp only [Nat.zero_add] at c1 c2 c3 c4 c5 c6 c7 c8
        go_wp2_with fail
        refine (newu_any y.cb w8 (by have := FT.out.nn; omega) (by have := FT.out.le; omega)).mono ?_
        rintro e w9 ⟨pb, rfl, F, s9, k9⟩
        have R9 := R8.out.on k9; have S9 := S8.out.on' k9; have K9 := K8.out.trans (k9.mono K8.out.size); have V9 := V8.out.on k9
        have d3 := (V9.at 514).trans (cvC_at _ _ _ _ _ L1.out L2.out 514)
        simp at d3
        have f3 := V9.free 514
        have hs2 := S8.out.lt; have hv2 := V8.out.lt; have hb2 := R8.out.lt
        have hvw : w.heap.size ≤ v := Nat.le_trans K5.out.size l6
        have hsw : w.heap.size ≤ sb := Nat.le_trans KD.out.size L3.out
        have O10 : Only (fun d => d = v) w9 (w9.setCell ⟨v, 514, none⟩ (.pointer (some ⟨pb, 0, none⟩))) := (Only.refl (fun d => d = v) w9).setCell ⟨v, 514, none⟩ (fun _ => rfl) _
        have V10 := V9.setv 514 (.pointer (some ⟨pb, 0, none⟩))
        rw [cvC_u _ _ _ _ _ _ L1.out L2.out] at V10
        have R10 := R9.only O10 (show ¬ w.heap.size = v by have := l6; have := R5.out.lt; omega)
        have S10 := S9.only O10 (show ¬ sb = v by have := S5.out.lt; omega)
        have F10 := F.only O10 (fun d hd hv => by omega)
        have K10 := K9.trans (O10.below K9.size (fun d hd => by rw [hd]; exact hvw))
        have hpb : w.heap.size ≤ pb := Nat.le_trans K8.out.size s9
        have hpv : pb ≠ v ∧ pb ≠ sb := by omega
        obtain ⟨w10, hw10⟩ : ∃ W, w9.setCell ⟨v, 514, none⟩ (.pointer (some ⟨pb, 0, none⟩)) = W := ⟨_, rfl⟩
        rw [hw10] at V10 R10 S10 F10 K10
        have R10 := Lib.hid R10; have S10 := Lib.hid S10; have K10 := Lib.hid K10; have V10 := Lib.hid V10; have F10 := Lib.hid F10
        clear F s9 k9 R9 S9 K9 V9 O10
        clear c0 c1 c2 c3 c4 c5 c6 c7 c8
        have HF := Lib.hid (WF.out w10 v sb pb (fun d => d = pb) (by rw [ptrP, ptrU, HBL.out, HUL.out]; exact V10.out) S10.out (.inr (.inl ⟨HBL.out, HUL.out, F10.out, rfl⟩)) (by have := S5.out.lt; omega) (fun d hd => by rw [hd]; exact hpv))
        go_wp2_with fail
        go_ret
        refine ⟨v, sb, pb, (fun d => d = pb), rfl, by rw [HY.out]; exact HF.out, ?_, K10.out⟩
        rintro d (hd | hd | hd)
        · rw [hd]; exact hvw
        · rw [hd]; exact hsw
        · rw [hd]; exact hpb
    · have HBL := Lib.hid hbl
      have HUL := Lib.hid (FT.out.one hbl)
      rw [hbl] at KB
      clear hbl
      obtain ⟨_, c0, c1, c2, c3, c4, c5, c6, c7, c8⟩ := box_of_row R6.out
      simp only [Nat.zero_add] at c1 c2 c3 c4 c5 c6 c7 c8
      go_wp2_with fail
      refine (KB.out _).mono ?_
      rintro e w7 ⟨rfl, k7⟩
      have R7 := Lib.hid (R6.out.on k7); have S7 := Lib.hid (S6.out.on' k7); have K7 := Lib.hid (K6.out.trans (k7.mono K6.out.size)); have V7 := Lib.hid (V6.out.on k7)
      clear c0 c1 c2 c3 c4 c5 c6 c7 c8
      clear k7
      obtain ⟨_, c0, c1, c2, c3, c4, c5, c6, c7, c8⟩ := box_of_row R7.out
      simp only [Nat.zero_add] at c1 c2 c3 c4 c5 c6 c7 c8
      go_wp2_with fail
      refine (newp_any y.cb w7 (by have := FT.out.nn; omega) (by have := FT.out.le; omega)).mono ?_
      rintro e w8 ⟨pb, rfl, F, s8, k8⟩
      have R8 := R7.out.on k8; have S8 := S7.out.on' k8; have K8 := K7.out.trans (k8.mono K7.out.size); have V8 := V7.out.on k8
      have d3 := (V8.at 513).trans (cvC_at _ _ _ _ _ L1.out L2.out 513)
      simp at d3
      have f3 := V8.free 513
      have hs2 := S7.out.lt; have hv2 := V7.out.lt; have hb2 := R7.out.lt
      have hvw : w.heap.size ≤ v := Nat.le_trans K5.out.size l6
      have hsw : w.heap.size ≤ sb := Nat.le_trans KD.out.size L3.out
      have O9 : Only (fun d => d = v) w8 (w8.setCell ⟨v, 513, none⟩ (.pointer (some ⟨pb, 0, none⟩))) := (Only.refl (fun d => d = v) w8).setCell ⟨v, 513, none⟩ (fun _ => rfl) _
      have V9 := V8.setv 513 (.pointer (some ⟨pb, 0, none⟩))
      rw [cvC_p _ _ _ _ _ _ L1.out L2.out] at V9
      have R9 := R8.only O9 (show ¬ w.heap.size = v by have := l6; have := R5.out.lt; omega)
      have S9 := S8.only O9 (show ¬ sb = v by have := S5.out.lt; omega)
      have F9 := F.only O9 (fun d hd hv => by omega)
      have K9 := K8.trans (O9.below K8.size (fun d hd => by rw [hd]; exact hvw))
      have hpb : w.heap.size ≤ pb := Nat.le_trans K7.out.size s8
      have hpv : pb ≠ v ∧ pb ≠ sb := by omega
      obtain ⟨w9, hw9⟩ : ∃ W, w8.setCell ⟨v, 513, none⟩ (.pointer (some ⟨pb, 0, none⟩)) = W := ⟨_, rfl⟩
      rw [hw9] at V9 R9 S9 F9 K9
      have R9 := Lib.hid R9; have S9 := Lib.hid S9; have K9 := Lib.hid K9; have V9 := Lib.hid V9; have F9 := Lib.hid F9
      clear F s8 k8 R8 S8 K8 V8 O9
      clear c0 c1 c2 c3 c4 c5 c6 c7 c8
      rw [HUL.out] at KU
      obtain ⟨_, c0, c1, c2, c3, c4, c5, c6, c7, c8⟩ := box_of_row R9.out
      simp only [Nat.zero_add] at c1 c2 c3 c4 c5 c6 c7 c8
      go_wp2_with fail
      refine (KU.out _).mono ?_
      rintro e w10 ⟨rfl, k10⟩
      have R10 := Lib.hid (R9.out.on k10); have S10 := Lib.hid (S9.out.on' k10); have K10 := Lib.hid (K9.out.trans (k10.mono K9.out.size)); have V10 := Lib.hid (V9.out.on k10)
      clear c0 c1 c2 c3 c4 c5 c6 c7 c8
      have F10 := Lib.hid (F9.out.on k10)
      clear k10
      have HF := Lib.hid (WF.out w10 v sb pb (fun d => d = pb) (by rw [ptrP, ptrU, HBL.out, HUL.out]; exact V10.out) S10.out (.inl ⟨HBL.out, F10.out⟩) (by have := S5.out.lt; omega) (fun d hd => by rw [hd]; exact hpv))
      go_wp2_with fail
      go_ret
      refine ⟨v, sb, pb, (fun d => d = pb), rfl, by rw [HY.out]; exact HF.out, ?_, K10.out⟩
      rintro d (hd | hd | hd)
      · rw [hd]; exact hvw
      · rw [hd]; exact hsw
      · rw [hd]; exact hpb

end Go.Proofs.Ytghihmmapignmaa
