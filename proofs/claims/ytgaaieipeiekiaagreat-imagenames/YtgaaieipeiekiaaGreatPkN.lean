/- Contracts of image's Used, Same. / What Find, Get, Used say, told of the plain image. / Contract of the law ImageRuns, which the other laws call. / Contracts of the reference's MayName, named, node. / Contracts of the reference's named, node. / A drawn region whose callees may make memory, read in every world that only grew. -/
import Derived.Test.YtgaaieipeiekiaaGreatPkM
import Derived.Test.YtgaaieipeiekiaaGreatPkC
import Derived.BigQuiet
namespace Go.Proofs.YtgaaieipeiekiaaGreat
open Go.RowKit
set_option maxRecDepth 100000

theorem used_succ (Z : List Nz) (j : Nat) (hj : j < Z.length) : usedS (Z.take (j + 1)) = usedS (Z.take j) + (Z.getD j default).L.length := by
  unfold usedS
  rw [getD_take Z j hj, List.map_append, List.sum_append]; simp
theorem used_le {Z : List Nz} {K : Nat} (h : ∀ z ∈ Z, z.L.length ≤ K) : usedS Z ≤ Z.length * K := by
  unfold usedS
  induction Z with
  | nil => simp
  | cons z r ih =>
    have h1 := ih (fun y hy => h y (by simp [hy]))
    have h2 := h z (by simp)
    simp only [List.map_cons, List.sum_cons, List.length_cons, Nat.succ_mul]
    omega
def NumPost (k : Int) (w : World) (e : Ending) (w' : World) : Prop := e = .returned (.int .i64 k) ∧ Below w.heap.size w w'

set_option maxHeartbeats 4000000 in
theorem used_img (A : Option Addr) (c : Nat) (A' : Option Addr) (c' : Nat) (N : List Nm) (Z : List Nz) (w : World) (h : Im w A N.length c A' Z.length c' N Z) (hn : Z.length ≤ 1000) (hl : ∀ z ∈ Z, z.L.length ≤ 1000000) (z : Bool) (hz : GoodI (ig N Z) ↔ z = true) (k : Int) (hT : z = true → (usedS Z : Int) = k) (hF : z = false → 0 = k) :
    Calls Tryz.prog 18 #[iv A N.length c A' Z.length c'] w (NumPost k w) := by
  obtain ⟨W, hW⟩ : ∃ W, w.alloc (.cells #[.slice A N.length c, .slice A' Z.length c'] 25) = W := ⟨_, rfl⟩
  have KW := Lib.hid (show Below w.heap.size w W by rw [← hW]; exact (Below.refl _ _).alloc (Nat.le_refl _) _)
  have B0 := Lib.hid (show IBox W w.heap.size A N.length c A' Z.length c' by rw [← hW]; exact ibox_new _ _ _ _ _ _ _)
  have H := Lib.hid (h.on KW.out); have HZ := Lib.hid hz; have HT := Lib.hid hT; have HF := Lib.hid hF; have HL := Lib.hid hl
  have HW := Lib.hid hW
  clear h hz hT hF hW hl
  show Calls Tryz.prog 18 #[.agg #[.slice A N.length c, .slice A' Z.length c']] w _
  go_enter Tryz.func18, Tryz.ntmps18
  go_upto_region 1 with fail
  rw [HW.out]
  have b0 := B0.out.c0; have b1 := B0.out.c1
  go_wp2_with fail
  refine (mayi_any A N.length c A' Z.length c' N Z W H.out z HZ.out).mono ?_
  rintro e w1 ⟨rfl, k1⟩
  have K1 := Lib.hid (KW.out.trans (k1.mono KW.out.size))
  have B1 := Lib.hid (B0.out.on k1); have H1 := Lib.hid (H.out.on k1)
  clear k1 b0 b1
  have b0 := B1.out.c0; have b1 := B1.out.c1
  cases z with
  | false =>
    have e1 := HF.out (by first | rfl | trivial)
    subst e1
    go_wp2
    go_ret
    exact ⟨rfl, K1.out⟩
  | true =>
    have HK := Lib.hid (HT.out (by first | rfl | trivial))
    have HLE := Lib.hid (fun j => used_le (Z := Z.take j) (K := 1000000) (fun z hz => HL.out z (List.mem_of_mem_take hz)))
    go_wp2
    go_loopw [12, 3] (fun i s wr => ∃ j : Nat, j ≤ Z.length ∧ i = .int .i64 j ∧ s = .int .i64 (usedS (Z.take j)) ∧ Hid (Below w1.heap.size w1 wr)) (fun i _ _ => Z.length - (intOf i).toNat)
    case atStart => exact ⟨0, Nat.zero_le _, rfl, rfl, Below.refl _ _⟩
    case round =>
      clear b0 b1
      obtain ⟨j, hj, rfl, rfl, KR⟩ := hrel
      have HR := Lib.hid (H1.out.on KR.out)
      by_cases hlt : j < Z.length
      · obtain ⟨b, o, rfl, hb, _⟩ := HR.out.nodes.cells (by omega)
        obtain ⟨e0, e1, e2⟩ := Nds.at HR.out.nodes j hlt
        have hji : (j : Int) < (Z.length : Int) := by omega
        have HM := Lib.hid (getD_mem' hlt)
        have HU := Lib.hid (used_succ Z j hlt)
        have HE := Lib.hid (HR.out.exts _ HM.out)
        have hle := HLE.out j
        have hlt1 : (Z.take j).length * 1000000 ≤ 1000000000 := by rw [List.length_take]; omega
        have hle2 := HL.out _ HM.out
        generalize Z.getD j default = x at *
        obtain ⟨xi, xs, xA, xn, xc, xL⟩ := x
        simp only at e0 e1 e2 HU HE hle2
        have hxl := HE.out.len
        obtain ⟨u, hu⟩ : ∃ u, usedS (Z.take j) = u := ⟨_, rfl⟩
        have HUU := Lib.hid (show usedS (Z.take (j + 1)) = u + xn by rw [HU.out, hu, hxl])
        have hu9 : u ≤ 1000000000 := by omega
        have hxn9 : xn ≤ 1000000 := by omega
        rw [hu]
        clear hu hle hlt1 HU hle2 hxl
        go_wp2
        go_roundw
        case rel => exact ⟨j + 1, by omega, by go_num, by rw [HUU.out]; go_num, KR.out.alloc KR.out.size _⟩
        case measure => simp [intOf]; omega
      · have hjn : j = Z.length := by omega
        have HX := Lib.hid (show (usedS (Z.take j) : Int) = k by rw [hjn, List.take_length]; exact HK.out)
        clear hjn
        rw [HX.out]
        go_wp2
        go_ret
        exact ⟨rfl, K1.out.trans (KR.out.mono K1.out.size)⟩

theorem run_neqn (w : World) {s t : ByteArray} {j k : Int} {q : Bool} (hq : (s = t ∧ j = k) ↔ q = true) : (binOp .neq 62 (.agg #[.string s, .int .i64 j]) (.agg #[.string t, .int .i64 k])).run Tryz.prog w = .ok (.bool (!q)) w := by
  rw [run_neq_struct, run_equalIn_struct w 9999 62 _ _ Tryz.underlying62 (by kernel_rfl)]
  have hfl : (Tryz.prog.fieldsOf 62).toList = [⟨ "Name", 9, 0, false, "", "", 0⟩, ⟨ "Ino", 3, 1, false, "", "", 16⟩] := by rw [Program.fieldsOf, Tryz.underlying62]
  have h3 := fun a b => run_equalIn_int w 9998 3 .i64 .i64 a b Tryz.underlying3
  have h9 := fun a b => run_equalIn_string w 9998 9 a b Tryz.underlying9
  rw [hfl]
  simp only [Nat.reduceAdd] at h3 h9
  simp [Op.eqFields, part, Tryz.isAgg3, Tryz.isAgg9, h3, h9, Result.andThen]
  have hst : (s.toList = t.toList) ↔ s = t := ⟨toList_inj, fun h => by rw [h]⟩
  cases q with
  | true => obtain ⟨h1, h2⟩ := hq.2 rfl; simp [h1, h2]
  | false =>
    have hn : ¬ (s = t ∧ j = k) := fun h => by have := hq.1 h; cases this
    by_cases h1 : s = t
    · have h2 : ¬ j = k := fun h => hn ⟨h1, h⟩
      simp [h1, h2]
    · have h1t : ¬ s.toList = t.toList := fun h => h1 (hst.1 h)
      simp [h1t]

set_option maxHeartbeats 4000000 in
theorem eqn_any (A : Option Addr) (n c : Nat) (N : List Nm) (A' : Option Addr) (n' c' : Nat) (M : List Nm) (w : World) (h : Nms w A n c N) (h' : Nms w A' n' c' M) (z : Bool) (hz : N = M ↔ z = true) :
    Calls Tryz.prog 43 #[.slice A n c, .slice A' n' c'] w (TruthPost z w) := by
  have H := Lib.hid h; have H' := Lib.hid h'; have HZ := Lib.hid hz
  have HF := Lib.hid (show ¬ N = M → z = false from fun h => by cases hz : z with | false => rfl | true => exact absurd (HZ.out.2 hz) h)
  have hm := h.max; have hm' := h'.max
  clear h h' hz
  go_enter Tryz.func43, Tryz.ntmps43
  by_cases hl : n = n'
  · subst hl
    go_wp2
    go_loopw [13] (fun i wr => ∃ j : Nat, j ≤ n ∧ i = .int .i64 j ∧ Hid (N.take j = M.take j) ∧ Hid (Below w.heap.size w wr)) (fun i _ => n - (intOf i).toNat)
    case atStart => exact ⟨0, Nat.zero_le _, rfl, rfl, Below.refl _ _⟩
    case round =>
      obtain ⟨j, hj, rfl, HT, KR⟩ := hrel
      by_cases hlt : j < n
      · have HR := Lib.hid (H.out.on KR.out); have HR' := Lib.hid (H'.out.on KR.out)
        obtain ⟨b, o, rfl, _, _⟩ := HR.out.cells (by omega)
        obtain ⟨b', o', rfl, _, _⟩ := HR'.out.cells (by omega)
        obtain ⟨c0, c1⟩ := Nms.at HR.out j hlt
        obtain ⟨d0, d1⟩ := Nms.at HR'.out j hlt
        have hji : (j : Int) < (n : Int) := by omega
        have HS := Lib.hid (show N.getD j default = M.getD j default → N.take (j + 1) = M.take (j + 1) from fun he => by
          rw [getD_take N j (by rw [H.out.len]; exact hlt), getD_take M j (by rw [H'.out.len]; exact hlt), HT.out, he])
        have HD := Lib.hid (show N.getD j default ≠ M.getD j default → z = false from fun he => HF.out (fun h => he (by rw [h])))
        generalize N.getD j default = x at *
        generalize M.getD j default = y at *
        obtain ⟨xn, xk⟩ := x
        obtain ⟨yn, yk⟩ := y
        simp only at c0 c1 d0 d1
        have hxy : ((⟨xn, xk⟩ : Nm) = ⟨yn, yk⟩) ↔ (xn = yn ∧ xk = yk) := ⟨fun h => by injection h with h1 h2; exact ⟨h1, h2⟩, fun ⟨h1, h2⟩ => by rw [h1, h2]⟩
        obtain ⟨q, hq⟩ : ∃ q : Bool, (xn = yn ∧ xk = yk) ↔ q = true := by
          by_cases h : xn = yn ∧ xk = yk
          · exact ⟨true, by simp [h]⟩
          · exact ⟨false, by simp [h]⟩
        have HE : ∀ w', (binOp .neq 62 (.agg #[.string xn, .int .i64 xk]) (.agg #[.string yn, .int .i64 yk])).run Tryz.prog w' = .ok (.bool (!q)) w' := fun w' => run_neqn w' hq
        have HQ := Lib.hid (hxy.trans hq)
        clear hq hxy
        cases q with
        | true =>
          go_wp2
          go_quiet (fail)
          go_wp2
          go_roundw
          case rel => exact ⟨j + 1, by omega, by go_num, HS.out (HQ.out.2 (by first | rfl | trivial)), below_drewN KR.out _⟩
          case measure => simp [intOf]; omega
        | false =>
          go_wp2
          go_quiet (fail)
          go_wp2
          go_ret
          exact ⟨ret_bool (HD.out (fun h => by have := HQ.out.1 h; cases this)).symm, below_drewN KR.out _⟩
      · have hjn : j = n := by omega
        have HX := Lib.hid (show true = z from (HZ.out.1 (by
          have := HT.out
          rw [hjn] at this
          rwa [List.take_of_length_le (Nat.le_of_eq H.out.len), List.take_of_length_le (Nat.le_of_eq H'.out.len)] at this)).symm)
        clear hjn
        go_wp2
        go_ret
        exact ⟨ret_bool HX.out, KR.out⟩
  · have HX := Lib.hid (show false = z from (HF.out (fun h => hl (by rw [← H.out.len, ← H'.out.len, h]))).symm)
    have hnn' : ¬ (n : Int) = (n' : Int) := by omega
    go_wp2
    go_ret
    exact ⟨ret_bool HX.out, Below.refl _ _⟩

def zv (z : Nz) : Value := .agg #[.int .i64 z.ino, .int .i64 z.s, .slice z.A z.n z.c]

set_option maxHeartbeats 4000000 in
theorem eqz1_any (x y : Nz) (w : World) (hx : Exts w x.A x.n x.c x.L) (hy : Exts w y.A y.n y.c y.L) (z : Bool) (hz : x.d = y.d ↔ z = true) : Calls Tryz.prog 45 #[zv x, zv y] w (TruthPost z w) := by
  obtain ⟨xi, xs, xA, xn, xc, xL⟩ := x
  obtain ⟨yi, ys, yA, yn, yc, yL⟩ := y
  have hd : (xi = yi ∧ xs = ys ∧ xL = yL) ↔ z = true := by
    rw [← hz]; show _ ↔ Nd.mk _ _ _ = Nd.mk _ _ _
    exact ⟨fun ⟨h1, h2, h3⟩ => by rw [h1, h2, h3], fun h => by injection h with h1 h2 h3; exact ⟨h1, h2, h3⟩⟩
  have KW := Lib.hid (show Below w.heap.size w ((w.alloc (.cells #[.int .i64 xi, .int .i64 xs, .slice xA xn xc] 59)).alloc (.cells #[.int .i64 yi, .int .i64 ys, .slice yA yn yc] 59)) from ((Below.refl _ _).alloc (Nat.le_refl _) _).alloc (by simp) _)
  have HX := Lib.hid (hx.on KW.out); have HY := Lib.hid (hy.on KW.out)
  have HD := Lib.hid hd
  simp only at hx hy
  clear hx hy hz hd
  show Calls Tryz.prog 45 #[.agg #[.int .i64 xi, .int .i64 xs, .slice xA xn xc], .agg #[.int .i64 yi, .int .i64 ys, .slice yA yn yc]] w _
  go_enter Tryz.func45, Tryz.ntmps45
  by_cases h1 : xi = yi
  · subst h1
    obtain ⟨q, hq⟩ : ∃ q, (decide (xs = ys) && decide (xL = yL)) = q := ⟨_, rfl⟩
    have HQ := Lib.hid hq
    have HR := Lib.hid (show q = z by
      rw [← hq]
      cases hz : z with
      | true => obtain ⟨_, h2, h3⟩ := HD.out.2 hz; simp [h2, h3]
      | false =>
        have : ¬ (xs = ys ∧ xL = yL) := fun h => by have := HD.out.1 ⟨rfl, h.1, h.2⟩; rw [hz] at this; cases this
        simp only [Bool.and_eq_false_iff, decide_eq_false_iff_not]
        by_cases h2 : xs = ys
        · exact .inr (fun h => this ⟨h2, h⟩)
        · exact .inl h2)
    clear hq
    go_wp2_with (go_at_call 29; refine (same_any xs xA xn xc xL ys yA yn yc yL _ HX.out HY.out q HQ.out).mono ?_; rintro e' w2 ⟨rfl, k2⟩; have K2 := Lib.hid (KW.out.trans (k2.mono KW.out.size)); clear k2)
    go_ret
    exact ⟨ret_bool HR.out, K2.out⟩
  · have HR := Lib.hid (show false = z by
      cases hz : z with
      | true => exact absurd (HD.out.2 hz).1 h1
      | false => rfl)
    have h1' : (xi == yi) = false := by simpa using h1
    go_wp2
    go_ret
    exact ⟨ret_bool HR.out, KW.out⟩

set_option maxHeartbeats 4000000 in
theorem eqz_any (A : Option Addr) (n c : Nat) (Z : List Nz) (A' : Option Addr) (n' c' : Nat) (Y : List Nz) (w : World) (h : Nds w A n c Z) (h' : Nds w A' n' c' Y) (hx : ∀ z ∈ Z, Exts w z.A z.n z.c z.L) (hy : ∀ z ∈ Y, Exts w z.A z.n z.c z.L) (z : Bool) (hz : Z.map Nz.d = Y.map Nz.d ↔ z = true) :
    Calls Tryz.prog 44 #[.slice A n c, .slice A' n' c', .func (.func 45) #[] #[]] w (TruthPost z w) := by
  have H := Lib.hid h; have H' := Lib.hid h'; have HZ := Lib.hid hz; have HX := Lib.hid hx; have HY := Lib.hid hy
  have HF := Lib.hid (show ¬ Z.map Nz.d = Y.map Nz.d → z = false from fun h => by cases hz : z with | false => rfl | true => exact absurd (HZ.out.2 hz) h)
  have hm := h.max; have hm' := h'.max
  clear h h' hz hx hy
  go_enter Tryz.func44, Tryz.ntmps44
  by_cases hl : n = n'
  · subst hl
    go_wp2
    go_loopw [17] (fun i wr => ∃ j : Nat, j ≤ n ∧ i = .int .i64 j ∧ Hid ((Z.take j).map Nz.d = (Y.take j).map Nz.d) ∧ Hid (Below w.heap.size w wr)) (fun i _ => n - (intOf i).toNat)
    case atStart => exact ⟨0, Nat.zero_le _, rfl, rfl, Below.refl _ _⟩
    case round =>
      obtain ⟨j, hj, rfl, HT, KR⟩ := hrel
      by_cases hlt : j < n
      · have HR := Lib.hid (H.out.on KR.out); have HR' := Lib.hid (H'.out.on KR.out)
        have HXm := Lib.hid ((HX.out _ (H.out.mem j hlt)).on KR.out); have HYm := Lib.hid ((HY.out _ (H'.out.mem j hlt)).on KR.out)
        obtain ⟨b, o, rfl, hb1, _⟩ := HR.out.cells (by omega)
        obtain ⟨b', o', rfl, hb2, _⟩ := HR'.out.cells (by omega)
        obtain ⟨c0, c1, c2⟩ := Nds.at HR.out j hlt
        obtain ⟨d0, d1, d2⟩ := Nds.at HR'.out j hlt
        have hji : (j : Int) < (n : Int) := by omega
        have HS := Lib.hid (show (Z.getD j default).d = (Y.getD j default).d → (Z.take (j + 1)).map Nz.d = (Y.take (j + 1)).map Nz.d from fun he => by
          rw [getD_take Z j (by rw [H.out.len]; exact hlt), getD_take Y j (by rw [H'.out.len]; exact hlt), List.map_append, List.map_append, HT.out, List.map_cons, List.map_cons, he])
        have HD := Lib.hid (show (Z.getD j default).d ≠ (Y.getD j default).d → z = false from fun he => HF.out (fun h => he (by
          have e1 := map_d_get Z j (by rw [H.out.len]; exact hlt)
          have e2 := map_d_get Y j (by rw [H'.out.len]; exact hlt)
          rw [← e1, ← e2, h])))
        generalize Z.getD j default = x at *
        generalize Y.getD j default = y at *
        obtain ⟨q, hq⟩ : ∃ q : Bool, x.d = y.d ↔ q = true := by
          by_cases h : x.d = y.d
          · exact ⟨true, by simp [h]⟩
          · exact ⟨false, by simp [h]⟩
        have HQ := Lib.hid hq
        obtain ⟨xi, xs, xA, xn, xc, xL⟩ := x
        obtain ⟨yi, ys, yA, yn, yc, yL⟩ := y
        simp only at c0 c1 c2 d0 d1 d2 HXm HYm
        clear hq
        have KA := Lib.hid (show Below wr.heap.size wr ((wr.alloc (.cells #[.int .i64 xi, .int .i64 xs, .slice xA xn xc] 59)).alloc (.cells #[.int .i64 yi, .int .i64 ys, .slice yA yn yc] 59)) from ((Below.refl _ _).alloc (Nat.le_refl _) _).alloc (by simp) _)
        have KW := Lib.hid (KR.out.trans (KA.out.mono KR.out.size))
        cases q with
        | true =>
          go_wp2_with (go_at_call 45; refine (eqz1_any ⟨xi, xs, xA, xn, xc, xL⟩ ⟨yi, ys, yA, yn, yc, yL⟩ _ (HXm.out.on KA.out) (HYm.out.on KA.out) true HQ.out).mono ?_; rintro e' w2 ⟨rfl, k2⟩; have K2 := Lib.hid (KW.out.trans (k2.mono KW.out.size)); clear k2)
          go_roundw
          case rel => exact ⟨j + 1, by omega, by go_num, HS.out (HQ.out.2 (by first | rfl | trivial)), K2.out⟩
          case measure => simp [intOf]; omega
        | false =>
          go_wp2_with (go_at_call 45; refine (eqz1_any ⟨xi, xs, xA, xn, xc, xL⟩ ⟨yi, ys, yA, yn, yc, yL⟩ _ (HXm.out.on KA.out) (HYm.out.on KA.out) false HQ.out).mono ?_; rintro e' w2 ⟨rfl, k2⟩; have K2 := Lib.hid (KW.out.trans (k2.mono KW.out.size)); clear k2)
          go_ret
          exact ⟨ret_bool (HD.out (fun h => by have := HQ.out.1 h; cases this)).symm, K2.out⟩
      · have hjn : j = n := by omega
        have HX := Lib.hid (show true = z from (HZ.out.1 (by
          have := HT.out
          rw [hjn] at this
          rwa [List.take_of_length_le (Nat.le_of_eq H.out.len), List.take_of_length_le (Nat.le_of_eq H'.out.len)] at this)).symm)
        clear hjn
        go_wp2
        go_ret
        exact ⟨ret_bool HX.out, KR.out⟩
  · have HX := Lib.hid (show false = z from (HF.out (fun h => hl (by
      have := congrArg List.length h
      rw [← H.out.len, ← H'.out.len]; simpa using this))).symm)
    have hnn' : ¬ (n : Int) = (n' : Int) := by omega
    go_wp2
    go_ret
    exact ⟨ret_bool HX.out, Below.refl _ _⟩

set_option maxHeartbeats 4000000 in
theorem same_img (A : Option Addr) (c : Nat) (A' : Option Addr) (c' : Nat) (N : List Nm) (Z : List Nz) (D : Option Addr) (d : Nat) (D' : Option Addr) (d' : Nat) (M : List Nm) (Y : List Nz) (w : World) (h : Im w A N.length c A' Z.length c' N Z) (h' : Im w D M.length d D' Y.length d' M Y) (z : Bool) (hz : ig N Z = ig M Y ↔ z = true) :
    Calls Tryz.prog 20 #[iv A N.length c A' Z.length c', iv D M.length d D' Y.length d'] w (TruthPost z w) := by
  have hd : (N = M ∧ Z.map Nz.d = Y.map Nz.d) ↔ z = true := by
    rw [← hz]; show _ ↔ Ig.mk _ _ = Ig.mk _ _
    exact ⟨fun ⟨h1, h2⟩ => by rw [h1, h2], fun h => by injection h with h1 h2; exact ⟨h1, h2⟩⟩
  obtain ⟨W, hW⟩ : ∃ W, (w.alloc (.cells #[.slice A N.length c, .slice A' Z.length c'] 25)).alloc (.cells #[.slice D M.length d, .slice D' Y.length d'] 25) = W := ⟨_, rfl⟩
  have KW := Lib.hid (show Below w.heap.size w W by rw [← hW]; exact ((Below.refl _ _).alloc (Nat.le_refl _) _).alloc (by simp) _)
  have B0 := Lib.hid (show IBox W w.heap.size A N.length c A' Z.length c' by rw [← hW]; exact (ibox_new _ _ _ _ _ _ _).on ((Below.refl _ _).alloc (Nat.le_refl _) _))
  have B1 := Lib.hid (show IBox W (w.heap.size + 1) D M.length d D' Y.length d' by
    rw [← hW]
    have := ibox_new (w.alloc (.cells #[.slice A N.length c, .slice A' Z.length c'] 25)) D M.length d D' Y.length d'
    simpa using this)
  have H := Lib.hid (h.on KW.out); have H' := Lib.hid (h'.on KW.out); have HD := Lib.hid hd
  have HW := Lib.hid hW
  clear h h' hz hd hW
  show Calls Tryz.prog 20 #[.agg #[.slice A N.length c, .slice A' Z.length c'], .agg #[.slice D M.length d, .slice D' Y.length d']] w _
  go_enter Tryz.func20, Tryz.ntmps20
  go_upto_region 1 with fail
  rw [HW.out]
  have b0 := B0.out.c0; have b1 := B0.out.c1; have d0 := B1.out.c0; have d1 := B1.out.c1
  obtain ⟨q, hq⟩ : ∃ q : Bool, N = M ↔ q = true := by
    by_cases h : N = M
    · exact ⟨true, by simp [h]⟩
    · exact ⟨false, by simp [h]⟩
  have HQ := Lib.hid hq
  clear hq
  go_wp2_with fail
  refine (eqn_any A N.length c N D M.length d M W H.out.names H'.out.names q HQ.out).mono ?_
  rintro e w1 ⟨rfl, k1⟩
  have K1 := Lib.hid (KW.out.trans (k1.mono KW.out.size))
  have H1 := Lib.hid (H.out.on k1); have H1' := Lib.hid (H'.out.on k1); have C0 := Lib.hid (B0.out.on k1); have C1 := Lib.hid (B1.out.on k1)
  clear k1 b0 b1 d0 d1
  cases q with
  | false =>
    have HR := Lib.hid (show false = z by
      cases hz : z with
      | true => have := HQ.out.1 (HD.out.2 hz).1; cases this
      | false => rfl)
    go_wp2
    go_ret
    exact ⟨ret_bool HR.out, K1.out⟩
  | true =>
    have HR := Lib.hid (show Z.map Nz.d = Y.map Nz.d ↔ z = true from ⟨fun h => HD.out.1 ⟨HQ.out.2 (by first | rfl | trivial), h⟩, fun h => (HD.out.2 h).2⟩)
    have b0 := C0.out.c0; have b1 := C0.out.c1; have d0 := C1.out.c0; have d1 := C1.out.c1
    go_wp2_with (go_at_call 44; refine (eqz_any A' Z.length c' Z D' Y.length d' Y _ H1.out.nodes H1'.out.nodes H1.out.exts H1'.out.exts z HR.out).mono ?_; rintro e' w2 ⟨rfl, k2⟩; have K2 := Lib.hid (K1.out.trans (k2.mono K1.out.size)); clear k2)
    go_ret
    exact ⟨ret_bool rfl, K2.out⟩
end Go.Proofs.YtgaaieipeiekiaaGreat

namespace Go.Proofs.YtgaaieipeiekiaaGreat
open Go.RowKit
set_option maxRecDepth 100000

def findI (I : Ig) (name : ByteArray) : Int × Bool := match fnd Nm.name I.N name with | some x => (x.ino, true) | none => (0, false)
def getI (I : Ig) (k : Int) : (Int × List Ex) × Bool := match fnd Nd.ino I.D k with | some d => ((d.s, d.L), true) | none => ((0, []), false)
def usedI (I : Ig) : Nat := (I.D.map fun d => d.L.length).sum
theorem find_ig (N : List Nm) (Z : List Nz) (name : ByteArray) : findS N name = findI (ig N Z) name := rfl
theorem get_ig (N : List Nm) (Z : List Nz) (k : Int) : getS Z k = getI (ig N Z) k := by
  unfold getS getI ig
  rw [fnd_map (key := Nd.ino) (key' := Nz.ino) Nz.d (fun _ => rfl) Z k]
  cases fnd Nz.ino Z k <;> rfl
theorem used_ig (N : List Nm) (Z : List Nz) : usedS Z = usedI (ig N Z) := by
  unfold usedS usedI ig
  rw [List.map_map]
  rfl
theorem ig_len {N : List Nm} {Z : List Nz} {I : Ig} (h : ig N Z = I) : N.length = I.N.length ∧ Z.length = I.D.length := by subst h; exact ⟨rfl, by simp [ig]⟩
theorem lens_n {N : List Nm} {Z : List Nz} {K : Nat} {w : World} (hl : Lens K (ig N Z)) (hx : ∀ z ∈ Z, Exts w z.A z.n z.c z.L) : ∀ z ∈ Z, z.n ≤ K := lens_z hl hx
theorem lens_l {N : List Nm} {Z : List Nz} {K : Nat} (hl : Lens K (ig N Z)) : ∀ z ∈ Z, z.L.length ≤ K := fun z hz => hl z.d (List.mem_map_of_mem hz)

section
variable {A : Option Addr} {c : Nat} {A' : Option Addr} {c' : Nat} {N : List Nm} {Z : List Nz} {w : World} {n n' : Nat}
/-- Of an image that may be. -/
theorem find_good (h : Im w A n c A' n' c' N Z) (hg : GoodI (ig N Z)) (name : ByteArray) (k : Int) (y : Bool) (hk : findI (ig N Z) name = (k, y)) : Calls Tryz.prog 9 #[iv A n c A' n' c', .string name] w (IntPost k y w) := by
  obtain rfl := h.names.len
  obtain rfl := h.nodes.len
  exact find_img A c A' c' N Z name w h (by have := (good_lens hg).1; omega) true (by simpa using hg) k y (fun _ => by rw [find_ig N Z]; exact hk) (fun h => by cases h)
theorem get_good (h : Im w A n c A' n' c' N Z) (hg : GoodI (ig N Z)) (K : Nat) (hK : K ≤ 1000000) (hl : Lens K (ig N Z)) (no : Int) (s : Int) (L : List Ex) (y : Bool) (hk : getI (ig N Z) no = ((s, L), y)) : Calls Tryz.prog 11 #[iv A n c A' n' c', .int .i64 no] w (CtPost y s (fun M => M = L) w) := by
  obtain rfl := h.names.len
  obtain rfl := h.nodes.len
  exact get_img A c A' c' N Z no w h (by have := (good_lens hg).2; omega) (fun z hz => by have := lens_n hl h.exts z hz; omega) true (by simpa using hg) s L y (fun _ => by rw [get_ig N Z]; exact hk) (fun h => by cases h)
theorem used_good (h : Im w A n c A' n' c' N Z) (hg : GoodI (ig N Z)) (K : Nat) (hK : K ≤ 1000000) (hl : Lens K (ig N Z)) (k : Int) (hk : (usedI (ig N Z) : Int) = k) : Calls Tryz.prog 18 #[iv A n c A' n' c'] w (NumPost k w) := by
  obtain rfl := h.names.len
  obtain rfl := h.nodes.len
  exact used_img A c A' c' N Z w h (by have := (good_lens hg).2; omega) (fun z hz => by have := lens_l hl z hz; omega) true (by simpa using hg) k (fun _ => by rw [used_ig N Z]; exact hk) (fun h => by cases h)
end
end Go.Proofs.YtgaaieipeiekiaaGreat

namespace Go.Proofs.YtgaaieipeiekiaaGreat
open Go.RowKit
set_option maxRecDepth 100000

def oA : Opv := ⟨1, 1, 0, 0, false, ⟨#[97]⟩, ⟨#[]⟩, []⟩
def oB : Opv := ⟨2, 1, 0, 0, false, ⟨#[]⟩, ⟨#[]⟩, [5]⟩
def oC : Opv := ⟨6, 0, 0, 0, false, ⟨#[97]⟩, ⟨#[98]⟩, []⟩
def iR : Ig := ⟨[⟨⟨#[98]⟩, 1⟩], [⟨1, 1, [⟨0, [5, 0, 0, 0, 0, 0, 0, 0]⟩]⟩]⟩
theorem runs_is : allS (ig [] []) [oA, oB, oC] = iR := by kernel_rfl
theorem runs_good : GoodI iR := by rw [← runs_is]; exact good_all good_nil _
theorem runs_find1 : findI iR ⟨#[98]⟩ = (1, true) := by kernel_rfl
theorem runs_find2 : findI iR ⟨#[97]⟩ = (0, false) := by kernel_rfl
theorem runs_get : getI iR 1 = ((1, [⟨0, [5, 0, 0, 0, 0, 0, 0, 0]⟩]), true) := by kernel_rfl
theorem runs_used : usedI iR = 1 := by kernel_rfl
theorem runs_lens : Lens 1 iR := fun d hd => by simp [iR] at hd; subst hd; exact Nat.le_refl _

set_option maxHeartbeats 8000000 in
theorem law_runs (w : World) : Calls Tryz.prog 8 #[] w (TruthPost true w) := by
  obtain ⟨W0, hW0⟩ : ∃ W0, (w.alloc (.cells #[.int .u8 5] 5)).alloc (.cells #[.int .i64 1, .int .i64 1, .int .i64 0, .int .i64 0, .bool false, .string { data := #[97] }, .string { data := #[] }, .slice none 0 0, .int .i64 2, .int .i64 1, .int .i64 0, .int .i64 0, .bool false, .string { data := #[] }, .string { data := #[] }, .slice (some { block := w.heap.size, off := 0 }) 1 1, .int .i64 6, .int .i64 0, .int .i64 0, .int .i64 0, .bool false, .string { data := #[97] }, .string { data := #[98] }, .slice none 0 0] 42) = W0 := ⟨_, rfl⟩
  have K0 := Lib.hid (show Below w.heap.size w W0 by rw [← hW0]; exact ((Below.refl _ _).alloc (Nat.le_refl _) _).alloc (by simp) _)
  have HO := Lib.hid (show OpsIn W0 (some ⟨w.heap.size + 1, 0, none⟩) 3 3 [⟨oA, none, 0⟩, ⟨oB, some ⟨w.heap.size, 0, none⟩, 1⟩, ⟨oC, none, 0⟩] by
    have hr : Row W0 (w.heap.size + 1) 42 (elO.cells [⟨oA, none, 0⟩, ⟨oB, some ⟨w.heap.size, 0, none⟩, 1⟩, ⟨oC, none, 0⟩]).toArray := by
      rw [← hW0]
      have := Row.new (w.alloc (.cells #[.int .u8 5] 5)) 42 (elO.cells [⟨oA, none, 0⟩, ⟨oB, some ⟨w.heap.size, 0, none⟩, 1⟩, ⟨oC, none, 0⟩]).toArray
      have e : (w.alloc (.cells #[.int .u8 5] 5)).heap.size = w.heap.size + 1 := by simp
      rw [e] at this
      exact this
    refine ⟨(OwnS.mk' (E := elO) (B := 0) (L := [⟨oA, none, 0⟩, ⟨oB, some ⟨w.heap.size, 0, none⟩, 1⟩, ⟨oC, none, 0⟩]) (Nat.zero_le _) hr (Nat.le_refl 3) (by unfold maxLen; omega) rfl rfl).sl', fun x hx => ?_⟩
    have hb : Nums .u8 W0 (some ⟨w.heap.size, 0, none⟩) 1 1 [5] := by
      rw [← hW0]
      have := nums_new .u8 5 w [5] #[] 1 1 rfl (Nat.le_refl _) (by unfold maxLen; omega)
      exact (by simpa using this : Nums .u8 (w.alloc (.cells #[.int .u8 5] 5)) (some ⟨w.heap.size, 0, none⟩) 1 1 [5]).on ((Below.refl _ _).alloc (Nat.le_refl _) _)
    simp at hx
    rcases hx with rfl | rfl | rfl
    · exact ⟨nums_nil .u8 _, by simp [oA], by unfold maxLen; decide, by unfold maxLen; decide⟩
    · exact ⟨hb, by simp [oB], by show oB.name.size ≤ maxLen; unfold maxLen; decide, by show oB.to.size ≤ maxLen; unfold maxLen; decide⟩
    · exact ⟨nums_nil .u8 _, by simp [oC], by unfold maxLen; decide, by unfold maxLen; decide⟩)
  have HW0 := Lib.hid hW0
  clear hW0
  go_enter Tryz.func8, Tryz.ntmps8
  go_wp2_with fail
  rw [HW0.out]
  refine (all_any none 0 none 0 [] [] (some ⟨w.heap.size + 1, 0, none⟩) 3 3 [⟨oA, none, 0⟩, ⟨oB, some ⟨w.heap.size, 0, none⟩, 1⟩, ⟨oC, none, 0⟩] 0 W0 (im_nil W0) (by simp) (by simp) (fun d hd => by simp [ig] at hd) HO.out (by intro x hx; simp at hx; rcases hx with rfl | rfl | rfl; exact ⟨by decide, by decide⟩; (show Small oB; exact ⟨by decide, by decide⟩); exact ⟨by decide, by decide⟩) (by omega) true (by simp [good_nil, ig]) iR (fun _ => runs_is) (fun h => by cases h)).mono ?_
  rintro e w1 ⟨D, d, D', d', M, Y, hi, he, him, k1⟩
  obtain rfl : e = .returned (.agg #[.slice D M.length d, .slice D' Y.length d']) := he
  have K1 := Lib.hid (K0.out.trans (k1.mono K0.out.size))
  have HI := Lib.hid hi
  obtain ⟨W2, hW2⟩ : ∃ W2, w1.alloc (.cells #[.slice D M.length d, .slice D' Y.length d'] 25) = W2 := ⟨_, rfl⟩
  have kk : Below w1.heap.size w1 W2 := by rw [← hW2]; exact (Below.refl _ _).alloc (Nat.le_refl _) _
  have K2 := Lib.hid (K1.out.trans (kk.mono K1.out.size))
  have B2 := Lib.hid (show IBox W2 w1.heap.size D M.length d D' Y.length d' by rw [← hW2]; exact ibox_new _ _ _ _ _ _ _)
  have I2 := Lib.hid (him.im.on kk)
  have HG := Lib.hid (show GoodI (ig M Y) by rw [hi]; exact runs_good)
  have HW2 := Lib.hid hW2
  clear hi him k1 kk hW2
  go_upto_region 2 with fail
  rw [HW2.out]
  have b0 := B2.out.c0; have b1 := B2.out.c1
  go_wp2_with fail
  refine (find_good I2.out HG.out ⟨#[98]⟩ 1 true (by rw [HI.out]; exact runs_find1)).mono ?_
  rintro e w3 ⟨rfl, k3⟩
  have K3 := Lib.hid (K2.out.trans (k3.mono K2.out.size)); have B3 := Lib.hid (B2.out.on k3); have I3 := Lib.hid (I2.out.on k3)
  clear k3 b0 b1
  have b0 := B3.out.c0; have b1 := B3.out.c1
  go_wp2_with fail
  refine (get_good I3.out HG.out 1 (by omega) (by rw [HI.out]; exact runs_lens) 1 1 _ true (by rw [HI.out]; exact runs_get)).mono ?_
  rintro e w4 ⟨F, n, f, L, he, hL, hm, k4⟩
  obtain rfl : e = .returned (.tuple #[.agg #[.int .i64 1, .slice F n f], .bool true]) := he
  have K4 := Lib.hid (K3.out.trans (k4.mono K3.out.size)); have B4 := Lib.hid (B3.out.on k4); have I4 := Lib.hid (I3.out.on k4)
  clear k4 b0 b1 hm hL
  obtain ⟨W5, hW5⟩ : ∃ W5, w4.alloc (.cells #[.int .i64 1, .slice F n f] 32) = W5 := ⟨_, rfl⟩
  have kk : Below w4.heap.size w4 W5 := by rw [← hW5]; exact (Below.refl _ _).alloc (Nat.le_refl _) _
  have K5 := Lib.hid (K4.out.trans (kk.mono K4.out.size))
  have B5 := Lib.hid (B4.out.on kk); have I5 := Lib.hid (I4.out.on kk)
  have C5 := Lib.hid (show Box W5 w4.heap.size 1 F n f by rw [← hW5]; exact box_new _ _ _ _ _)
  have HW5 := Lib.hid hW5
  clear kk hW5
  go_upto_region 4 with fail
  rw [HW5.out]
  have b0 := B5.out.c0; have b1 := B5.out.c1
  go_wp2_with fail
  refine (find_good I5.out HG.out ⟨#[97]⟩ 0 false (by rw [HI.out]; exact runs_find2)).mono ?_
  rintro e w6 ⟨rfl, k6⟩
  have K6 := Lib.hid (K5.out.trans (k6.mono K5.out.size)); have B6 := Lib.hid (B5.out.on k6); have I6 := Lib.hid (I5.out.on k6); have C6 := Lib.hid (C5.out.on k6)
  clear k6 b0 b1
  have b0 := B6.out.c0; have b1 := B6.out.c1; have c0 := C6.out.c0
  go_wp2_with fail
  refine (used_good I6.out HG.out 1 (by omega) (by rw [HI.out]; exact runs_lens) 1 (by rw [HI.out, runs_used]; rfl)).mono ?_
  rintro e w7 ⟨rfl, k7⟩
  have K7 := Lib.hid (K6.out.trans (k7.mono K6.out.size))
  clear k7 b0 b1 c0
  have n1 : okName ⟨#[120, 45, 49]⟩ = true := by decide +kernel
  have n2 : okName ⟨#[45, 120]⟩ = false := by decide +kernel
  have n3 : okName ⟨#[]⟩ = false := by decide +kernel
  have N1 := Lib.hid n1; have N2 := Lib.hid n2; have N3 := Lib.hid n3
  clear n1 n2 n3
  go_wp2_with fail
  refine (name_any ⟨#[120, 45, 49]⟩ w7 (by unfold maxLen; decide) true N1.out).mono ?_
  rintro e w8 ⟨rfl, rfl⟩
  go_wp2_with fail
  refine (name_any ⟨#[45, 120]⟩ w7 (by unfold maxLen; decide) false N2.out).mono ?_
  rintro e w8 ⟨rfl, rfl⟩
  go_wp2_with fail
  refine (name_any ⟨#[]⟩ w7 (by unfold maxLen; decide) false N3.out).mono ?_
  rintro e w8 ⟨rfl, rfl⟩
  go_wp2
  go_ret
  exact ⟨rfl, K7.out⟩
end Go.Proofs.YtgaaieipeiekiaaGreat

namespace Go.Proofs.YtgaaieipeiekiaaGreat
open Go.RowKit
set_option maxRecDepth 100000

theorem okName_no {s : ByteArray} (h0 : 0 < s.size) (h : (s[0].toNat : Int) = 45) : okName s = false := by
  rw [okName, okL, bget s 0 h0, h]; simp
theorem okName_end {s : ByteArray} (h0 : 0 < s.size) (h : (s[0].toNat : Int) ≠ 45) (ha : s.data.toList.all okB = true) : okName s = (decide (1 ≤ s.size) && decide (s.size ≤ 20)) := by
  rw [okName, okL, bget s 0 h0, blen, ha, decide_eq_true h]; simp

set_option maxHeartbeats 4000000 in
theorem rname_any (s : ByteArray) (w : World) (hs : s.size ≤ maxLen) (z : Bool) (hz : okName s = z) : Calls Tryz.prog 14 #[.string s] w fun e w' => e = .returned (.bool z) ∧ w = w' := by
  unfold maxLen at hs
  have HZ := Lib.hid hz
  clear hz
  go_enter Tryz.func14, Tryz.ntmps14
  go_wp2
  go_loop [3] (fun i => ∃ k : Nat, k ≤ s.size ∧ i = .int .i64 k ∧ Hid ((s.data.toList.take k).all okB = true) ∧ Hid (∀ h : 0 < s.size, 0 < k → (s[0].toNat : Int) ≠ 45)) (fun i => s.size - (intOf i).toNat)
  case atStart => exact ⟨0, Nat.zero_le _, rfl, by simp [Hid], fun _ h => absurd h (by omega)⟩
  case round =>
    obtain ⟨k, hk, rfl, HA, HF⟩ := hrel
    by_cases hlt : k < s.size
    · have HT := Lib.hid (btake s k hlt)
      have HB := Lib.hid (ok_bad hlt)
      have u1 := s[k].toNat_lt
      have HK0 := Lib.hid (show k = 0 → (s[k].toNat : Int) = 45 → okName s = false from fun h => by subst h; exact okName_no hlt)
      have HN := Lib.hid (show (k = 0 → (s[k].toNat : Int) ≠ 45) → ∀ h : 0 < s.size, 0 < k + 1 → (s[0].toNat : Int) ≠ 45 from fun h1 h _ => by
        rcases Nat.eq_zero_or_pos k with h0 | h0
        · subst h0; exact h1 rfl
        · exact HF.out h h0)
      obtain ⟨x, hx⟩ : ∃ x : Int, (s[k].toNat : Int) = x := ⟨_, rfl⟩
      have x0 : 0 ≤ x := by omega
      have x1 : x ≤ 255 := by omega
      have HX := Lib.hid hx
      rw [hx] at HK0 HN
      clear u1
      have hcase : (97 ≤ x ∧ x ≤ 122) ∨ (48 ≤ x ∧ x ≤ 57) ∨ x = 46 ∨ x = 95 ∨ (x = 45 ∧ 0 < k) ∨ (x = 45 ∧ k = 0) ∨ ((x < 97 ∨ 122 < x) ∧ (x < 48 ∨ 57 < x) ∧ x ≠ 46 ∧ x ≠ 95 ∧ x ≠ 45) := by omega
      rcases hcase with hc | hc | hc | hc | hc | hc | hc
      · have HV := Lib.hid (okV_yes (x := x) (by omega))
        have q1 : ¬ (s[k].toNat : Int) < 97 := by omega
        have q2 : ¬ 122 < (s[k].toNat : Int) := by omega
        go_wp2
        go_round
        case rel => exact ⟨k + 1, by omega, by go_num, by unfold Hid; rw [HT.out, HA.out, okB_is, HX.out, HV.out]; rfl, HN.out (by omega)⟩
        case measure => simp [intOf]; omega
      · have HV := Lib.hid (okV_yes (x := x) (by omega))
        have q1 : (s[k].toNat : Int) < 97 := by omega
        have q3 : ¬ (s[k].toNat : Int) < 48 := by omega
        have q4 : ¬ 57 < (s[k].toNat : Int) := by omega
        go_wp2
        go_round
        case rel => exact ⟨k + 1, by omega, by go_num, by unfold Hid; rw [HT.out, HA.out, okB_is, HX.out, HV.out]; rfl, HN.out (by omega)⟩
        case measure => simp [intOf]; omega
      · have HV := Lib.hid (okV_yes (x := x) (by omega))
        have q1 : (s[k].toNat : Int) < 97 := by omega
        have q3 : (s[k].toNat : Int) < 48 := by omega
        have q5 : (s[k].toNat : Int) = 46 := by omega
        go_wp2
        go_round
        case rel => exact ⟨k + 1, by omega, by go_num, by unfold Hid; rw [HT.out, HA.out, okB_is, HX.out, HV.out]; rfl, HN.out (by omega)⟩
        case measure => simp [intOf]; omega
      · have HV := Lib.hid (okV_yes (x := x) (by omega))
        have q1 : (s[k].toNat : Int) < 97 := by omega
        have q3 : ¬ (s[k].toNat : Int) < 48 := by omega
        have q4 : 57 < (s[k].toNat : Int) := by omega
        have q5 : ¬ (s[k].toNat : Int) = 46 := by omega
        have q6 : (s[k].toNat : Int) = 95 := by omega
        go_wp2
        go_round
        case rel => exact ⟨k + 1, by omega, by go_num, by unfold Hid; rw [HT.out, HA.out, okB_is, HX.out, HV.out]; rfl, HN.out (by omega)⟩
        case measure => simp [intOf]; omega
      · have HV := Lib.hid (okV_yes (x := x) (by omega))
        have q1 : (s[k].toNat : Int) < 97 := by omega
        have q3 : (s[k].toNat : Int) < 48 := by omega
        have q5 : ¬ (s[k].toNat : Int) = 46 := by omega
        have q6 : ¬ (s[k].toNat : Int) = 95 := by omega
        have q7 : (s[k].toNat : Int) = 45 := by omega
        have q8 : ¬ (k : Int) = 0 := by omega
        go_wp2
        go_round
        case rel => exact ⟨k + 1, by omega, by go_num, by unfold Hid; rw [HT.out, HA.out, okB_is, HX.out, HV.out]; rfl, HN.out (by omega)⟩
        case measure => simp [intOf]; omega
      · obtain ⟨hc1, rfl⟩ := hc
        have HV := Lib.hid (HK0.out rfl hc1)
        have q1 : (s[0].toNat : Int) < 97 := by omega
        have q3 : (s[0].toNat : Int) < 48 := by omega
        have q5 : (x != 46) = true := by simp; omega
        have q6 : (x != 95) = true := by simp; omega
        have q7 : (x != 45) = false := by simp; omega
        go_wp2
        go_ret
        exact ⟨ret_bool (by rw [← HZ.out, HV.out]), by simp⟩
      · obtain ⟨hc1, hc2, hc3, hc4, hc5⟩ := hc
        have HV := Lib.hid (okV_no (x := x) (by omega))
        have q5 : (x != 46) = true := by simp; omega
        have q6 : (x != 95) = true := by simp; omega
        have q7 : (x != 45) = true := by simp; omega
        by_cases r1 : x < 97
        · have q1 : (s[k].toNat : Int) < 97 := by omega
          by_cases r3 : x < 48
          · have q3 : (s[k].toNat : Int) < 48 := by omega
            go_wp2
            go_ret
            exact ⟨ret_bool (by rw [← HZ.out, HB.out (by rw [okB_is, HX.out, HV.out])]), by simp⟩
          · have q3 : ¬ (s[k].toNat : Int) < 48 := by omega
            have q4 : 57 < (s[k].toNat : Int) := by omega
            go_wp2
            go_ret
            exact ⟨ret_bool (by rw [← HZ.out, HB.out (by rw [okB_is, HX.out, HV.out])]), by simp⟩
        · have q1 : ¬ (s[k].toNat : Int) < 97 := by omega
          have q2 : 122 < (s[k].toNat : Int) := by omega
          have q3 : ¬ (s[k].toNat : Int) < 48 := by omega
          have q4 : 57 < (s[k].toNat : Int) := by omega
          go_wp2
          go_ret
          exact ⟨ret_bool (by rw [← HZ.out, HB.out (by rw [okB_is, HX.out, HV.out])]), by simp⟩
    · obtain rfl : k = s.size := by omega
      have HE := Lib.hid (show s.data.toList.all okB = true by have := HA.out; rwa [List.take_of_length_le (Nat.le_of_eq (blen s))] at this)
      by_cases h1 : 1 ≤ s.size
      · have HY := Lib.hid (okName_end h1 (HF.out h1 h1) HE.out)
        by_cases h2 : s.size ≤ 20
        · have h1' : (1 : Int) ≤ (s.size : Int) := by omega
          have h2' : (s.size : Int) ≤ 20 := by omega
          go_wp2
          go_ret
          exact ⟨ret_bool (by rw [← HZ.out, HY.out]; simp [h1, h2]), by simp⟩
        · have h1' : (1 : Int) ≤ (s.size : Int) := by omega
          have h2' : ¬ (s.size : Int) ≤ 20 := by omega
          go_wp2
          go_ret
          exact ⟨ret_bool (by rw [← HZ.out, HY.out]; simp [h2]), by simp⟩
      · have HY := Lib.hid (show okName s = false by rw [okName, okL, blen]; simp [h1])
        have h1' : ¬ (1 : Int) ≤ (s.size : Int) := by omega
        go_wp2
        go_ret
        exact ⟨ret_bool (by rw [← HZ.out, HY.out]), by simp⟩
end Go.Proofs.YtgaaieipeiekiaaGreat

namespace Go.Proofs.YtgaaieipeiekiaaGreat
open Go.RowKit
set_option maxRecDepth 100000

section
variable {α K : Type} [DecidableEq K] [Inhabited α] {key : α → K} {L : List α} {k : K}
/-- Where the first of a key stands; -1 without. -/
def ixOf (key : α → K) (L : List α) (k : K) : Int := match fnd key L k with | none => -1 | some _ => ((L.findIdx fun x => decide (key x = k) : Nat) : Int)
theorem ix_hit {j : Nat} (h : ∀ x ∈ L.take j, key x ≠ k) (hj : j < L.length) (hk : key (L.getD j default) = k) : fnd key L k = some (L.getD j default) ∧ ixOf key L k = j := by
  have hg : L.getD j default = L[j] := by rw [List.getD_eq_getElem?_getD, List.getElem?_eq_getElem hj]; rfl
  rw [hg] at hk ⊢
  have hb : ∀ i (hi : i < j), key (L[i]'(by omega)) ≠ k := fun i hi => h _ (by
    rw [List.mem_take_iff_getElem]; exact ⟨i, by omega, rfl⟩)
  have hf : fnd key L k = some L[j] := by
    unfold fnd
    rw [List.find?_eq_some_iff_getElem]
    exact ⟨by simpa using hk, j, hj, rfl, fun i hi => by simpa using hb i hi⟩
  refine ⟨hf, ?_⟩
  unfold ixOf
  rw [hf]
  have := (List.findIdx_eq (p := fun x => decide (key x = k)) hj).2 ⟨by simpa using hk, fun i hi => by simpa using hb i hi⟩
  simp only [this]
omit [Inhabited α] in
theorem ix_miss (h : fnd key L k = none) : ixOf key L k = -1 := by unfold ixOf; rw [h]
theorem ix_some {x : α} (h : fnd key L k = some x) : ∃ j : Nat, j < L.length ∧ ixOf key L k = j ∧ L.getD j default = x := by
  have hm := fnd_mem h
  have h1 := h
  unfold fnd at h1
  rw [List.find?_eq_some_iff_getElem] at h1
  obtain ⟨hk, j, hj, hx, hb⟩ := h1
  refine ⟨j, hj, ?_, by rw [List.getD_eq_getElem?_getD, List.getElem?_eq_getElem hj]; exact hx⟩
  refine (ix_hit (fun y hy => ?_) hj (by rw [List.getD_eq_getElem?_getD, List.getElem?_eq_getElem hj, Option.getD_some, hx]; exact hm.2)).2
  rw [List.mem_take_iff_getElem] at hy
  obtain ⟨i, hi, rfl⟩ := hy
  simpa using hb i (by omega)
theorem ix_rise {O : Ord K} (hr : Rise O key L) {x : α} (h : fnd key L k = some x) : ixOf key L k = pl O key L k := by
  obtain ⟨h1, h2⟩ := fnd_at hr h
  refine (ix_hit (fun y hy => ?_) h1 (by rw [h2]; exact (fnd_mem h).2)).2
  rw [take_pl] at hy
  exact O.ne (ahd_lt hy)
omit [Inhabited α] in
theorem ix_neg : ixOf key L k < 0 ↔ fnd key L k = none := by
  unfold ixOf
  cases fnd key L k with
  | none => simp
  | some x => simp
omit [DecidableEq K] in
theorem miss_succ {j : Nat} (h : ∀ x ∈ L.take j, key x ≠ k) (hj : j < L.length) (hk : key (L.getD j default) ≠ k) : ∀ x ∈ L.take (j + 1), key x ≠ k := fun x hx => by
  rcases mem_take_succ hj hx with hx | rfl
  · exact h x hx
  · exact hk
end

set_option maxHeartbeats 4000000 in
theorem rnamed_any (A : Option Addr) (n c : Nat) (A' : Option Addr) (n' c' : Nat) (N : List Nm) (Z : List Nz) (k : ByteArray) (w : World) (h : Im w A n c A' n' c' N Z) (r : Int) (hr : ixOf Nm.name N k = r) :
    Calls Tryz.prog 31 #[iv A n c A' n' c', .string k] w (NumPost r w) := by
  obtain ⟨W, hW⟩ : ∃ W, w.alloc (.cells #[.slice A n c, .slice A' n' c'] 25) = W := ⟨_, rfl⟩
  have KW := Lib.hid (show Below w.heap.size w W by rw [← hW]; exact (Below.refl _ _).alloc (Nat.le_refl _) _)
  have B0 := Lib.hid (show IBox W w.heap.size A n c A' n' c' by rw [← hW]; exact ibox_new _ _ _ _ _ _ _)
  have H := Lib.hid (h.on KW.out); have HR := Lib.hid hr
  have HW := Lib.hid hW
  have hm := h.names.max; have hm' := h.nodes.max
  clear h hr hW
  show Calls Tryz.prog 31 #[.agg #[.slice A n c, .slice A' n' c'], .string k] w _
  go_enter Tryz.func31, Tryz.ntmps31
  go_upto_region 1 with fail
  rw [HW.out]
  have b0 := B0.out.c0; have b1 := B0.out.c1
  go_wp2
  go_loop [5] (fun i => ∃ j : Nat, j ≤ n ∧ i = .int .i64 j ∧ Hid (∀ x ∈ N.take j, Nm.name x ≠ k)) (fun i => n - (intOf i).toNat)
  case atStart => exact ⟨0, Nat.zero_le _, rfl, by simp [Hid]⟩
  case round =>
    obtain ⟨j, hj, rfl, HT⟩ := hrel
    have hlen := H.out.names.len
    by_cases hlt : j < n
    · obtain ⟨b, o, rfl, _, _⟩ := H.out.names.cells (by omega)
      have hat := Nms.at H.out.names j hlt
      have hji : (j : Int) < (n : Int) := by omega
      have HM := Lib.hid (miss_succ HT.out (by rw [hlen]; exact hlt))
      have HI := Lib.hid (ix_hit HT.out (by rw [hlen]; exact hlt))
      generalize N.getD j default = x at *
      clear hlen
      obtain ⟨xn, xk⟩ := x
      obtain ⟨c0, c1⟩ := hat
      simp only at c0 c1 HM HI
      by_cases he : xn = k
      · have HX := Lib.hid (show (j : Int) = r by rw [← HR.out, (HI.out he).2])
        have hq : (xn.toList == k.toList) = true := by rw [he]; simp
        clear he
        go_wp2
        go_ret
        exact ⟨ret_int HX.out, KW.out⟩
      · have hq : (xn.toList == k.toList) = false := by
          cases hb : (xn.toList == k.toList) with
          | false => rfl
          | true => exact absurd (toList_inj (by simpa using hb)) he
        have HX := Lib.hid (HM.out he)
        clear he
        go_wp2
        go_round
        case rel => exact ⟨j + 1, by omega, by go_num, HX.out⟩
        case measure => simp [intOf]; omega
    · have HX := Lib.hid (show (-1 : Int) = r by
        rw [← HR.out]
        refine (ix_miss (fnd_none.2 fun x hx => HT.out x ?_)).symm
        rw [List.take_of_length_le (by omega)]; exact hx)
      clear hlen
      go_wp2
      go_ret
      exact ⟨ret_int HX.out, KW.out⟩

set_option maxHeartbeats 4000000 in
theorem rnode_any (A : Option Addr) (n c : Nat) (A' : Option Addr) (n' c' : Nat) (N : List Nm) (Z : List Nz) (k : Int) (w : World) (h : Im w A n c A' n' c' N Z) (r : Int) (hr : ixOf Nz.ino Z k = r) :
    Calls Tryz.prog 34 #[iv A n c A' n' c', .int .i64 k] w (NumPost r w) := by
  obtain ⟨W, hW⟩ : ∃ W, w.alloc (.cells #[.slice A n c, .slice A' n' c'] 25) = W := ⟨_, rfl⟩
  have KW := Lib.hid (show Below w.heap.size w W by rw [← hW]; exact (Below.refl _ _).alloc (Nat.le_refl _) _)
  have B0 := Lib.hid (show IBox W w.heap.size A n c A' n' c' by rw [← hW]; exact ibox_new _ _ _ _ _ _ _)
  have H := Lib.hid (h.on KW.out); have HR := Lib.hid hr
  have HW := Lib.hid hW
  have hm := h.names.max; have hm' := h.nodes.max
  clear h hr hW
  show Calls Tryz.prog 34 #[.agg #[.slice A n c, .slice A' n' c'], .int .i64 k] w _
  go_enter Tryz.func34, Tryz.ntmps34
  go_upto_region 1 with fail
  rw [HW.out]
  have b0 := B0.out.c0; have b1 := B0.out.c1
  go_wp2
  go_loop [5] (fun i => ∃ j : Nat, j ≤ n' ∧ i = .int .i64 j ∧ Hid (∀ x ∈ Z.take j, Nz.ino x ≠ k)) (fun i => n' - (intOf i).toNat)
  case atStart => exact ⟨0, Nat.zero_le _, rfl, by simp [Hid]⟩
  case round =>
    obtain ⟨j, hj, rfl, HT⟩ := hrel
    have hlen := H.out.nodes.len
    by_cases hlt : j < n'
    · obtain ⟨b, o, rfl, _, _⟩ := H.out.nodes.cells (by omega)
      have hat := Nds.at H.out.nodes j hlt
      have hji : (j : Int) < (n' : Int) := by omega
      have HM := Lib.hid (miss_succ HT.out (by rw [hlen]; exact hlt))
      have HI := Lib.hid (ix_hit HT.out (by rw [hlen]; exact hlt))
      generalize Z.getD j default = x at *
      clear hlen
      obtain ⟨xi, xs, xA, xn, xc, xL⟩ := x
      obtain ⟨c0, c1, c2⟩ := hat
      simp only at c0 c1 c2 HM HI
      by_cases he : xi = k
      · have HX := Lib.hid (show (j : Int) = r by rw [← HR.out, (HI.out he).2])
        have hq : (xi == k) = true := by simpa using he
        clear he
        go_wp2
        go_ret
        exact ⟨ret_int HX.out, KW.out⟩
      · have hq : (xi == k) = false := by simpa using he
        have HX := Lib.hid (HM.out he)
        clear he
        go_wp2
        go_round
        case rel => exact ⟨j + 1, by omega, by go_num, HX.out⟩
        case measure => simp [intOf]; omega
    · have HX := Lib.hid (show (-1 : Int) = r by
        rw [← HR.out]
        refine (ix_miss (fnd_none.2 fun x hx => HT.out x ?_)).symm
        rw [List.take_of_length_le (by omega)]; exact hx)
      clear hlen
      go_wp2
      go_ret
      exact ⟨ret_int HX.out, KW.out⟩
end Go.Proofs.YtgaaieipeiekiaaGreat

namespace Go.Proofs.YtgaaieipeiekiaaGreat
open Go.RowKit

/-- A world that only grew out of w. -/
structure Wb (w : World) where
  v : World
  k : Below w.heap.size w v
instance {w : World} : Inhabited (Wb w) := ⟨⟨w, Below.refl _ _⟩⟩
instance {w : World} : Nonempty (Wb w) := ⟨default⟩
theorem wp_region_grew {P : Program} {id : Nat} {Q : Exit → Act → World → Prop} {a : Act} {w : World} {l : List Oper} (hm : P.follows .mixedOrders = true) (hB : Region.lexB .any l.toArray = true)
    (h : wpQuiet P l.toArray (fun w' => ∃ u : Wb w, w' = u.v) (fun a' => ∀ w', (∃ u : Wb w, w' = u.v) → Q .normal a' w') l a) : (Code.region id l.toArray true).wp P Q a w :=
  wp_region_quiet (C := fun w' => ∃ u : Wb w, w' = u.v) hm hB ⟨⟨w.drew, (Below.refl _ _).drew⟩, rfl⟩ (by simpa using h)
section
variable {P : Program} {f : FuncId} {args : Array Value} {w : World} {u : Wb w} {v : Value}
theorem grew_same (h : Calls P f args u.v fun e w' => e = .returned v ∧ u.v = w') : Calls P f args u.v fun e w'' => e = .returned v ∧ ∃ m : Wb w, w'' = m.v :=
  h.mono fun _ _ ⟨h1, h2⟩ => ⟨h1, u, h2.symm⟩
theorem grew_num {k : Int} (h : Calls P f args u.v (NumPost k u.v)) : Calls P f args u.v fun e w'' => e = .returned (.int .i64 k) ∧ ∃ m : Wb w, w'' = m.v :=
  h.mono fun _ _ ⟨h1, h2⟩ => ⟨h1, ⟨_, u.k.trans (h2.mono u.k.size)⟩, rfl⟩
theorem grew_truth {z : Bool} (h : Calls P f args u.v (TruthPost z u.v)) : Calls P f args u.v fun e w'' => e = .returned (.bool z) ∧ ∃ m : Wb w, w'' = m.v :=
  h.mono fun _ _ ⟨h1, h2⟩ => ⟨h1, ⟨_, u.k.trans (h2.mono u.k.size)⟩, rfl⟩
end
end Go.Proofs.YtgaaieipeiekiaaGreat
