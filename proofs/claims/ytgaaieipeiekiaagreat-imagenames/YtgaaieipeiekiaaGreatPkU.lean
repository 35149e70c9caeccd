/- Contract of the law ImageNames (written by tools/image/mkLwO.py). -/
import Derived.Test.YtgaaieipeiekiaaGreatPkN
import Derived.Test.YtgaaieipeiekiaaGreatPkT
import Derived.Test.YtgaaieipeiekiaaGreatPkS
namespace Go.Proofs.YtgaaieipeiekiaaGreat
open Go.RowKit
set_option maxRecDepth 100000

theorem okName_size {a : ByteArray} (h : okName a = true) : a.size ≤ maxLen := by
  simp only [okName, okL, Bool.and_eq_true, decide_eq_true_eq] at h
  have h2 := h.1.1.2
  rw [blen] at h2
  unfold maxLen
  omega
theorem small_oR (a b : ByteArray) : Small (oR a b) := ⟨Nat.zero_le _, .inl (show (0 : Int) ≤ 400 by decide)⟩
theorem small_oD (a : ByteArray) : Small (oD a) := ⟨Nat.zero_le _, .inl (show (0 : Int) ≤ 400 by decide)⟩
theorem small_oN (a : ByteArray) : Small (oN a) := ⟨Nat.zero_le _, .inl (show (0 : Int) ≤ 400 by decide)⟩
theorem op_oR (w : World) {a b : ByteArray} (ha : a.size ≤ maxLen) (hb : b.size ≤ maxLen) : OpIn w (oR a b) none 0 := ⟨nums_nil .u8 w, by simp [oR], ha, hb⟩
theorem ops_two (w : World) (a : ByteArray) (ha : a.size ≤ maxLen) : OpsIn (w.alloc (.cells #[.int .i64 7, .int .i64 0, .int .i64 0, .int .i64 0, .bool false, .string a, .string { data := #[] }, .slice none 0 0, .int .i64 1, .int .i64 77, .int .i64 0, .int .i64 0, .bool false, .string a, .string { data := #[] }, .slice none 0 0] 42)) (some ⟨w.heap.size, 0, none⟩) 2 2 [⟨oD a, none, 0⟩, ⟨oN a, none, 0⟩] := by
  have hr := Row.new w 42 (elO.cells [⟨oD a, none, 0⟩, ⟨oN a, none, 0⟩]).toArray
  refine ⟨(OwnS.mk' (E := elO) (B := 0) (L := [⟨oD a, none, 0⟩, ⟨oN a, none, 0⟩]) (Nat.zero_le _) hr (Nat.le_refl 2) (by unfold maxLen; omega) rfl rfl).sl', fun x hx => ?_⟩
  simp at hx
  rcases hx with rfl | rfl
  · exact ⟨nums_nil .u8 _, by simp [oD], ha, Nat.zero_le _⟩
  · exact ⟨nums_nil .u8 _, by simp [oN], ha, Nat.zero_le _⟩
theorem get_len {I : Ig} {K : Nat} (h : Lens K I) {n s : Int} {L : List Ex} {y : Bool} (hg : getI I n = ((s, L), y)) : L.length ≤ K := by
  unfold getI at hg
  cases hd : fnd Nd.ino I.D n with
  | none => rw [hd] at hg; injection hg with h1 _; injection h1 with _ h2; subst h2; exact Nat.zero_le _
  | some d => rw [hd] at hg; injection hg with h1 _; injection h1 with _ h2; subst h2; exact h d (fnd_mem hd).1
theorem used_le30 {M : List Nm} {Y : List Nz} (h : Ok 6 M Y) : usedI (ig M Y) ≤ 480 := by
  rw [← used_ig M Y]
  have h1 := used_le (Z := Y) (K := 30) (lens_l h.lens)
  have h2 := (good_lens h.good).2
  have h3 : Y.length * 30 ≤ 16 * 30 := Nat.mul_le_mul_right _ h2
  omega
theorem lens_two {M : List Nm} {Y : List Nz} (h : Ok 6 M Y) (a : ByteArray) : Lens 150 (allS (ig M Y) [oD a, oN a]) := by
  have h1 := lens_apply h.good h.lens (small_oD a)
  exact lens_apply (good_apply h.good _) h1 (small_oN a)

set_option maxHeartbeats 32000000 in
theorem law_names (A : Option Addr) (n c : Nat) (P : List Kp) (x y : Int) (w : World) (h : KpsIn w A n c P) (hx : (Lit.int .u8 x).wf = true) (hy : (Lit.int .u8 y).wf = true) :
    Calls Tryz.prog 6 #[.slice A n c, .int .u8 x, .int .u8 y] w (TruthPost true w) := by
  have hx0 : 0 ≤ x := (bounds_u8 hx).1
  have hy0 : 0 ≤ y := (bounds_u8 hy).1
  have H := Lib.hid h
  clear h hx hy
  go_enter Tryz.func6, Tryz.ntmps6
  go_wp2_with fail
  refine (of_any A n c P w H.out).mono ?_
  rintro e w1 ⟨D, d, D', d', M, Y, he, hok, him, k⟩
  obtain rfl : e = .returned (.agg #[.slice D M.length d, .slice D' Y.length d']) := he
  have HOk := Lib.hid hok
  have hI := him.im
  clear hok him
  have K1 := Lib.hid k
  clear k
  have I1 := Lib.hid hI
  clear hI
  have HN := Lib.hid (show M.length ≤ 1000 ∧ Y.length ≤ 1000 by have := good_lens HOk.out.good; exact ⟨by omega, by omega⟩)
  obtain ⟨w2, hW⟩ : ∃ W, w1.alloc (.cells #[.slice D M.length d, .slice D' Y.length d'] 25) = W := ⟨_, rfl⟩
  have k : Below w1.heap.size w1 w2 := by rw [← hW]; exact (Below.refl _ _).alloc (Nat.le_refl _) _
  have K2 := Lib.hid (K1.out.trans (k.mono K1.out.size))
  have I2 := Lib.hid (I1.out.on k)
  have B2 := Lib.hid (show IBox w2 w1.heap.size D M.length d D' Y.length d' by rw [← hW]; exact ibox_new _ _ _ _ _ _ _)
  have HW := Lib.hid hW
  clear k hW
  go_upto_region 2 with fail
  rw [HW.out]
  clear HW
  go_wp2_with fail
  refine (right_any x _ hx0).mono ?_
  rintro e w3 ⟨a, rfl, ha, k⟩
  have Ha := Lib.hid ha
  have HSa := Lib.hid (okName_size ha)
  clear ha
  have K3 := Lib.hid (K2.out.trans (k.mono K2.out.size))
  have I3 := Lib.hid (I2.out.on k)
  have B3 := Lib.hid (B2.out.on k)
  clear k
  go_wp2_with fail
  refine (right_any y _ hy0).mono ?_
  rintro e w4 ⟨b, rfl, hb, k⟩
  have Hb := Lib.hid hb
  have HSb := Lib.hid (okName_size hb)
  clear hb
  have K4 := Lib.hid (K3.out.trans (k.mono K3.out.size))
  have I4 := Lib.hid (I3.out.on k)
  have B4 := Lib.hid (B3.out.on k)
  clear k
  obtain ⟨⟨n1, ok⟩, hf1⟩ : ∃ p, findI (ig M Y) a = p := ⟨_, rfl⟩
  obtain ⟨⟨⟨cs, cL⟩, cy⟩, hg1⟩ : ∃ p, getI (ig M Y) n1 = p := ⟨_, rfl⟩
  obtain ⟨⟨m1, other⟩, hf2⟩ : ∃ p, findI (ig M Y) b = p := ⟨_, rfl⟩
  obtain ⟨⟨⟨ws, wL⟩, wy⟩, hg2⟩ : ∃ p, getI (ig M Y) m1 = p := ⟨_, rfl⟩
  obtain ⟨u, hu⟩ : ∃ u : Int, (usedI (ig M Y) : Int) = u := ⟨_, rfl⟩
  have HUb := Lib.hid (show 0 ≤ u ∧ u ≤ 1000 by have := used_le30 HOk.out; omega)
  have HLcL := Lib.hid (show cL.length ≤ 30 from get_len HOk.out.lens hg1); have HLw := Lib.hid (show wL.length ≤ 30 from get_len HOk.out.lens hg2)
  have HF1 := Lib.hid hf1; have HG1 := Lib.hid hg1; have HF2 := Lib.hid hf2; have HG2 := Lib.hid hg2; have HU := Lib.hid hu
  clear hf1 hg1 hf2 hg2 hu
  have bc0 := B4.out.c0
  have bc1 := B4.out.c1
  go_wp2_with fail
  refine (find_good I4.out HOk.out.good a n1 ok HF1.out).mono ?_
  rintro e w5 ⟨rfl, k⟩
  have K5 := Lib.hid (K4.out.trans (k.mono K4.out.size))
  have I5 := Lib.hid (I4.out.on k)
  have B5 := Lib.hid (B4.out.on k)
  clear k
  clear bc0 bc1
  have bc0 := B5.out.c0
  have bc1 := B5.out.c1
  go_wp2_with fail
  refine (get_good I5.out HOk.out.good 30 (by omega) HOk.out.lens n1 cs cL cy HG1.out).mono ?_
  rintro e w6 ⟨Ac, nc, cc, Lc, he, hL, hm, k⟩
  obtain rfl : e = .returned (.tuple #[.agg #[.int .i64 cs, .slice Ac nc cc], .bool cy]) := he
  obtain rfl : cL = Lc := hL.symm
  have hxc := hm.exts
  obtain rfl := hxc.len
  clear hm
  have K6 := Lib.hid (K5.out.trans (k.mono K5.out.size))
  have I6 := Lib.hid (I5.out.on k)
  have B6 := Lib.hid (B5.out.on k)
  clear k
  clear bc0 bc1
  have V6 := Lib.hid hxc
  clear hxc
  obtain ⟨w7, hW⟩ : ∃ W, w6.alloc (.cells #[.int .i64 cs, .slice Ac cL.length cc] 32) = W := ⟨_, rfl⟩
  have k : Below w6.heap.size w6 w7 := by rw [← hW]; exact (Below.refl _ _).alloc (Nat.le_refl _) _
  have K7 := Lib.hid (K6.out.trans (k.mono K6.out.size))
  have I7 := Lib.hid (I6.out.on k)
  have B7 := Lib.hid (B6.out.on k)
  have V7 := Lib.hid (V6.out.on k)
  have C7 := Lib.hid (show Box w7 w6.heap.size cs Ac cL.length cc by rw [← hW]; exact box_new _ _ _ _ _)
  have HW := Lib.hid hW
  clear k hW
  go_upto_region 5 with fail
  rw [HW.out]
  clear HW
  have HLc := Lib.hid HLcL.out
  have bc0 := B7.out.c0
  have bc1 := B7.out.c1
  go_wp2_with fail
  refine (find_good I7.out HOk.out.good b m1 other HF2.out).mono ?_
  rintro e w8 ⟨rfl, k⟩
  have K8 := Lib.hid (K7.out.trans (k.mono K7.out.size))
  have I8 := Lib.hid (I7.out.on k)
  have B8 := Lib.hid (B7.out.on k)
  have V8 := Lib.hid (V7.out.on k)
  have C8 := Lib.hid (C7.out.on k)
  clear k
  clear bc0 bc1
  have bc0 := B8.out.c0
  have bc1 := B8.out.c1
  go_wp2_with fail
  refine (get_good I8.out HOk.out.good 30 (by omega) HOk.out.lens m1 ws wL wy HG2.out).mono ?_
  rintro e w9 ⟨Aw, nw, cw, Lw, he, hL, hm, k⟩
  obtain rfl : e = .returned (.tuple #[.agg #[.int .i64 ws, .slice Aw nw cw], .bool wy]) := he
  obtain rfl : wL = Lw := hL.symm
  have hxw := hm.exts
  obtain rfl := hxw.len
  clear hm
  have K9 := Lib.hid (K8.out.trans (k.mono K8.out.size))
  have I9 := Lib.hid (I8.out.on k)
  have B9 := Lib.hid (B8.out.on k)
  have V9 := Lib.hid (V8.out.on k)
  have C9 := Lib.hid (C8.out.on k)
  clear k
  clear bc0 bc1
  have S9 := Lib.hid hxw
  clear hxw
  obtain ⟨w10, hW⟩ : ∃ W, w9.alloc (.cells #[.int .i64 ws, .slice Aw wL.length cw] 32) = W := ⟨_, rfl⟩
  have k : Below w9.heap.size w9 w10 := by rw [← hW]; exact (Below.refl _ _).alloc (Nat.le_refl _) _
  have K10 := Lib.hid (K9.out.trans (k.mono K9.out.size))
  have I10 := Lib.hid (I9.out.on k)
  have B10 := Lib.hid (B9.out.on k)
  have V10 := Lib.hid (V9.out.on k)
  have C10 := Lib.hid (C9.out.on k)
  have S10 := Lib.hid (S9.out.on k)
  have T10 := Lib.hid (show Box w10 w9.heap.size ws Aw wL.length cw by rw [← hW]; exact box_new _ _ _ _ _)
  have HW := Lib.hid hW
  clear k hW
  go_upto_region 7 with fail
  rw [HW.out]
  clear HW
  have bc0 := B10.out.c0
  have bc1 := B10.out.c1
  go_wp2_with fail
  refine (apply_any D d D' d' M Y (oR a b) none 0 30 w10 I10.out HN.out.1 HN.out.2 HOk.out.lens (op_oR w10 HSa.out HSb.out) (small_oR a b) (by omega) true (by simpa using HOk.out.good) (applyS (ig M Y) (oR a b)) (fun _ => rfl) (fun h => by cases h)).mono ?_
  rintro e w11 ⟨F, f, F', f', MJ, YJ, hi, he, him, k⟩
  obtain rfl : e = .returned (.agg #[.slice F MJ.length f, .slice F' YJ.length f']) := he
  have HJi := Lib.hid hi
  have hJ := him.im
  clear hi him
  have K11 := Lib.hid (K10.out.trans (k.mono K10.out.size))
  have I11 := Lib.hid (I10.out.on k)
  have B11 := Lib.hid (B10.out.on k)
  have V11 := Lib.hid (V10.out.on k)
  have C11 := Lib.hid (C10.out.on k)
  have S11 := Lib.hid (S10.out.on k)
  have T11 := Lib.hid (T10.out.on k)
  clear k
  clear bc0 bc1
  have J11 := Lib.hid hJ
  clear hJ
  have HJg := Lib.hid (show GoodI (ig MJ YJ) by rw [HJi.out]; exact good_apply HOk.out.good _)
  have HJl := Lib.hid (show Lens 90 (ig MJ YJ) by rw [HJi.out]; exact lens_apply HOk.out.good HOk.out.lens (small_oR a b))
  obtain ⟨w12, hW⟩ : ∃ W, w11.alloc (.cells #[.slice F MJ.length f, .slice F' YJ.length f'] 25) = W := ⟨_, rfl⟩
  have k : Below w11.heap.size w11 w12 := by rw [← hW]; exact (Below.refl _ _).alloc (Nat.le_refl _) _
  have K12 := Lib.hid (K11.out.trans (k.mono K11.out.size))
  have I12 := Lib.hid (I11.out.on k)
  have B12 := Lib.hid (B11.out.on k)
  have V12 := Lib.hid (V11.out.on k)
  have C12 := Lib.hid (C11.out.on k)
  have S12 := Lib.hid (S11.out.on k)
  have T12 := Lib.hid (T11.out.on k)
  have J12 := Lib.hid (J11.out.on k)
  have R12 := Lib.hid (show IBox w12 w11.heap.size F MJ.length f F' YJ.length f' by rw [← hW]; exact ibox_new _ _ _ _ _ _ _)
  have HW := Lib.hid hW
  clear k hW
  go_upto_region 8 with fail
  rw [HW.out]
  clear HW
  cases ok with
  | false =>
    have HSame := Lib.hid (show ig M Y = ig MJ YJ by rw [HJi.out]; exact (names_same HF1.out (.inl rfl)).symm)
    have bc0 := B12.out.c0
    have bc1 := B12.out.c1
    have rc0 := R12.out.c0
    have rc1 := R12.out.c1
    go_wp2_with fail
    refine (same_img D d D' d' M Y F f F' f' MJ YJ w12 I12.out J12.out true (by simp [HSame.out])).mono ?_
    rintro e w13 ⟨rfl, k⟩
    have K13 := Lib.hid (K12.out.trans (k.mono K12.out.size))
    have I13 := Lib.hid (I12.out.on k)
    have B13 := Lib.hid (B12.out.on k)
    have V13 := Lib.hid (V12.out.on k)
    have C13 := Lib.hid (C12.out.on k)
    have S13 := Lib.hid (S12.out.on k)
    have T13 := Lib.hid (T12.out.on k)
    have J13 := Lib.hid (J12.out.on k)
    have R13 := Lib.hid (R12.out.on k)
    clear k
    clear bc0 bc1 rc0 rc1
    obtain ⟨w14, hW⟩ : ∃ W, w13.alloc (.cells #[.int .i64 7, .int .i64 0, .int .i64 0, .int .i64 0, .bool false, .string a, .string { data := #[] }, .slice none 0 0, .int .i64 1, .int .i64 77, .int .i64 0, .int .i64 0, .bool false, .string a, .string { data := #[] }, .slice none 0 0] 42) = W := ⟨_, rfl⟩
    have k : Below w13.heap.size w13 w14 := by rw [← hW]; exact (Below.refl _ _).alloc (Nat.le_refl _) _
    have hO : OpsIn w14 (some ⟨w13.heap.size, 0, none⟩) 2 2 [⟨oD a, none, 0⟩, ⟨oN a, none, 0⟩] := by rw [← hW]; exact ops_two w13 a HSa.out
    have K14 := Lib.hid (K13.out.trans (k.mono K13.out.size))
    have bc0 := B13.out.c0
    have bc1 := B13.out.c1
    have I14 := Lib.hid (I13.out.on k)
    have B14 := Lib.hid (B13.out.on k)
    have V14 := Lib.hid (V13.out.on k)
    have C14 := Lib.hid (C13.out.on k)
    have S14 := Lib.hid (S13.out.on k)
    have T14 := Lib.hid (T13.out.on k)
    have J14 := Lib.hid (J13.out.on k)
    have R14 := Lib.hid (R13.out.on k)
    have HO := Lib.hid hO; have HW := Lib.hid hW
    clear k hW hO
    go_wp2_with fail
    rw [HW.out]
    clear HW
    refine (all_any D d D' d' M Y (some ⟨w13.heap.size, 0, none⟩) 2 2 [⟨oD a, none, 0⟩, ⟨oN a, none, 0⟩] 30 w14 I14.out HN.out.1 HN.out.2 HOk.out.lens HO.out (by intro x hx; simp at hx; rcases hx with rfl | rfl; exact small_oD a; exact small_oN a) (by omega) true (by simpa using HOk.out.good) (allS (ig M Y) [oD a, oN a]) (fun _ => rfl) (fun h => by cases h)).mono ?_
    rintro e w15 ⟨E, e1, E', e2, MX, YX, hi, he, him, k⟩
    obtain rfl : e = .returned (.agg #[.slice E MX.length e1, .slice E' YX.length e2]) := he
    have HXi := Lib.hid hi
    have hxi := him.im
    clear hi him
    have K15 := Lib.hid (K14.out.trans (k.mono K14.out.size))
    have I15 := Lib.hid (I14.out.on k)
    have B15 := Lib.hid (B14.out.on k)
    have V15 := Lib.hid (V14.out.on k)
    have C15 := Lib.hid (C14.out.on k)
    have S15 := Lib.hid (S14.out.on k)
    have T15 := Lib.hid (T14.out.on k)
    have J15 := Lib.hid (J14.out.on k)
    have R15 := Lib.hid (R14.out.on k)
    clear k
    clear bc0 bc1
    have X15 := Lib.hid hxi
    clear hxi
    have HXg := Lib.hid (show GoodI (ig MX YX) by rw [HXi.out]; exact good_all HOk.out.good _)
    have HXl := Lib.hid (show Lens 150 (ig MX YX) by rw [HXi.out]; exact lens_two HOk.out a)
    have HM := Lib.hid (show Made (ig M Y) (ig MX YX) a cL by rw [HXi.out]; exact names_made HOk.out.good (HOk.out.ino (Nat.le_refl _)) HOk.out.len Ha.out HF1.out HG1.out)
    obtain ⟨w16, hW⟩ : ∃ W, w15.alloc (.cells #[.slice E MX.length e1, .slice E' YX.length e2] 25) = W := ⟨_, rfl⟩
    have k : Below w15.heap.size w15 w16 := by rw [← hW]; exact (Below.refl _ _).alloc (Nat.le_refl _) _
    have K16 := Lib.hid (K15.out.trans (k.mono K15.out.size))
    have I16 := Lib.hid (I15.out.on k)
    have B16 := Lib.hid (B15.out.on k)
    have V16 := Lib.hid (V15.out.on k)
    have C16 := Lib.hid (C15.out.on k)
    have S16 := Lib.hid (S15.out.on k)
    have T16 := Lib.hid (T15.out.on k)
    have J16 := Lib.hid (J15.out.on k)
    have R16 := Lib.hid (R15.out.on k)
    have X16 := Lib.hid (X15.out.on k)
    have P16 := Lib.hid (show IBox w16 w15.heap.size E MX.length e1 E' YX.length e2 by rw [← hW]; exact ibox_new _ _ _ _ _ _ _)
    have HW := Lib.hid hW
    clear k hW
    go_upto_region 21 with fail
    rw [HW.out]
    clear HW
    have pc0 := P16.out.c0
    have pc1 := P16.out.c1
    go_wp2_with fail
    refine (find_good X16.out HXg.out a 77 true HM.out.there).mono ?_
    rintro e w17 ⟨rfl, k⟩
    have K17 := Lib.hid (K16.out.trans (k.mono K16.out.size))
    have I17 := Lib.hid (I16.out.on k)
    have B17 := Lib.hid (B16.out.on k)
    have V17 := Lib.hid (V16.out.on k)
    have C17 := Lib.hid (C16.out.on k)
    have S17 := Lib.hid (S16.out.on k)
    have T17 := Lib.hid (T16.out.on k)
    have J17 := Lib.hid (J16.out.on k)
    have R17 := Lib.hid (R16.out.on k)
    have X17 := Lib.hid (X16.out.on k)
    have P17 := Lib.hid (P16.out.on k)
    clear k
    clear pc0 pc1
    have pc0 := P17.out.c0
    have pc1 := P17.out.c1
    go_wp2_with fail
    refine (get_good X17.out HXg.out 150 (by omega) HXl.out 77 0 [] true HM.out.has).mono ?_
    rintro e w18 ⟨Ax, nx, cx, Lx, he, hL, hm, k⟩
    obtain rfl : e = .returned (.tuple #[.agg #[.int .i64 0, .slice Ax nx cx], .bool true]) := he
    subst hL
    have hxx := hm.exts
    obtain rfl : nx = 0 := hxx.len.symm
    clear hm
    have K18 := Lib.hid (K17.out.trans (k.mono K17.out.size))
    have I18 := Lib.hid (I17.out.on k)
    have B18 := Lib.hid (B17.out.on k)
    have V18 := Lib.hid (V17.out.on k)
    have C18 := Lib.hid (C17.out.on k)
    have S18 := Lib.hid (S17.out.on k)
    have T18 := Lib.hid (T17.out.on k)
    have J18 := Lib.hid (J17.out.on k)
    have R18 := Lib.hid (R17.out.on k)
    have X18 := Lib.hid (X17.out.on k)
    have P18 := Lib.hid (P17.out.on k)
    clear k
    clear pc0 pc1
    have Z18 := Lib.hid hxx
    clear hxx
    obtain ⟨w19, hW⟩ : ∃ W, w18.alloc (.cells #[.int .i64 0, .slice Ax 0 cx] 32) = W := ⟨_, rfl⟩
    have k : Below w18.heap.size w18 w19 := by rw [← hW]; exact (Below.refl _ _).alloc (Nat.le_refl _) _
    have K19 := Lib.hid (K18.out.trans (k.mono K18.out.size))
    have I19 := Lib.hid (I18.out.on k)
    have B19 := Lib.hid (B18.out.on k)
    have V19 := Lib.hid (V18.out.on k)
    have C19 := Lib.hid (C18.out.on k)
    have S19 := Lib.hid (S18.out.on k)
    have T19 := Lib.hid (T18.out.on k)
    have J19 := Lib.hid (J18.out.on k)
    have R19 := Lib.hid (R18.out.on k)
    have X19 := Lib.hid (X18.out.on k)
    have P19 := Lib.hid (P18.out.on k)
    have Z19 := Lib.hid (Z18.out.on k)
    have Q19 := Lib.hid (show Box w19 w18.heap.size 0 Ax 0 cx by rw [← hW]; exact box_new _ _ _ _ _)
    have HW := Lib.hid hW
    clear k hW
    go_upto_region 23 with fail
    rw [HW.out]
    clear HW
    have qb0 := fun u : Wb w19 => (B19.out.on u.k).c0
    have qb1 := fun u : Wb w19 => (B19.out.on u.k).c1
    have qc1 := fun u : Wb w19 => (C19.out.on u.k).c1
    have qp0 := fun u : Wb w19 => (P19.out.on u.k).c0
    have qp1 := fun u : Wb w19 => (P19.out.on u.k).c1
    have qq0 := fun u : Wb w19 => (Q19.out.on u.k).c0
    have qq1 := fun u : Wb w19 => (Q19.out.on u.k).c1
    have Q18 : ∀ v : Wb w19, Calls Tryz.prog 18 #[.agg #[.slice D M.length d, .slice D' Y.length d']] v.v (fun e w'' => e = .returned (.int .i64 u) ∧ ∃ m : Wb w19, w'' = m.v) := fun v => grew_num (used_good (I19.out.on v.k) HOk.out.good 30 (by omega) HOk.out.lens u HU.out)
    have QX : ∀ v : Wb w19, Calls Tryz.prog 18 #[.agg #[.slice E MX.length e1, .slice E' YX.length e2]] v.v (fun e w'' => e = .returned (.int .i64 (u - (cL.length : Int))) ∧ ∃ m : Wb w19, w'' = m.v) := fun v => grew_num (used_good (X19.out.on v.k) HXg.out 150 (by omega) HXl.out _ (by rw [HM.out.used, HU.out]))
    have Q8 : ∀ v : Wb w19, Calls Tryz.prog 8 #[] v.v (fun e w'' => e = .returned (.bool true) ∧ ∃ m : Wb w19, w'' = m.v) := fun v => grew_truth (law_runs _)
    have hu0 := HUb.out.1; have hu1 := HUb.out.2; have hc30 := HLc.out
    obtain ⟨cn, hcn⟩ : ∃ cn, cL.length = cn := ⟨_, rfl⟩
    rw [hcn] at qc1 QX hc30
    clear hcn
    refine wp_region_grew (by kernel_rfl) (by kernel_rfl) ?_
    repeat (go_big_quiet_step (first | (go_at_call 18; with_reducible exact Q18 _) | (go_at_call 18; with_reducible exact QX _) | (go_at_call 8; with_reducible exact Q8 _)))
    refine wpQuiet_nil ?_
    rintro _ ⟨⟨wz, kz⟩, rfl⟩
    try dsimp only
    have KZ := Lib.hid (K19.out.trans (kz.mono K19.out.size))
    clear kz
    go_wp2
    go_ret
    exact ⟨rfl, KZ.out⟩
  | true =>
    by_cases hab : b = a
    · have HSame := Lib.hid (show ig M Y = ig MJ YJ by rw [HJi.out]; exact (names_same HF1.out (.inr hab)).symm)
      have hae : (a.toList == b.toList) = true := by rw [hab]; exact beq_self_eq_true _
      clear hab
      have bc0 := B12.out.c0
      have bc1 := B12.out.c1
      have rc0 := R12.out.c0
      have rc1 := R12.out.c1
      go_wp2_with fail
      refine (same_img D d D' d' M Y F f F' f' MJ YJ w12 I12.out J12.out true (by simp [HSame.out])).mono ?_
      rintro e w13 ⟨rfl, k⟩
      have K13 := Lib.hid (K12.out.trans (k.mono K12.out.size))
      have I13 := Lib.hid (I12.out.on k)
      have B13 := Lib.hid (B12.out.on k)
      have V13 := Lib.hid (V12.out.on k)
      have C13 := Lib.hid (C12.out.on k)
      have S13 := Lib.hid (S12.out.on k)
      have T13 := Lib.hid (T12.out.on k)
      have J13 := Lib.hid (J12.out.on k)
      have R13 := Lib.hid (R12.out.on k)
      clear k
      clear bc0 bc1 rc0 rc1
      clear hae
      obtain ⟨w14, hW⟩ : ∃ W, w13.alloc (.cells #[.int .i64 7, .int .i64 0, .int .i64 0, .int .i64 0, .bool false, .string a, .string { data := #[] }, .slice none 0 0, .int .i64 1, .int .i64 77, .int .i64 0, .int .i64 0, .bool false, .string a, .string { data := #[] }, .slice none 0 0] 42) = W := ⟨_, rfl⟩
      have k : Below w13.heap.size w13 w14 := by rw [← hW]; exact (Below.refl _ _).alloc (Nat.le_refl _) _
      have hO : OpsIn w14 (some ⟨w13.heap.size, 0, none⟩) 2 2 [⟨oD a, none, 0⟩, ⟨oN a, none, 0⟩] := by rw [← hW]; exact ops_two w13 a HSa.out
      have K14 := Lib.hid (K13.out.trans (k.mono K13.out.size))
      have bc0 := B13.out.c0
      have bc1 := B13.out.c1
      have I14 := Lib.hid (I13.out.on k)
      have B14 := Lib.hid (B13.out.on k)
      have V14 := Lib.hid (V13.out.on k)
      have C14 := Lib.hid (C13.out.on k)
      have S14 := Lib.hid (S13.out.on k)
      have T14 := Lib.hid (T13.out.on k)
      have J14 := Lib.hid (J13.out.on k)
      have R14 := Lib.hid (R13.out.on k)
      have HO := Lib.hid hO; have HW := Lib.hid hW
      clear k hW hO
      go_wp2_with fail
      rw [HW.out]
      clear HW
      refine (all_any D d D' d' M Y (some ⟨w13.heap.size, 0, none⟩) 2 2 [⟨oD a, none, 0⟩, ⟨oN a, none, 0⟩] 30 w14 I14.out HN.out.1 HN.out.2 HOk.out.lens HO.out (by intro x hx; simp at hx; rcases hx with rfl | rfl; exact small_oD a; exact small_oN a) (by omega) true (by simpa using HOk.out.good) (allS (ig M Y) [oD a, oN a]) (fun _ => rfl) (fun h => by cases h)).mono ?_
      rintro e w15 ⟨E, e1, E', e2, MX, YX, hi, he, him, k⟩
      obtain rfl : e = .returned (.agg #[.slice E MX.length e1, .slice E' YX.length e2]) := he
      have HXi := Lib.hid hi
      have hxi := him.im
      clear hi him
      have K15 := Lib.hid (K14.out.trans (k.mono K14.out.size))
      have I15 := Lib.hid (I14.out.on k)
      have B15 := Lib.hid (B14.out.on k)
      have V15 := Lib.hid (V14.out.on k)
      have C15 := Lib.hid (C14.out.on k)
      have S15 := Lib.hid (S14.out.on k)
      have T15 := Lib.hid (T14.out.on k)
      have J15 := Lib.hid (J14.out.on k)
      have R15 := Lib.hid (R14.out.on k)
      clear k
      clear bc0 bc1
      have X15 := Lib.hid hxi
      clear hxi
      have HXg := Lib.hid (show GoodI (ig MX YX) by rw [HXi.out]; exact good_all HOk.out.good _)
      have HXl := Lib.hid (show Lens 150 (ig MX YX) by rw [HXi.out]; exact lens_two HOk.out a)
      have HM := Lib.hid (show Made (ig M Y) (ig MX YX) a cL by rw [HXi.out]; exact names_made HOk.out.good (HOk.out.ino (Nat.le_refl _)) HOk.out.len Ha.out HF1.out HG1.out)
      obtain ⟨w16, hW⟩ : ∃ W, w15.alloc (.cells #[.slice E MX.length e1, .slice E' YX.length e2] 25) = W := ⟨_, rfl⟩
      have k : Below w15.heap.size w15 w16 := by rw [← hW]; exact (Below.refl _ _).alloc (Nat.le_refl _) _
      have K16 := Lib.hid (K15.out.trans (k.mono K15.out.size))
      have I16 := Lib.hid (I15.out.on k)
      have B16 := Lib.hid (B15.out.on k)
      have V16 := Lib.hid (V15.out.on k)
      have C16 := Lib.hid (C15.out.on k)
      have S16 := Lib.hid (S15.out.on k)
      have T16 := Lib.hid (T15.out.on k)
      have J16 := Lib.hid (J15.out.on k)
      have R16 := Lib.hid (R15.out.on k)
      have X16 := Lib.hid (X15.out.on k)
      have P16 := Lib.hid (show IBox w16 w15.heap.size E MX.length e1 E' YX.length e2 by rw [← hW]; exact ibox_new _ _ _ _ _ _ _)
      have HW := Lib.hid hW
      clear k hW
      go_upto_region 21 with fail
      rw [HW.out]
      clear HW
      have pc0 := P16.out.c0
      have pc1 := P16.out.c1
      go_wp2_with fail
      refine (find_good X16.out HXg.out a 77 true HM.out.there).mono ?_
      rintro e w17 ⟨rfl, k⟩
      have K17 := Lib.hid (K16.out.trans (k.mono K16.out.size))
      have I17 := Lib.hid (I16.out.on k)
      have B17 := Lib.hid (B16.out.on k)
      have V17 := Lib.hid (V16.out.on k)
      have C17 := Lib.hid (C16.out.on k)
      have S17 := Lib.hid (S16.out.on k)
      have T17 := Lib.hid (T16.out.on k)
      have J17 := Lib.hid (J16.out.on k)
      have R17 := Lib.hid (R16.out.on k)
      have X17 := Lib.hid (X16.out.on k)
      have P17 := Lib.hid (P16.out.on k)
      clear k
      clear pc0 pc1
      have pc0 := P17.out.c0
      have pc1 := P17.out.c1
      go_wp2_with fail
      refine (get_good X17.out HXg.out 150 (by omega) HXl.out 77 0 [] true HM.out.has).mono ?_
      rintro e w18 ⟨Ax, nx, cx, Lx, he, hL, hm, k⟩
      obtain rfl : e = .returned (.tuple #[.agg #[.int .i64 0, .slice Ax nx cx], .bool true]) := he
      subst hL
      have hxx := hm.exts
      obtain rfl : nx = 0 := hxx.len.symm
      clear hm
      have K18 := Lib.hid (K17.out.trans (k.mono K17.out.size))
      have I18 := Lib.hid (I17.out.on k)
      have B18 := Lib.hid (B17.out.on k)
      have V18 := Lib.hid (V17.out.on k)
      have C18 := Lib.hid (C17.out.on k)
      have S18 := Lib.hid (S17.out.on k)
      have T18 := Lib.hid (T17.out.on k)
      have J18 := Lib.hid (J17.out.on k)
      have R18 := Lib.hid (R17.out.on k)
      have X18 := Lib.hid (X17.out.on k)
      have P18 := Lib.hid (P17.out.on k)
      clear k
      clear pc0 pc1
      have Z18 := Lib.hid hxx
      clear hxx
      obtain ⟨w19, hW⟩ : ∃ W, w18.alloc (.cells #[.int .i64 0, .slice Ax 0 cx] 32) = W := ⟨_, rfl⟩
      have k : Below w18.heap.size w18 w19 := by rw [← hW]; exact (Below.refl _ _).alloc (Nat.le_refl _) _
      have K19 := Lib.hid (K18.out.trans (k.mono K18.out.size))
      have I19 := Lib.hid (I18.out.on k)
      have B19 := Lib.hid (B18.out.on k)
      have V19 := Lib.hid (V18.out.on k)
      have C19 := Lib.hid (C18.out.on k)
      have S19 := Lib.hid (S18.out.on k)
      have T19 := Lib.hid (T18.out.on k)
      have J19 := Lib.hid (J18.out.on k)
      have R19 := Lib.hid (R18.out.on k)
      have X19 := Lib.hid (X18.out.on k)
      have P19 := Lib.hid (P18.out.on k)
      have Z19 := Lib.hid (Z18.out.on k)
      have Q19 := Lib.hid (show Box w19 w18.heap.size 0 Ax 0 cx by rw [← hW]; exact box_new _ _ _ _ _)
      have HW := Lib.hid hW
      clear k hW
      go_upto_region 23 with fail
      rw [HW.out]
      clear HW
      have qb0 := fun u : Wb w19 => (B19.out.on u.k).c0
      have qb1 := fun u : Wb w19 => (B19.out.on u.k).c1
      have qc1 := fun u : Wb w19 => (C19.out.on u.k).c1
      have qp0 := fun u : Wb w19 => (P19.out.on u.k).c0
      have qp1 := fun u : Wb w19 => (P19.out.on u.k).c1
      have qq0 := fun u : Wb w19 => (Q19.out.on u.k).c0
      have qq1 := fun u : Wb w19 => (Q19.out.on u.k).c1
      have Q18 : ∀ v : Wb w19, Calls Tryz.prog 18 #[.agg #[.slice D M.length d, .slice D' Y.length d']] v.v (fun e w'' => e = .returned (.int .i64 u) ∧ ∃ m : Wb w19, w'' = m.v) := fun v => grew_num (used_good (I19.out.on v.k) HOk.out.good 30 (by omega) HOk.out.lens u HU.out)
      have QX : ∀ v : Wb w19, Calls Tryz.prog 18 #[.agg #[.slice E MX.length e1, .slice E' YX.length e2]] v.v (fun e w'' => e = .returned (.int .i64 (u - (cL.length : Int))) ∧ ∃ m : Wb w19, w'' = m.v) := fun v => grew_num (used_good (X19.out.on v.k) HXg.out 150 (by omega) HXl.out _ (by rw [HM.out.used, HU.out]))
      have Q8 : ∀ v : Wb w19, Calls Tryz.prog 8 #[] v.v (fun e w'' => e = .returned (.bool true) ∧ ∃ m : Wb w19, w'' = m.v) := fun v => grew_truth (law_runs _)
      have hu0 := HUb.out.1; have hu1 := HUb.out.2; have hc30 := HLc.out
      obtain ⟨cn, hcn⟩ : ∃ cn, cL.length = cn := ⟨_, rfl⟩
      rw [hcn] at qc1 QX hc30
      clear hcn
      refine wp_region_grew (by kernel_rfl) (by kernel_rfl) ?_
      repeat (go_big_quiet_step (first | (go_at_call 18; with_reducible exact Q18 _) | (go_at_call 18; with_reducible exact QX _) | (go_at_call 8; with_reducible exact Q8 _)))
      refine wpQuiet_nil ?_
      rintro _ ⟨⟨wz, kz⟩, rfl⟩
      try dsimp only
      have KZ := Lib.hid (K19.out.trans (kz.mono K19.out.size))
      clear kz
      go_wp2
      go_ret
      exact ⟨rfl, KZ.out⟩
    · have hae : (a.toList == b.toList) = false := beq_eq_false_iff_ne.2 (fun h => hab (toList_inj h).symm)
      have HV := Lib.hid (show Moved (ig M Y) (ig MJ YJ) a b n1 m1 other cs cL wL by rw [HJi.out]; exact names_moved HOk.out.good (HOk.out.ino (Nat.le_refl _)) Hb.out hab HF1.out HF2.out HG1.out HG2.out)
      clear hab
      have rc0 := R12.out.c0
      have rc1 := R12.out.c1
      go_wp2_with fail
      refine (find_good J12.out HJg.out b n1 true HV.out.there).mono ?_
      rintro e w13 ⟨rfl, k⟩
      clear hae
      have K13 := Lib.hid (K12.out.trans (k.mono K12.out.size))
      have I13 := Lib.hid (I12.out.on k)
      have B13 := Lib.hid (B12.out.on k)
      have V13 := Lib.hid (V12.out.on k)
      have C13 := Lib.hid (C12.out.on k)
      have S13 := Lib.hid (S12.out.on k)
      have T13 := Lib.hid (T12.out.on k)
      have J13 := Lib.hid (J12.out.on k)
      have R13 := Lib.hid (R12.out.on k)
      clear k
      clear rc0 rc1
      have rc0 := R13.out.c0
      have rc1 := R13.out.c1
      go_wp2_with fail
      refine (get_good J13.out HJg.out 90 (by omega) HJl.out n1 cs cL true HV.out.has).mono ?_
      rintro e w14 ⟨Ad, nd, cd, Ld, he, hL, hm, k⟩
      obtain rfl : e = .returned (.tuple #[.agg #[.int .i64 cs, .slice Ad nd cd], .bool true]) := he
      obtain rfl : cL = Ld := hL.symm
      have hxd := hm.exts
      obtain rfl := hxd.len
      clear hm
      have K14 := Lib.hid (K13.out.trans (k.mono K13.out.size))
      have I14 := Lib.hid (I13.out.on k)
      have B14 := Lib.hid (B13.out.on k)
      have V14 := Lib.hid (V13.out.on k)
      have C14 := Lib.hid (C13.out.on k)
      have S14 := Lib.hid (S13.out.on k)
      have T14 := Lib.hid (T13.out.on k)
      have J14 := Lib.hid (J13.out.on k)
      have R14 := Lib.hid (R13.out.on k)
      clear k
      clear rc0 rc1
      have O14 := Lib.hid hxd
      clear hxd
      obtain ⟨w15, hW⟩ : ∃ W, w14.alloc (.cells #[.int .i64 cs, .slice Ad cL.length cd] 32) = W := ⟨_, rfl⟩
      have k : Below w14.heap.size w14 w15 := by rw [← hW]; exact (Below.refl _ _).alloc (Nat.le_refl _) _
      have K15 := Lib.hid (K14.out.trans (k.mono K14.out.size))
      have I15 := Lib.hid (I14.out.on k)
      have B15 := Lib.hid (B14.out.on k)
      have V15 := Lib.hid (V14.out.on k)
      have C15 := Lib.hid (C14.out.on k)
      have S15 := Lib.hid (S14.out.on k)
      have T15 := Lib.hid (T14.out.on k)
      have J15 := Lib.hid (J14.out.on k)
      have R15 := Lib.hid (R14.out.on k)
      have O15 := Lib.hid (O14.out.on k)
      have U15 := Lib.hid (show Box w15 w14.heap.size cs Ad cL.length cd by rw [← hW]; exact box_new _ _ _ _ _)
      have HW := Lib.hid hW
      clear k hW
      go_upto_region 13 with fail
      rw [HW.out]
      clear HW
      have rc0 := R15.out.c0
      have rc1 := R15.out.c1
      go_wp2_with fail
      refine (find_good J15.out HJg.out a 0 false HV.out.away).mono ?_
      rintro e w16 ⟨rfl, k⟩
      have K16 := Lib.hid (K15.out.trans (k.mono K15.out.size))
      have I16 := Lib.hid (I15.out.on k)
      have B16 := Lib.hid (B15.out.on k)
      have V16 := Lib.hid (V15.out.on k)
      have C16 := Lib.hid (C15.out.on k)
      have S16 := Lib.hid (S15.out.on k)
      have T16 := Lib.hid (T15.out.on k)
      have J16 := Lib.hid (J15.out.on k)
      have R16 := Lib.hid (R15.out.on k)
      have O16 := Lib.hid (O15.out.on k)
      have U16 := Lib.hid (U15.out.on k)
      clear k
      clear rc0 rc1
      have rc0 := R16.out.c0
      have rc1 := R16.out.c1
      go_wp2_with fail
      refine (get_good J16.out HJg.out 90 (by omega) HJl.out m1 0 [] false HV.out.gone).mono ?_
      rintro e w17 ⟨Ag, ng, cg, Lg, he, hL, hm, k⟩
      obtain rfl : e = .returned (.tuple #[.agg #[.int .i64 0, .slice Ag ng cg], .bool false]) := he
      subst hL
      have hxg := hm.exts
      obtain rfl : ng = 0 := hxg.len.symm
      clear hm
      have K17 := Lib.hid (K16.out.trans (k.mono K16.out.size))
      have I17 := Lib.hid (I16.out.on k)
      have B17 := Lib.hid (B16.out.on k)
      have V17 := Lib.hid (V16.out.on k)
      have C17 := Lib.hid (C16.out.on k)
      have S17 := Lib.hid (S16.out.on k)
      have T17 := Lib.hid (T16.out.on k)
      have J17 := Lib.hid (J16.out.on k)
      have R17 := Lib.hid (R16.out.on k)
      have O17 := Lib.hid (O16.out.on k)
      have U17 := Lib.hid (U16.out.on k)
      clear k
      clear rc0 rc1
      have N17 := Lib.hid hxg
      clear hxg
      obtain ⟨w18, hW⟩ : ∃ W, w17.alloc (.cells #[.int .i64 0, .slice Ag 0 cg] 32) = W := ⟨_, rfl⟩
      have k : Below w17.heap.size w17 w18 := by rw [← hW]; exact (Below.refl _ _).alloc (Nat.le_refl _) _
      have K18 := Lib.hid (K17.out.trans (k.mono K17.out.size))
      have I18 := Lib.hid (I17.out.on k)
      have B18 := Lib.hid (B17.out.on k)
      have V18 := Lib.hid (V17.out.on k)
      have C18 := Lib.hid (C17.out.on k)
      have S18 := Lib.hid (S17.out.on k)
      have T18 := Lib.hid (T17.out.on k)
      have J18 := Lib.hid (J17.out.on k)
      have R18 := Lib.hid (R17.out.on k)
      have O18 := Lib.hid (O17.out.on k)
      have U18 := Lib.hid (U17.out.on k)
      have N18 := Lib.hid (N17.out.on k)
      have G18 := Lib.hid (show Box w18 w17.heap.size 0 Ag 0 cg by rw [← hW]; exact box_new _ _ _ _ _)
      have HW := Lib.hid hW
      clear k hW
      go_upto_region 15 with fail
      rw [HW.out]
      clear HW
      have bc0 := B18.out.c0
      have bc1 := B18.out.c1
      go_wp2_with fail
      refine (used_good I18.out HOk.out.good 30 (by omega) HOk.out.lens u HU.out).mono ?_
      rintro e w19 ⟨rfl, k⟩
      have K19 := Lib.hid (K18.out.trans (k.mono K18.out.size))
      have I19 := Lib.hid (I18.out.on k)
      have B19 := Lib.hid (B18.out.on k)
      have V19 := Lib.hid (V18.out.on k)
      have C19 := Lib.hid (C18.out.on k)
      have S19 := Lib.hid (S18.out.on k)
      have T19 := Lib.hid (T18.out.on k)
      have J19 := Lib.hid (J18.out.on k)
      have R19 := Lib.hid (R18.out.on k)
      have O19 := Lib.hid (O18.out.on k)
      have U19 := Lib.hid (U18.out.on k)
      have N19 := Lib.hid (N18.out.on k)
      have G19 := Lib.hid (G18.out.on k)
      clear k
      clear bc0 bc1
      have hu0 := HUb.out.1; have hu1 := HUb.out.2; have hw30 := HLw.out
      cases other with
      | false =>
        have HJu := Lib.hid (show (usedI (ig MJ YJ) : Int) = u by have := HV.out.used; rw [HU.out] at this; simpa using this)
        have cc0 := C19.out.c0
        have cc1 := C19.out.c1
        have uc0 := U19.out.c0
        have uc1 := U19.out.c1
        have rc0 := R19.out.c0
        have rc1 := R19.out.c1
        go_wp2_with fail
        refine (same_any cs Ac cL.length cc cL cs Ad cL.length cd cL w19 V19.out O19.out true (by simp)).mono ?_
        rintro e w20 ⟨rfl, k⟩
        have K20 := Lib.hid (K19.out.trans (k.mono K19.out.size))
        have I20 := Lib.hid (I19.out.on k)
        have B20 := Lib.hid (B19.out.on k)
        have V20 := Lib.hid (V19.out.on k)
        have C20 := Lib.hid (C19.out.on k)
        have S20 := Lib.hid (S19.out.on k)
        have T20 := Lib.hid (T19.out.on k)
        have J20 := Lib.hid (J19.out.on k)
        have R20 := Lib.hid (R19.out.on k)
        have O20 := Lib.hid (O19.out.on k)
        have U20 := Lib.hid (U19.out.on k)
        have N20 := Lib.hid (N19.out.on k)
        have G20 := Lib.hid (G19.out.on k)
        clear k
        clear cc0 cc1 uc0 uc1 rc0 rc1
        clear hu0 hu1 hw30
        have rc0 := R20.out.c0
        have rc1 := R20.out.c1
        go_wp2_with fail
        refine (used_good J20.out HJg.out 90 (by omega) HJl.out u HJu.out).mono ?_
        rintro e w21 ⟨rfl, k⟩
        have K21 := Lib.hid (K20.out.trans (k.mono K20.out.size))
        have I21 := Lib.hid (I20.out.on k)
        have B21 := Lib.hid (B20.out.on k)
        have V21 := Lib.hid (V20.out.on k)
        have C21 := Lib.hid (C20.out.on k)
        have S21 := Lib.hid (S20.out.on k)
        have T21 := Lib.hid (T20.out.on k)
        have J21 := Lib.hid (J20.out.on k)
        have R21 := Lib.hid (R20.out.on k)
        have O21 := Lib.hid (O20.out.on k)
        have U21 := Lib.hid (U20.out.on k)
        have N21 := Lib.hid (N20.out.on k)
        have G21 := Lib.hid (G20.out.on k)
        clear k
        clear rc0 rc1
        obtain ⟨w22, hW⟩ : ∃ W, w21.alloc (.cells #[.int .i64 7, .int .i64 0, .int .i64 0, .int .i64 0, .bool false, .string a, .string { data := #[] }, .slice none 0 0, .int .i64 1, .int .i64 77, .int .i64 0, .int .i64 0, .bool false, .string a, .string { data := #[] }, .slice none 0 0] 42) = W := ⟨_, rfl⟩
        have k : Below w21.heap.size w21 w22 := by rw [← hW]; exact (Below.refl _ _).alloc (Nat.le_refl _) _
        have hO : OpsIn w22 (some ⟨w21.heap.size, 0, none⟩) 2 2 [⟨oD a, none, 0⟩, ⟨oN a, none, 0⟩] := by rw [← hW]; exact ops_two w21 a HSa.out
        have K22 := Lib.hid (K21.out.trans (k.mono K21.out.size))
        have bc0 := B21.out.c0
        have bc1 := B21.out.c1
        have I22 := Lib.hid (I21.out.on k)
        have B22 := Lib.hid (B21.out.on k)
        have V22 := Lib.hid (V21.out.on k)
        have C22 := Lib.hid (C21.out.on k)
        have S22 := Lib.hid (S21.out.on k)
        have T22 := Lib.hid (T21.out.on k)
        have J22 := Lib.hid (J21.out.on k)
        have R22 := Lib.hid (R21.out.on k)
        have O22 := Lib.hid (O21.out.on k)
        have U22 := Lib.hid (U21.out.on k)
        have N22 := Lib.hid (N21.out.on k)
        have G22 := Lib.hid (G21.out.on k)
        have HO := Lib.hid hO; have HW := Lib.hid hW
        clear k hW hO
        go_wp2_with fail
        rw [HW.out]
        clear HW
        refine (all_any D d D' d' M Y (some ⟨w21.heap.size, 0, none⟩) 2 2 [⟨oD a, none, 0⟩, ⟨oN a, none, 0⟩] 30 w22 I22.out HN.out.1 HN.out.2 HOk.out.lens HO.out (by intro x hx; simp at hx; rcases hx with rfl | rfl; exact small_oD a; exact small_oN a) (by omega) true (by simpa using HOk.out.good) (allS (ig M Y) [oD a, oN a]) (fun _ => rfl) (fun h => by cases h)).mono ?_
        rintro e w23 ⟨E, e1, E', e2, MX, YX, hi, he, him, k⟩
        obtain rfl : e = .returned (.agg #[.slice E MX.length e1, .slice E' YX.length e2]) := he
        have HXi := Lib.hid hi
        have hxi := him.im
        clear hi him
        have K23 := Lib.hid (K22.out.trans (k.mono K22.out.size))
        have I23 := Lib.hid (I22.out.on k)
        have B23 := Lib.hid (B22.out.on k)
        have V23 := Lib.hid (V22.out.on k)
        have C23 := Lib.hid (C22.out.on k)
        have S23 := Lib.hid (S22.out.on k)
        have T23 := Lib.hid (T22.out.on k)
        have J23 := Lib.hid (J22.out.on k)
        have R23 := Lib.hid (R22.out.on k)
        have O23 := Lib.hid (O22.out.on k)
        have U23 := Lib.hid (U22.out.on k)
        have N23 := Lib.hid (N22.out.on k)
        have G23 := Lib.hid (G22.out.on k)
        clear k
        clear bc0 bc1
        have X23 := Lib.hid hxi
        clear hxi
        have HXg := Lib.hid (show GoodI (ig MX YX) by rw [HXi.out]; exact good_all HOk.out.good _)
        have HXl := Lib.hid (show Lens 150 (ig MX YX) by rw [HXi.out]; exact lens_two HOk.out a)
        have HM := Lib.hid (show Made (ig M Y) (ig MX YX) a cL by rw [HXi.out]; exact names_made HOk.out.good (HOk.out.ino (Nat.le_refl _)) HOk.out.len Ha.out HF1.out HG1.out)
        obtain ⟨w24, hW⟩ : ∃ W, w23.alloc (.cells #[.slice E MX.length e1, .slice E' YX.length e2] 25) = W := ⟨_, rfl⟩
        have k : Below w23.heap.size w23 w24 := by rw [← hW]; exact (Below.refl _ _).alloc (Nat.le_refl _) _
        have K24 := Lib.hid (K23.out.trans (k.mono K23.out.size))
        have I24 := Lib.hid (I23.out.on k)
        have B24 := Lib.hid (B23.out.on k)
        have V24 := Lib.hid (V23.out.on k)
        have C24 := Lib.hid (C23.out.on k)
        have S24 := Lib.hid (S23.out.on k)
        have T24 := Lib.hid (T23.out.on k)
        have J24 := Lib.hid (J23.out.on k)
        have R24 := Lib.hid (R23.out.on k)
        have O24 := Lib.hid (O23.out.on k)
        have U24 := Lib.hid (U23.out.on k)
        have N24 := Lib.hid (N23.out.on k)
        have G24 := Lib.hid (G23.out.on k)
        have X24 := Lib.hid (X23.out.on k)
        have P24 := Lib.hid (show IBox w24 w23.heap.size E MX.length e1 E' YX.length e2 by rw [← hW]; exact ibox_new _ _ _ _ _ _ _)
        have HW := Lib.hid hW
        clear k hW
        go_upto_region 21 with fail
        rw [HW.out]
        clear HW
        have pc0 := P24.out.c0
        have pc1 := P24.out.c1
        go_wp2_with fail
        refine (find_good X24.out HXg.out a 77 true HM.out.there).mono ?_
        rintro e w25 ⟨rfl, k⟩
        have K25 := Lib.hid (K24.out.trans (k.mono K24.out.size))
        have I25 := Lib.hid (I24.out.on k)
        have B25 := Lib.hid (B24.out.on k)
        have V25 := Lib.hid (V24.out.on k)
        have C25 := Lib.hid (C24.out.on k)
        have S25 := Lib.hid (S24.out.on k)
        have T25 := Lib.hid (T24.out.on k)
        have J25 := Lib.hid (J24.out.on k)
        have R25 := Lib.hid (R24.out.on k)
        have O25 := Lib.hid (O24.out.on k)
        have U25 := Lib.hid (U24.out.on k)
        have N25 := Lib.hid (N24.out.on k)
        have G25 := Lib.hid (G24.out.on k)
        have X25 := Lib.hid (X24.out.on k)
        have P25 := Lib.hid (P24.out.on k)
        clear k
        clear pc0 pc1
        have pc0 := P25.out.c0
        have pc1 := P25.out.c1
        go_wp2_with fail
        refine (get_good X25.out HXg.out 150 (by omega) HXl.out 77 0 [] true HM.out.has).mono ?_
        rintro e w26 ⟨Ax, nx, cx, Lx, he, hL, hm, k⟩
        obtain rfl : e = .returned (.tuple #[.agg #[.int .i64 0, .slice Ax nx cx], .bool true]) := he
        subst hL
        have hxx := hm.exts
        obtain rfl : nx = 0 := hxx.len.symm
        clear hm
        have K26 := Lib.hid (K25.out.trans (k.mono K25.out.size))
        have I26 := Lib.hid (I25.out.on k)
        have B26 := Lib.hid (B25.out.on k)
        have V26 := Lib.hid (V25.out.on k)
        have C26 := Lib.hid (C25.out.on k)
        have S26 := Lib.hid (S25.out.on k)
        have T26 := Lib.hid (T25.out.on k)
        have J26 := Lib.hid (J25.out.on k)
        have R26 := Lib.hid (R25.out.on k)
        have O26 := Lib.hid (O25.out.on k)
        have U26 := Lib.hid (U25.out.on k)
        have N26 := Lib.hid (N25.out.on k)
        have G26 := Lib.hid (G25.out.on k)
        have X26 := Lib.hid (X25.out.on k)
        have P26 := Lib.hid (P25.out.on k)
        clear k
        clear pc0 pc1
        have Z26 := Lib.hid hxx
        clear hxx
        obtain ⟨w27, hW⟩ : ∃ W, w26.alloc (.cells #[.int .i64 0, .slice Ax 0 cx] 32) = W := ⟨_, rfl⟩
        have k : Below w26.heap.size w26 w27 := by rw [← hW]; exact (Below.refl _ _).alloc (Nat.le_refl _) _
        have K27 := Lib.hid (K26.out.trans (k.mono K26.out.size))
        have I27 := Lib.hid (I26.out.on k)
        have B27 := Lib.hid (B26.out.on k)
        have V27 := Lib.hid (V26.out.on k)
        have C27 := Lib.hid (C26.out.on k)
        have S27 := Lib.hid (S26.out.on k)
        have T27 := Lib.hid (T26.out.on k)
        have J27 := Lib.hid (J26.out.on k)
        have R27 := Lib.hid (R26.out.on k)
        have O27 := Lib.hid (O26.out.on k)
        have U27 := Lib.hid (U26.out.on k)
        have N27 := Lib.hid (N26.out.on k)
        have G27 := Lib.hid (G26.out.on k)
        have X27 := Lib.hid (X26.out.on k)
        have P27 := Lib.hid (P26.out.on k)
        have Z27 := Lib.hid (Z26.out.on k)
        have Q27 := Lib.hid (show Box w27 w26.heap.size 0 Ax 0 cx by rw [← hW]; exact box_new _ _ _ _ _)
        have HW := Lib.hid hW
        clear k hW
        go_upto_region 23 with fail
        rw [HW.out]
        clear HW
        have qb0 := fun u : Wb w27 => (B27.out.on u.k).c0
        have qb1 := fun u : Wb w27 => (B27.out.on u.k).c1
        have qc1 := fun u : Wb w27 => (C27.out.on u.k).c1
        have qp0 := fun u : Wb w27 => (P27.out.on u.k).c0
        have qp1 := fun u : Wb w27 => (P27.out.on u.k).c1
        have qq0 := fun u : Wb w27 => (Q27.out.on u.k).c0
        have qq1 := fun u : Wb w27 => (Q27.out.on u.k).c1
        have Q18 : ∀ v : Wb w27, Calls Tryz.prog 18 #[.agg #[.slice D M.length d, .slice D' Y.length d']] v.v (fun e w'' => e = .returned (.int .i64 u) ∧ ∃ m : Wb w27, w'' = m.v) := fun v => grew_num (used_good (I27.out.on v.k) HOk.out.good 30 (by omega) HOk.out.lens u HU.out)
        have QX : ∀ v : Wb w27, Calls Tryz.prog 18 #[.agg #[.slice E MX.length e1, .slice E' YX.length e2]] v.v (fun e w'' => e = .returned (.int .i64 (u - (cL.length : Int))) ∧ ∃ m : Wb w27, w'' = m.v) := fun v => grew_num (used_good (X27.out.on v.k) HXg.out 150 (by omega) HXl.out _ (by rw [HM.out.used, HU.out]))
        have Q8 : ∀ v : Wb w27, Calls Tryz.prog 8 #[] v.v (fun e w'' => e = .returned (.bool true) ∧ ∃ m : Wb w27, w'' = m.v) := fun v => grew_truth (law_runs _)
        have hu0 := HUb.out.1; have hu1 := HUb.out.2; have hc30 := HLc.out
        obtain ⟨cn, hcn⟩ : ∃ cn, cL.length = cn := ⟨_, rfl⟩
        rw [hcn] at qc1 QX hc30
        clear hcn
        refine wp_region_grew (by kernel_rfl) (by kernel_rfl) ?_
        repeat (go_big_quiet_step (first | (go_at_call 18; with_reducible exact Q18 _) | (go_at_call 18; with_reducible exact QX _) | (go_at_call 8; with_reducible exact Q8 _)))
        refine wpQuiet_nil ?_
        rintro _ ⟨⟨wz, kz⟩, rfl⟩
        try dsimp only
        have KZ := Lib.hid (K27.out.trans (kz.mono K27.out.size))
        clear kz
        go_wp2
        go_ret
        exact ⟨rfl, KZ.out⟩
      | true =>
        have HJu := Lib.hid (show (usedI (ig MJ YJ) : Int) = (u - (wL.length : Int)) by have := HV.out.used; rw [HU.out] at this; simpa using this)
        have cc0 := C19.out.c0
        have cc1 := C19.out.c1
        have uc0 := U19.out.c0
        have uc1 := U19.out.c1
        have rc0 := R19.out.c0
        have rc1 := R19.out.c1
        have tc1 := T19.out.c1
        go_wp2_with fail
        refine (same_any cs Ac cL.length cc cL cs Ad cL.length cd cL w19 V19.out O19.out true (by simp)).mono ?_
        rintro e w20 ⟨rfl, k⟩
        have K20 := Lib.hid (K19.out.trans (k.mono K19.out.size))
        have I20 := Lib.hid (I19.out.on k)
        have B20 := Lib.hid (B19.out.on k)
        have V20 := Lib.hid (V19.out.on k)
        have C20 := Lib.hid (C19.out.on k)
        have S20 := Lib.hid (S19.out.on k)
        have T20 := Lib.hid (T19.out.on k)
        have J20 := Lib.hid (J19.out.on k)
        have R20 := Lib.hid (R19.out.on k)
        have O20 := Lib.hid (O19.out.on k)
        have U20 := Lib.hid (U19.out.on k)
        have N20 := Lib.hid (N19.out.on k)
        have G20 := Lib.hid (G19.out.on k)
        clear k
        clear cc0 cc1 uc0 uc1 rc0 rc1 tc1
        clear hu0 hu1 hw30
        have rc0 := R20.out.c0
        have rc1 := R20.out.c1
        go_wp2_with fail
        refine (used_good J20.out HJg.out 90 (by omega) HJl.out (u - (wL.length : Int)) HJu.out).mono ?_
        rintro e w21 ⟨rfl, k⟩
        have K21 := Lib.hid (K20.out.trans (k.mono K20.out.size))
        have I21 := Lib.hid (I20.out.on k)
        have B21 := Lib.hid (B20.out.on k)
        have V21 := Lib.hid (V20.out.on k)
        have C21 := Lib.hid (C20.out.on k)
        have S21 := Lib.hid (S20.out.on k)
        have T21 := Lib.hid (T20.out.on k)
        have J21 := Lib.hid (J20.out.on k)
        have R21 := Lib.hid (R20.out.on k)
        have O21 := Lib.hid (O20.out.on k)
        have U21 := Lib.hid (U20.out.on k)
        have N21 := Lib.hid (N20.out.on k)
        have G21 := Lib.hid (G20.out.on k)
        clear k
        clear rc0 rc1
        obtain ⟨w22, hW⟩ : ∃ W, w21.alloc (.cells #[.int .i64 7, .int .i64 0, .int .i64 0, .int .i64 0, .bool false, .string a, .string { data := #[] }, .slice none 0 0, .int .i64 1, .int .i64 77, .int .i64 0, .int .i64 0, .bool false, .string a, .string { data := #[] }, .slice none 0 0] 42) = W := ⟨_, rfl⟩
        have k : Below w21.heap.size w21 w22 := by rw [← hW]; exact (Below.refl _ _).alloc (Nat.le_refl _) _
        have hO : OpsIn w22 (some ⟨w21.heap.size, 0, none⟩) 2 2 [⟨oD a, none, 0⟩, ⟨oN a, none, 0⟩] := by rw [← hW]; exact ops_two w21 a HSa.out
        have K22 := Lib.hid (K21.out.trans (k.mono K21.out.size))
        have bc0 := B21.out.c0
        have bc1 := B21.out.c1
        have I22 := Lib.hid (I21.out.on k)
        have B22 := Lib.hid (B21.out.on k)
        have V22 := Lib.hid (V21.out.on k)
        have C22 := Lib.hid (C21.out.on k)
        have S22 := Lib.hid (S21.out.on k)
        have T22 := Lib.hid (T21.out.on k)
        have J22 := Lib.hid (J21.out.on k)
        have R22 := Lib.hid (R21.out.on k)
        have O22 := Lib.hid (O21.out.on k)
        have U22 := Lib.hid (U21.out.on k)
        have N22 := Lib.hid (N21.out.on k)
        have G22 := Lib.hid (G21.out.on k)
        have HO := Lib.hid hO; have HW := Lib.hid hW
        clear k hW hO
        go_wp2_with fail
        rw [HW.out]
        clear HW
        refine (all_any D d D' d' M Y (some ⟨w21.heap.size, 0, none⟩) 2 2 [⟨oD a, none, 0⟩, ⟨oN a, none, 0⟩] 30 w22 I22.out HN.out.1 HN.out.2 HOk.out.lens HO.out (by intro x hx; simp at hx; rcases hx with rfl | rfl; exact small_oD a; exact small_oN a) (by omega) true (by simpa using HOk.out.good) (allS (ig M Y) [oD a, oN a]) (fun _ => rfl) (fun h => by cases h)).mono ?_
        rintro e w23 ⟨E, e1, E', e2, MX, YX, hi, he, him, k⟩
        obtain rfl : e = .returned (.agg #[.slice E MX.length e1, .slice E' YX.length e2]) := he
        have HXi := Lib.hid hi
        have hxi := him.im
        clear hi him
        have K23 := Lib.hid (K22.out.trans (k.mono K22.out.size))
        have I23 := Lib.hid (I22.out.on k)
        have B23 := Lib.hid (B22.out.on k)
        have V23 := Lib.hid (V22.out.on k)
        have C23 := Lib.hid (C22.out.on k)
        have S23 := Lib.hid (S22.out.on k)
        have T23 := Lib.hid (T22.out.on k)
        have J23 := Lib.hid (J22.out.on k)
        have R23 := Lib.hid (R22.out.on k)
        have O23 := Lib.hid (O22.out.on k)
        have U23 := Lib.hid (U22.out.on k)
        have N23 := Lib.hid (N22.out.on k)
        have G23 := Lib.hid (G22.out.on k)
        clear k
        clear bc0 bc1
        have X23 := Lib.hid hxi
        clear hxi
        have HXg := Lib.hid (show GoodI (ig MX YX) by rw [HXi.out]; exact good_all HOk.out.good _)
        have HXl := Lib.hid (show Lens 150 (ig MX YX) by rw [HXi.out]; exact lens_two HOk.out a)
        have HM := Lib.hid (show Made (ig M Y) (ig MX YX) a cL by rw [HXi.out]; exact names_made HOk.out.good (HOk.out.ino (Nat.le_refl _)) HOk.out.len Ha.out HF1.out HG1.out)
        obtain ⟨w24, hW⟩ : ∃ W, w23.alloc (.cells #[.slice E MX.length e1, .slice E' YX.length e2] 25) = W := ⟨_, rfl⟩
        have k : Below w23.heap.size w23 w24 := by rw [← hW]; exact (Below.refl _ _).alloc (Nat.le_refl _) _
        have K24 := Lib.hid (K23.out.trans (k.mono K23.out.size))
        have I24 := Lib.hid (I23.out.on k)
        have B24 := Lib.hid (B23.out.on k)
        have V24 := Lib.hid (V23.out.on k)
        have C24 := Lib.hid (C23.out.on k)
        have S24 := Lib.hid (S23.out.on k)
        have T24 := Lib.hid (T23.out.on k)
        have J24 := Lib.hid (J23.out.on k)
        have R24 := Lib.hid (R23.out.on k)
        have O24 := Lib.hid (O23.out.on k)
        have U24 := Lib.hid (U23.out.on k)
        have N24 := Lib.hid (N23.out.on k)
        have G24 := Lib.hid (G23.out.on k)
        have X24 := Lib.hid (X23.out.on k)
        have P24 := Lib.hid (show IBox w24 w23.heap.size E MX.length e1 E' YX.length e2 by rw [← hW]; exact ibox_new _ _ _ _ _ _ _)
        have HW := Lib.hid hW
        clear k hW
        go_upto_region 21 with fail
        rw [HW.out]
        clear HW
        have pc0 := P24.out.c0
        have pc1 := P24.out.c1
        go_wp2_with fail
        refine (find_good X24.out HXg.out a 77 true HM.out.there).mono ?_
        rintro e w25 ⟨rfl, k⟩
        have K25 := Lib.hid (K24.out.trans (k.mono K24.out.size))
        have I25 := Lib.hid (I24.out.on k)
        have B25 := Lib.hid (B24.out.on k)
        have V25 := Lib.hid (V24.out.on k)
        have C25 := Lib.hid (C24.out.on k)
        have S25 := Lib.hid (S24.out.on k)
        have T25 := Lib.hid (T24.out.on k)
        have J25 := Lib.hid (J24.out.on k)
        have R25 := Lib.hid (R24.out.on k)
        have O25 := Lib.hid (O24.out.on k)
        have U25 := Lib.hid (U24.out.on k)
        have N25 := Lib.hid (N24.out.on k)
        have G25 := Lib.hid (G24.out.on k)
        have X25 := Lib.hid (X24.out.on k)
        have P25 := Lib.hid (P24.out.on k)
        clear k
        clear pc0 pc1
        have pc0 := P25.out.c0
        have pc1 := P25.out.c1
        go_wp2_with fail
        refine (get_good X25.out HXg.out 150 (by omega) HXl.out 77 0 [] true HM.out.has).mono ?_
        rintro e w26 ⟨Ax, nx, cx, Lx, he, hL, hm, k⟩
        obtain rfl : e = .returned (.tuple #[.agg #[.int .i64 0, .slice Ax nx cx], .bool true]) := he
        subst hL
        have hxx := hm.exts
        obtain rfl : nx = 0 := hxx.len.symm
        clear hm
        have K26 := Lib.hid (K25.out.trans (k.mono K25.out.size))
        have I26 := Lib.hid (I25.out.on k)
        have B26 := Lib.hid (B25.out.on k)
        have V26 := Lib.hid (V25.out.on k)
        have C26 := Lib.hid (C25.out.on k)
        have S26 := Lib.hid (S25.out.on k)
        have T26 := Lib.hid (T25.out.on k)
        have J26 := Lib.hid (J25.out.on k)
        have R26 := Lib.hid (R25.out.on k)
        have O26 := Lib.hid (O25.out.on k)
        have U26 := Lib.hid (U25.out.on k)
        have N26 := Lib.hid (N25.out.on k)
        have G26 := Lib.hid (G25.out.on k)
        have X26 := Lib.hid (X25.out.on k)
        have P26 := Lib.hid (P25.out.on k)
        clear k
        clear pc0 pc1
        have Z26 := Lib.hid hxx
        clear hxx
        obtain ⟨w27, hW⟩ : ∃ W, w26.alloc (.cells #[.int .i64 0, .slice Ax 0 cx] 32) = W := ⟨_, rfl⟩
        have k : Below w26.heap.size w26 w27 := by rw [← hW]; exact (Below.refl _ _).alloc (Nat.le_refl _) _
        have K27 := Lib.hid (K26.out.trans (k.mono K26.out.size))
        have I27 := Lib.hid (I26.out.on k)
        have B27 := Lib.hid (B26.out.on k)
        have V27 := Lib.hid (V26.out.on k)
        have C27 := Lib.hid (C26.out.on k)
        have S27 := Lib.hid (S26.out.on k)
        have T27 := Lib.hid (T26.out.on k)
        have J27 := Lib.hid (J26.out.on k)
        have R27 := Lib.hid (R26.out.on k)
        have O27 := Lib.hid (O26.out.on k)
        have U27 := Lib.hid (U26.out.on k)
        have N27 := Lib.hid (N26.out.on k)
        have G27 := Lib.hid (G26.out.on k)
        have X27 := Lib.hid (X26.out.on k)
        have P27 := Lib.hid (P26.out.on k)
        have Z27 := Lib.hid (Z26.out.on k)
        have Q27 := Lib.hid (show Box w27 w26.heap.size 0 Ax 0 cx by rw [← hW]; exact box_new _ _ _ _ _)
        have HW := Lib.hid hW
        clear k hW
        go_upto_region 23 with fail
        rw [HW.out]
        clear HW
        have qb0 := fun u : Wb w27 => (B27.out.on u.k).c0
        have qb1 := fun u : Wb w27 => (B27.out.on u.k).c1
        have qc1 := fun u : Wb w27 => (C27.out.on u.k).c1
        have qp0 := fun u : Wb w27 => (P27.out.on u.k).c0
        have qp1 := fun u : Wb w27 => (P27.out.on u.k).c1
        have qq0 := fun u : Wb w27 => (Q27.out.on u.k).c0
        have qq1 := fun u : Wb w27 => (Q27.out.on u.k).c1
        have Q18 : ∀ v : Wb w27, Calls Tryz.prog 18 #[.agg #[.slice D M.length d, .slice D' Y.length d']] v.v (fun e w'' => e = .returned (.int .i64 u) ∧ ∃ m : Wb w27, w'' = m.v) := fun v => grew_num (used_good (I27.out.on v.k) HOk.out.good 30 (by omega) HOk.out.lens u HU.out)
        have QX : ∀ v : Wb w27, Calls Tryz.prog 18 #[.agg #[.slice E MX.length e1, .slice E' YX.length e2]] v.v (fun e w'' => e = .returned (.int .i64 (u - (cL.length : Int))) ∧ ∃ m : Wb w27, w'' = m.v) := fun v => grew_num (used_good (X27.out.on v.k) HXg.out 150 (by omega) HXl.out _ (by rw [HM.out.used, HU.out]))
        have Q8 : ∀ v : Wb w27, Calls Tryz.prog 8 #[] v.v (fun e w'' => e = .returned (.bool true) ∧ ∃ m : Wb w27, w'' = m.v) := fun v => grew_truth (law_runs _)
        have hu0 := HUb.out.1; have hu1 := HUb.out.2; have hc30 := HLc.out
        obtain ⟨cn, hcn⟩ : ∃ cn, cL.length = cn := ⟨_, rfl⟩
        rw [hcn] at qc1 QX hc30
        clear hcn
        refine wp_region_grew (by kernel_rfl) (by kernel_rfl) ?_
        repeat (go_big_quiet_step (first | (go_at_call 18; with_reducible exact Q18 _) | (go_at_call 18; with_reducible exact QX _) | (go_at_call 8; with_reducible exact Q8 _)))
        refine wpQuiet_nil ?_
        rintro _ ⟨⟨wz, kz⟩, rfl⟩
        try dsimp only
        have KZ := Lib.hid (K27.out.trans (kz.mono K27.out.size))
        clear kz
        go_wp2
        go_ret
        exact ⟨rfl, KZ.out⟩
end Go.Proofs.YtgaaieipeiekiaaGreat
