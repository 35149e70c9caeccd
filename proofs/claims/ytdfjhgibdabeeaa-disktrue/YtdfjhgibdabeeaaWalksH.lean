/- Contract of disk's Get. -/
import Derived.Test.YtdfjhgibdabeeaaWalksF
import Derived.WalkKit
import Derived.WalkSpells
import Derived.WalkLawsBesides
import Derived.Lib.Hide
import Derived.BigQuiet
import Derived.StillTailTactics
import Derived.Deep.DeepCutAuto
import Derived.Deep.RegionHeld3
namespace Go.Proofs.Ytdfjhgibdabeeaa
open Go.RowKit

def GetPost (P : (Nat → Int) → Nat → World → (Nat → Prop) → Prop) (S : Nat → Prop) (a : Ans) (w : World) (e : Ending) (w' : World) : Prop :=
  ∃ A m c, e = .returned (.tuple #[.slice A m c, .int .i64 a.code]) ∧ Nums .u8 w' A m c a.out ∧ New w A ∧ P a.G a.cl w' S ∧ Only S w w'
theorem get_none {P : (Nat → Int) → Nat → World → (Nat → Prop) → Prop} {S : Nat → Prop} {a : Ans} {w w' : World} (ho : a.out = []) (code : Int) (hc : a.code = code) (h : P a.G a.cl w' S) (k : Only S w w') :
    GetPost P S a w (.returned (.tuple #[.slice none 0 0, .int .i64 code])) w' :=
  ⟨none, 0, 0, by rw [hc], by rw [ho]; exact nums_nil _ _, (fun g o h => by cases h), h, k⟩

theorem dat_piece {b : Nat} {y : Pd} {D : Dev} {G : Nat → Int} {cl : Nat} {w : World} {S : Nat → Prop} {g o c : Nat} (h : Dk b y D G cl w S) (hg : y.da = some ⟨g, o, none⟩) (hc : y.dc = c) (p v : Nat) (hpv : p ≤ v) (hv : v ≤ y.dn) :
    Nums .u8 w (some ⟨g, o + p, none⟩) (v - p) (c - p) ((D.data.drop p).take (v - p)) := by
  have := h.data
  rw [hg, hc] at this
  exact this.piece p (v - p) (by omega)
theorem short_pos (D : Dev) (cl : Nat) : 0 < short D cl := by unfold short; split <;> omega
section
variable {b : Nat} {y : Pd} {D : Dev} {G : Nat → Int} {cl : Nat} {S : Nat → Prop}
set_option maxHeartbeats 1000000 in
theorem get_out (p n : Int) (w : World) (h : Dk b y D G cl w S) (a : Ans) (ha : get D G cl p n = a) (hr : p < 0 ∨ n < 0 ∨ 4096 < n) :
    Calls Try.prog 10 #[.pointer (some ⟨b, 0, none⟩), .int .i64 p, .int .i64 n] w (GetPost (Dk b y D) S a w) := by
  have X := Lib.hid (show GetPost (Dk b y D) S a w (.returned (.tuple #[.slice none 0 0, .int .i64 5])) w by
    rw [get, if_pos hr] at ha
    subst ha
    exact get_none rfl 5 rfl h (Only.refl _ _))
  clear h ha
  go_enter Try.func10, Try.ntmps10
  by_cases h1 : p < 0
  · go_wp2
    go_ret2
    exact X.out
  · by_cases h2 : n < 0
    · go_wp2
      go_ret2
      exact X.out
    · have h3 : 4096 < n := by omega
      go_wp2
      go_ret2
      exact X.out

set_option maxRecDepth 100000 in
set_option maxHeartbeats 2000000 in
theorem get_in (p n : Nat) (w : World) (h : Dk b y D G cl w S) (hO : Okd D) (hG : Sound D G) (hcl : cl ≤ 1000) (hp : (p : Int) ≤ 9223372036854775807) (hn : n ≤ 4096) (a : Ans) (ha : get D G cl p n = a) :
    Calls Try.prog 10 #[.pointer (some ⟨b, 0, none⟩), .int .i64 (p : Nat), .int .i64 (n : Nat)] w (GetPost (Dk b y D) S a w) := by
  have c0 := h.c0
  have HL := Lib.hid h.data.len
  have hdn : y.dn ≤ 400 := by rw [← h.data.len]; exact hO.sizes.data
  have hsn : y.hn ≤ 1000 := by have := hO.sizes.shorts; rw [h.shorts.len] at this; omega
  have H := Lib.hid h; have HA := Lib.hid ha
  clear h ha
  obtain ⟨sh, hsh⟩ : ∃ sh, short D cl = sh := ⟨_, rfl⟩
  have NX := Lib.hid (fun m => next_any (w.drewN m) (H.out.on (below_drewN (Below.refl _ _) m)) hsn sh hsh)
  have HS := Lib.hid hsh
  clear hsh hsn
  generalize y.dn = dn at *
  go_enter Try.func10, Try.ntmps10
  go_upto_region 3 with fail
  go_quiet ((go_at_call 24; exact Calls.quiet_of (NX.out _)))
  have HM := Lib.hid (show (if sh < if (if (dn : Int) - (p : Int) < 0 then 0 else (dn : Int) - (p : Int)) < (n : Int) then if (dn : Int) - (p : Int) < 0 then 0 else (dn : Int) - (p : Int) else (n : Int) then sh else if (if (dn : Int) - (p : Int) < 0 then 0 else (dn : Int) - (p : Int)) < (n : Int) then if (dn : Int) - (p : Int) < 0 then 0 else (dn : Int) - (p : Int) else (n : Int)) = ((ask D cl p n : Nat) : Int) by
    have h1 := HS.out; have h2 := HL.out; have h3 := short_pos D cl
    unfold ask
    rw [h1] at h3 ⊢
    rw [h2]
    repeat' split
    all_goals omega)
  rw [HM.out]
  clear HM
  generalize (if (dn : Int) - (p : Int) < 0 then (0 : Int) else (dn : Int) - (p : Int)) = mx
  have c3 := H.out.c3; have f3 := H.out.f3
  obtain ⟨W, hW⟩ : ∃ W, w.drewN nq = W := ⟨_, rfl⟩
  have K1 : Below w.heap.size w W := by rw [← hW]; exact below_drewN (Below.refl _ _) _
  have c0 : W.cell? ⟨b, 0, none⟩ = some (.slice y.da dn y.dc) := (K1.cell (p := ⟨b, 0, none⟩) (H.out.lt b H.out.mine)).trans c0
  have c3 : W.cell? ⟨b, 3, none⟩ = some (.int .i64 (cl : Nat)) := (K1.cell (p := ⟨b, 3, none⟩) (H.out.lt b H.out.mine)).trans c3
  have f3 : W.frozen? ⟨b, 3, none⟩ = false := (K1.frozen (p := ⟨b, 3, none⟩) (H.out.lt b H.out.mine)).trans f3
  have X := (H.out.on K1).setCalls (cl + 1)
  rw [show (((cl + 1 : Nat)) : Int) = (cl : Int) + 1 from rfl] at X
  have H2 := Lib.hid X.1
  have O2 := Lib.hid ((Only.of_below K1).trans (S := S) (T := S) X.2 (fun d h _ => h))
  have hal := ask_le D cl p n
  have HA0 := Lib.hid (show (ask D cl p n = 0 → a = ⟨[], 0, G, cl + 1⟩) ∧ (ask D cl p n ≠ 0 → a = if fails D G (p / 8) then ⟨[], 1, (if isBad D.bad (p / 8) then G else upd G (p / 8) (G (p / 8) + 1)), cl + 1⟩ else ⟨(D.data.drop p).take (upto D G p (ask D cl p n) - p), 0, G, cl + 1⟩) by
    have h1 := HA.out
    unfold get at h1
    rw [if_neg (by omega)] at h1
    simp only [Int.toNat_natCast] at h1
    refine ⟨fun h => ?_, fun h => ?_⟩
    · rw [if_pos h] at h1; exact h1.symm
    · rw [if_neg h] at h1
      rw [← h1])
  rw [HL.out] at hal
  rw [hW]
  clear X K1 hW NX HS HA
  generalize hAk : ask D cl p n = A at *
  clear hAk
  by_cases hA0 : A = 0
  · subst hA0
    have ha := Lib.hid (HA0.out.1 rfl)
    clear HA0
    go_wp2
    go_ret2
    rw [ha.out]
    exact get_none rfl 0 rfl H2.out O2.out
  · have ha := Lib.hid (HA0.out.2 hA0)
    clear HA0
    have hA1 : decide (A = 0) = false := by simp [hA0]
    have hA2 : ((A : Int) == 0) = false := by simp; omega
    obtain ⟨k, hk⟩ : ∃ k, p / 8 = k := ⟨_, rfl⟩
    have hki : (p : Int) / 8 = (k : Int) := by omega
    have hkm : k < y.m := by rw [H2.out.m, Dev.m, HL.out]; omega
    have HK := Lib.hid hk
    rw [hk] at ha
    clear hk
    obtain ⟨g, hg, hgl, hcs⟩ := H2.out.secs.cells (by omega)
    have HG := Lib.hid hg; have HC := Lib.hid (hcs k hkm)
    have d1 := H2.out.c1
    rw [hg] at d1
    obtain ⟨s0, s1, _, s3⟩ := hcs k hkm
    have HF := Lib.hid (show (isBad D.bad k || decide (0 < leftOf D G k)) = fails D G k from rfl)
    have hLb := leftOf_le hO.sizes.all hO.sizes.soft hG k
    have HLL := Lib.hid (show isBad D.bad k = true → leftOf D G k = 0 from fun h => by rw [leftOf, h]; rfl)
    have HLN := Lib.hid (show isBad D.bad k = false → leftOf D G k = times D.soft k - G k from fun h => by rw [leftOf, h]; rfl)
    clear hg hcs
    have hmi : (k : Int) < (y.m : Int) := by omega
    cases hz : fails D G k with
    | true =>
      have HZ := Lib.hid hz
      have ha1 := Lib.hid (show a = ⟨[], 1, (if isBad D.bad k then G else upd G k (G k + 1)), cl + 1⟩ by rw [ha.out, hz]; rfl)
      clear ha
      rw [hz] at HF
      clear hz
      cases hB : isBad D.bad k with
      | true =>
        have HLE := Lib.hid (HLL.out hB)
        have HU := Lib.hid (show ∀ j, j < y.m → leftOf D G j = upd (leftOf D G) k 0 j from fun j _ => by
          unfold upd
          split
          · rename_i h; rw [h]; exact HLE.out
          · rfl)
        have ha2 := Lib.hid (show a = ⟨[], 1, G, cl + 1⟩ by rw [ha1.out, hB]; rfl)
        rw [HLE.out, hB] at HF
        rw [hB] at s0
        rw [HLE.out] at s1
        clear hB ha1
        go_wp2_with (go_at_call 25; refine (fails_any _ _ _ true HF.out).mono ?_; rintro e1 w1 ⟨rfl, k1⟩; have H3 := Lib.hid (H2.out.on k1); have O3 := Lib.hid (O2.out.trans (T := fun _ => False) (Only.of_below k1) (fun _ h _ => h.elim)); obtain ⟨_, t1, t3⟩ := H3.out.sector HG.out k hkm; rw [HLE.out] at t1; clear k1)
        have X := H3.out.setLeft HG.out k hkm (0) HU.out
        go_ret2
        rw [ha2.out]
        exact get_none rfl 1 rfl X.1 (O3.out.trans X.2 (fun d h _ => h))
      | false =>
        obtain ⟨L, hL⟩ : ∃ L, leftOf D G k = L := ⟨_, rfl⟩
        have HLE := Lib.hid hL
        have HU := Lib.hid (show ∀ j, j < y.m → leftOf D (upd G k (G k + 1)) j = upd (leftOf D G) k (L - 1) j from fun j _ => by
          by_cases hjk : j = k
          · subst hjk
            rw [upd_same, ← HLE.out, HLN.out hB, leftOf, hB, upd_same]
            simp; omega
          · rw [upd_other _ _ _ _ hjk]
            unfold leftOf
            rw [upd_other _ _ _ _ hjk])
        have ha2 := Lib.hid (show a = ⟨[], 1, upd G k (G k + 1), cl + 1⟩ by rw [ha1.out, hB]; rfl)
        rw [hL] at HF s1 hLb
        rw [hB] at HF s0
        have hL1 : 0 < L := by have := HF.out; simpa using this
        have hL2 : ¬ L - 1 < 0 := by omega
        clear hB ha1 hL
        go_wp2_with (go_at_call 25; refine (fails_any _ _ _ true HF.out).mono ?_; rintro e1 w1 ⟨rfl, k1⟩; have H3 := Lib.hid (H2.out.on k1); have O3 := Lib.hid (O2.out.trans (T := fun _ => False) (Only.of_below k1) (fun _ h _ => h.elim)); obtain ⟨_, t1, t3⟩ := H3.out.sector HG.out k hkm; rw [HLE.out] at t1; clear k1)
        have X := H3.out.setLeft HG.out k hkm (L - 1) HU.out
        go_ret2
        rw [ha2.out]
        exact get_none rfl 1 rfl X.1 (O3.out.trans X.2 (fun d h _ => h))
    | false =>
      have ha1 := Lib.hid (show a = ⟨(D.data.drop p).take (upto D G p A - p), 0, G, cl + 1⟩ by rw [ha.out, hz]; rfl)
      obtain ⟨v, hv⟩ : ∃ v, upto D G p A = v := ⟨_, rfl⟩
      have hv1 : p ≤ v := by rw [← hv]; exact stop_ge _ _ _ (by omega) _ _ (by omega)
      have hv2 : v ≤ p + A := by rw [← hv]; exact stop_le _ _ _ _
      rw [hv] at ha1
      obtain ⟨f, hf⟩ : ∃ f, p + A = f := ⟨_, rfl⟩
      have HVE := Lib.hid (show stop (fails D G) f f (p / 8 + 1) = v by rw [← hf]; exact hv)
      have hfd : f ≤ D.data.length := by rw [HL.out]; omega
      have hpf : p ≤ f := by omega
      have hwf : IntKind.i64.wrap ((p : Int) + (A : Int)) = (f : Int) := by rw [← hf]; exact IntWalk.i64_in _ (by omega)
      have HDS := Lib.hid hO.sizes.data
      rw [hz] at HF
      clear ha hz hv hf
      go_wp2_with (go_at_call 25; refine (fails_any _ _ _ false HF.out).mono ?_; rintro e1 w1 ⟨rfl, k1⟩; have H3 := Lib.hid (H2.out.on k1); have O3 := Lib.hid (O2.out.trans (T := fun _ => False) (Only.of_below k1) (fun _ h _ => h.elim)); clear k1)
      obtain ⟨gd, od, hda, _, _⟩ := H3.out.data.cells (by rw [← H3.out.data.len, HL.out]; omega)
      have HD := Lib.hid (H3.out.on (Below.refl _ _).drew)
      have S1 := HD.out.c0
      have hdl : y.dn = dn := by rw [← HL.out]; exact H3.out.data.len.symm
      have hdc : dn ≤ y.dc := by rw [← hdl]; exact H3.out.data.le
      have hdm : y.dc ≤ 9223372036854775807 := by have := H3.out.data.mx; unfold maxLen at this; omega
      have hda2 := Lib.hid hda
      have hdl2 := Lib.hid hdl
      rw [hda, hdl] at S1
      clear hda hdl s0 s1 s3 d1
      generalize hyc : y.dc = dc at *
      have HYC := Lib.hid hyc
      clear hyc
      have i1 : (0 : Int) ≤ (p : Int) := by omega
      have i2 : (p : Int) ≤ (v : Int) := by omega
      have i3 : (v : Int) ≤ (dc : Int) := by omega
      have i4 : ¬ dc = p := by omega
      have i5 : ¬ (dc : Int) = (p : Int) := by omega
      go_region_held3 (fun w' => w'.cell? ⟨b, 0, none⟩ = some (.slice (some ⟨gd, od, none⟩) dn dc))
        (first | assumption | exact S2 | exact S3)
        (first | (go_at_call 26; refine (whole_any p f _ HD.out hfd hpf HDS.out v HVE.out).mono ?_; rintro e2 w2 ⟨rfl, k2⟩; have H4 := HD.out.on k2; have S2 := H4.c0; rw [hda2.out, hdl2.out, HYC.out] at S2; have K4 := k2; have P4 := dat_piece H4 hda2.out HYC.out p v hv1 (by rw [hdl2.out]; omega)) | (go_at_call 21; refine (clone_bytes _ _ _ _ _ P4 (by omega)).mono ?_; rintro e3 w3 ⟨A3, c3', rfl, q1, q2, q3⟩; have H5 := H4.on q3; have S3 := H5.c0; rw [hda2.out, hdl2.out, HYC.out] at S3; have K5 := q3))
      have O4 := (O3.out.drew).trans (T := fun _ => False) (Only.of_below K4) (fun _ h _ => h.elim)
      have O5 := Lib.hid (O4.trans (T := fun _ => False) (Only.of_below K5) (fun _ h _ => h.elim))
      have Q1 := Lib.hid q1; have H6 := Lib.hid H5
      have Q2 := Lib.hid (show New w A3 from fun g o he => Nat.le_trans O4.size (q2 g o he))
      clear q1 q2 q3 H5 S3 K5 K4 S2 H4 P4 O4 S1 hwf
      go_wp2
      go_ret2
      rw [ha1.out]
      exact ⟨A3, v - p, c3', rfl, Q1.out, Q2.out, H6.out, O5.out⟩

theorem get_any (p n : Int) (w : World) (h : Dk b y D G cl w S) (hO : Okd D) (hG : Sound D G) (hcl : cl ≤ 1000) (hp : p ≤ 9223372036854775807) (a : Ans) (ha : get D G cl p n = a) :
    Calls Try.prog 10 #[.pointer (some ⟨b, 0, none⟩), .int .i64 p, .int .i64 n] w (GetPost (Dk b y D) S a w) := by
  by_cases hr : p < 0 ∨ n < 0 ∨ 4096 < n
  · exact get_out p n w h a ha hr
  · obtain ⟨P, rfl⟩ : ∃ P : Nat, p = (P : Int) := ⟨p.toNat, by omega⟩
    obtain ⟨N, rfl⟩ : ∃ N : Nat, n = (N : Int) := ⟨n.toNat, by omega⟩
    exact get_in P N w h hO hG hcl hp (by omega) a ha
end

end Go.Proofs.Ytdfjhgibdabeeaa
