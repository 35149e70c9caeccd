/- Contract of the reference's Get. -/
import Derived.Test.YtdfjhgibdabeeaaWalksG
import Derived.Test.YtdfjhgibdabeeaaWalksH
import Derived.WalkKit
import Derived.WalkSpells
import Derived.WalkLawsBesides
import Derived.Lib.Hide
import Derived.BigQuiet
import Derived.Deep.DeepCutAuto
namespace Go.Proofs.Ytdfjhgibdabeeaa
open Go.RowKit

theorem get_cases {D : Dev} {G : Nat → Int} {cl p n : Nat} {a : Ans} (h : get D G cl p n = a) (hn : n ≤ 4096) :
    (ask D cl p n = 0 → a = ⟨[], 0, G, cl + 1⟩) ∧ (ask D cl p n ≠ 0 → isBad D.bad (p / 8) = true → a = ⟨[], 1, G, cl + 1⟩) ∧
    (ask D cl p n ≠ 0 → isBad D.bad (p / 8) = false → 0 < leftOf D G (p / 8) → a = ⟨[], 1, upd G (p / 8) (G (p / 8) + 1), cl + 1⟩) ∧
    (ask D cl p n ≠ 0 → isBad D.bad (p / 8) = false → ¬ 0 < leftOf D G (p / 8) → a = ⟨(D.data.drop p).take (upto D G p (ask D cl p n) - p), 0, G, cl + 1⟩) := by
  unfold get at h
  rw [if_neg (by omega)] at h
  simp only [Int.toNat_natCast] at h
  refine ⟨fun h0 => ?_, fun h0 hb => ?_, fun h0 hb hl => ?_, fun h0 hb hl => ?_⟩
  · rw [if_pos h0] at h; exact h.symm
  · rw [if_neg h0, if_pos (by simp [fails, hb]), if_pos hb] at h; exact h.symm
  · rw [if_neg h0, if_pos (by simp [fails, hl]), if_neg (by simp [hb])] at h; exact h.symm
  · rw [if_neg h0, if_neg (by simp [fails, hb, hl])] at h; exact h.symm

section
variable {b : Nat} {x : Hd} {ga : Option Addr} {m : Nat} {D : Dev} {G : Nat → Int} {cl : Nat} {S : Nat → Prop} {W0 : World}
set_option maxHeartbeats 1000000 in
theorem rget_out (p n : Int) (w : World) (h : Rd b x ga m G cl w S) (a : Ans) (ha : get D G cl p n = a) (hr : p < 0 ∨ n < 0 ∨ 4096 < n) :
    Calls Try.prog 19 #[.pointer (some ⟨b, 0, none⟩), .int .i64 p, .int .i64 n] w (GetPost (Rd b x ga m) S a w) := by
  have X := Lib.hid (show GetPost (Rd b x ga m) S a w (.returned (.tuple #[.slice none 0 0, .int .i64 5])) w by
    rw [get, if_pos hr] at ha
    subst ha
    exact get_none rfl 5 rfl h (Only.refl _ _))
  clear h ha
  go_enter Try.func19, Try.ntmps19
  by_cases h1 : p < 0
  · go_wp2
    go_ret2
    exact X.out
  · by_cases h2 : n < 0
    · go_wp2
      go_ret2
      exact X.out
    · have h3 : 4096 < n := by omega
      go_wp2
      go_ret2
      exact X.out

set_option maxRecDepth 100000 in
set_option maxHeartbeats 4000000 in
theorem rget_in (p n : Nat) (w : World) (h : Mine W0 w (Rd b x ga m G cl) S) (hD : DevIn W0 x D) (hm : m = D.m) (hO : Okd D) (hG : Sound D G) (hcl : cl ≤ 1000) (hp : (p : Int) ≤ 9223372036854775807) (hn : n ≤ 4096) (a : Ans) (ha : get D G cl p n = a) :
    Calls Try.prog 19 #[.pointer (some ⟨b, 0, none⟩), .int .i64 (p : Nat), .int .i64 (n : Nat)] w (GetPost (Rd b x ga m) S a w) := by
  have hdl := hD.data.len
  have hdn : x.dn ≤ 400 := by rw [← hdl]; exact hO.sizes.data
  have hhn : x.hn ≤ 200 := by have := hO.sizes.shorts; rw [hD.shorts.len] at this; omega
  have HA := Lib.hid (get_cases ha hn)
  have H := Lib.hid h.obj; have HB := Lib.hid h.below; have HN := Lib.hid h.new
  have X := h.obj.setCalls (cl + 1)
  rw [show (((cl + 1 : Nat)) : Int) = (cl : Int) + 1 from rfl] at X
  have e0 := h.obj.c0; have e3 := h.obj.c3; have e5 := h.obj.c5; have f5 := h.obj.f5
  have KB := h.below.trans (X.2.below h.below.size h.new)
  have HD := Lib.hid (hD.on KB)
  have HDC := Lib.hid (hD.on h.below)
  clear h ha
  obtain ⟨W, hW⟩ : ∃ W, w.setCell ⟨b, 5, none⟩ (.int .i64 ((cl : Int) + 1)) = W := ⟨_, rfl⟩
  rw [hW] at X KB HD
  have H2 := Lib.hid X.1; have O2 := Lib.hid X.2
  have g0 := H2.out.c0; have g3 := H2.out.c3
  have HW := Lib.hid hW
  have hal := ask_le D cl p n
  rw [hdl] at hal
  have HL := Lib.hid hdl
  clear X hdl
  go_enter Try.func19, Try.ntmps19
  go_upto_region 6 with fail
  obtain ⟨q0, hq0⟩ : ∃ q0, min n (x.dn - p) = q0 := ⟨_, rfl⟩
  have HQ := Lib.hid (show (if (if (x.dn : Int) - (p : Int) < 0 then 0 else (x.dn : Int) - (p : Int)) < (n : Int) then if (x.dn : Int) - (p : Int) < 0 then 0 else (x.dn : Int) - (p : Int) else (n : Int)) = (q0 : Int) by
    rw [← hq0]
    repeat' split
    all_goals omega)
  rw [HQ.out]
  clear HQ
  generalize (if (x.dn : Int) - (p : Int) < 0 then (0 : Int) else (x.dn : Int) - (p : Int)) = mx
  have HAK := Lib.hid (show ask D cl p n = min q0 (short D cl).toNat by unfold ask; rw [HL.out, hq0])
  have hq4 : q0 ≤ n := by omega
  clear hW e0 e3 e5 f5 hq0
  generalize hA : ask D cl p n = A at *
  clear hA
  have ways : (∃ g o s, x.ha = some ⟨g, o, none⟩ ∧ W.cell? ⟨g, o + cl, none⟩ = some (.int .i64 s) ∧ cl < x.hn ∧ 0 < s ∧ (if s < (q0 : Int) then s else (q0 : Int)) = (A : Int)) ∨ (∃ g o s, x.ha = some ⟨g, o, none⟩ ∧ W.cell? ⟨g, o + cl, none⟩ = some (.int .i64 s) ∧ cl < x.hn ∧ ¬ 0 < s ∧ q0 = A) ∨ (¬ cl < x.hn ∧ q0 = A) := by
    have hAK := HAK.out
    have hsl := HD.out.shorts.len
    by_cases hk : cl < x.hn
    · obtain ⟨g, o, hg, _, hc⟩ := HD.out.shorts.cells (by omega)
      have c := hc cl hk
      unfold short at hAK
      by_cases hz : 0 < D.shorts.getD cl 0
      · rw [if_pos ⟨by omega, hz⟩] at hAK
        exact .inl ⟨g, o, _, hg, c, hk, hz, by split <;> omega⟩
      · rw [if_neg (fun h => hz h.2)] at hAK
        exact .inr (.inl ⟨g, o, _, hg, c, hk, hz, by omega⟩)
    · unfold short at hAK
      rw [if_neg (fun h => hk (by omega))] at hAK
      exact .inr (.inr ⟨hk, by omega⟩)
  have hm1 : m ≤ 60 := by rw [hm]; have := hO.sizes.m; omega
  have hm8 : x.dn ≤ 8 * m := by rw [hm, Dev.m, HL.out]; omega
  have CB := Lib.hid (fun (k : Nat) (z : Bool) (hz : isBad D.bad k = z) => rbad_any k W H2.out HD.out z hz)
  have CL := Lib.hid (fun (k v : Int) (hv : left D G k = v) => rleft_any k W H2.out HD.out hm hO hG v hv)
  have HM := Lib.hid hm
  have OK := Lib.hid hO
  have SG := Lib.hid hG
  have KBH := Lib.hid KB
  clear HAK hm hO hG hD KB
  rcases ways with ⟨g, o, s, hh, hc, hk, hs, hA⟩ | ⟨g, o, s, hh, hc, hk, hs, rfl⟩ | ⟨hk, rfl⟩
  · have hd : decide (cl < x.hn) = true := by simp; omega
    have hd2 : decide (0 < s) = true := by simp; omega
    have hki : (cl : Int) < (x.hn : Int) := by omega
    rw [hh] at g3
    have HA2 := Lib.hid hA
    clear hA hh
    generalize x.hn = hn' at *
    generalize x.hc = hc' at *
    go_upto_region 8 with fail
    rw [HA2.out]
    clear HA2 hd hd2 hki g3 hc hk hs
    by_cases hA0 : A = 0
    · have ha := Lib.hid (HA.out.1 hA0)
      subst hA0
      go_wp2
      go_ret2
      rw [ha.out]
      exact get_none rfl 0 rfl H2.out O2.out
    · have hA1 : decide (A = 0) = false := by simp [hA0]
      have hA2 : ((A : Int) == 0) = false := by simp; omega
      obtain ⟨k, hk⟩ : ∃ k, p / 8 = k := ⟨_, rfl⟩
      have hki : (p : Int) / 8 = (k : Int) := by omega
      have hkm : k < m := by omega
      have HK := Lib.hid hk
      rw [hk] at HA
      clear hk
      obtain ⟨z, hz⟩ : ∃ z, isBad D.bad k = z := ⟨_, rfl⟩
      cases z with
      | true =>
        have ha := Lib.hid (HA.out.2.1 hA0 hz)
        have HZ := Lib.hid hz
        clear hz
        go_wp2_with (go_at_call 27; refine (CB.out k true HZ.out).mono ?_; rintro e w' ⟨rfl, rfl⟩)
        go_ret2
        rw [ha.out]
        exact get_none rfl 1 rfl H2.out O2.out
      | false =>
        obtain ⟨L, hL⟩ : ∃ L, leftOf D G k = L := ⟨_, rfl⟩
        have HLK := Lib.hid (show left D G (k : Int) = L by rw [left, if_pos (by have := HM.out; omega)]; simpa using hL)
        by_cases hl : 0 < L
        · have ha := Lib.hid (HA.out.2.2.1 hA0 hz (by rw [hL]; exact hl))
          have HZ := Lib.hid hz
          clear hz hL
          obtain ⟨g, hg, _, hc⟩ := H2.out.gone.cells (by omega)
          obtain ⟨s1, s2⟩ := hc k hkm
          have X := Lib.hid (H2.out.setGone hg k hkm (G k + 1))
          have c4 := H2.out.c4
          rw [hg] at c4
          have hGk : 0 ≤ G k ∧ G k ≤ 1200 := by
            have h1 := SG.out k; have h2 := times_le D.soft k OK.out.sizes.all; have h3 := OK.out.sizes.soft
            omega
          obtain ⟨hG0, hG1⟩ := hGk
          clear hc hg
          have hmi : (k : Int) < (m : Int) := by omega
          obtain ⟨gk, hgk⟩ : ∃ gk, G k = gk := ⟨_, rfl⟩
          rw [hgk] at s1 hG0 hG1 X ha
          clear hgk
          go_wp2_with (first | (go_at_call 27; refine (CB.out k false HZ.out).mono ?_; rintro e w' ⟨rfl, rfl⟩) | (go_at_call 16; refine (CL.out k L HLK.out).mono ?_; rintro e w' ⟨rfl, rfl⟩))
          go_ret2
          rw [ha.out]
          exact get_none rfl 1 rfl X.out.1 (O2.out.trans X.out.2 (fun d h _ => h))
        · have ha := Lib.hid (HA.out.2.2.2 hA0 hz (by rw [hL]; exact hl))
          have HZ := Lib.hid hz
          clear hz hL
          obtain ⟨v, hv⟩ : ∃ v, upto D G p A = v := ⟨_, rfl⟩
          have hv1 : p ≤ v := by rw [← hv]; exact stop_ge _ _ _ (by omega) _ _ (by omega)
          have hv2 : v ≤ p + A := by rw [← hv]; exact stop_le _ _ _ _
          rw [hv] at ha
          have HV := Lib.hid (show stop (fails D G) (p + A) (p + A) (k + 1) = v by rw [← HK.out]; exact hv)
          clear hv
          go_wp2_with (first | (go_at_call 27; refine (CB.out k false HZ.out).mono ?_; rintro e w' ⟨rfl, rfl⟩) | (go_at_call 16; refine (CL.out k L HLK.out).mono ?_; rintro e w' ⟨rfl, rfl⟩))
          go_loop [9, 11] (fun qa ti => ∃ t q : Nat, ti = .int .i64 t ∧ qa = .int .i64 q ∧ t ≤ 100 ∧ q ≤ A ∧ Hid ((∃ f, q = A ∧ p + A ≤ f + t ∧ stop (fails D G) (p + A) f t = v) ∨ (p + q = v ∧ v ≤ 8 * t))) (fun _ ti => 200 - (intOf ti).toNat)
          case atStart => exact ⟨k + 1, A, by go_num, rfl, by omega, Nat.le_refl _, .inl ⟨p + A, rfl, by omega, HV.out⟩⟩
          case round =>
            obtain ⟨t, q, rfl, rfl, ht, hq, HR⟩ := hrel
            by_cases hlt : 8 * t < p + q
            · have hR := HR.out.resolve_right (fun h => by omega)
              obtain ⟨f, hqA, hf, hst⟩ := hR
              have HX := Lib.hid ((stop_at (fails D G) (p + A) f t hf).1 (by omega))
              have HST := Lib.hid hst
              have HQA := Lib.hid hqA
              clear hst hqA HR
              have htm : t < m := by omega
              have hti : (t : Int) * 8 < (p : Int) + (q : Int) := by omega
              obtain ⟨z, hz⟩ : ∃ z, isBad D.bad t = z := ⟨_, rfl⟩
              obtain ⟨M, hM⟩ : ∃ M, leftOf D G t = M := ⟨_, rfl⟩
              have HLT := Lib.hid (show left D G (t : Int) = M by rw [left, if_pos (by have := HM.out; omega)]; simpa using hM)
              have HF := Lib.hid (show (z || decide (0 < M)) = fails D G t by rw [fails, hz, hM])
              have HZT := Lib.hid hz
              clear hz hM
              cases z with
              | true =>
                have HE := Lib.hid (show v = 8 * t by rw [← HST.out, HX.out, ← HF.out]; rfl)
                go_wp2_with (first | (go_at_call 27; refine (CB.out t true HZT.out).mono ?_; rintro e w' ⟨rfl, rfl⟩) | (go_at_call 16; refine (CL.out t M HLT.out).mono ?_; rintro e w' ⟨rfl, rfl⟩))
                go_round
                case rel => exact ⟨t + 1, 8 * t - p, by go_num, by have := HE.out; congr 1; omega, by omega, by have := HE.out; omega, .inr (by have := HE.out; omega)⟩
                case measure => simp [intOf]; omega
              | false =>
                by_cases hMl : 0 < M
                · have HE := Lib.hid (show v = 8 * t by rw [← HST.out, HX.out, ← HF.out]; simp [hMl])
                  go_wp2_with (first | (go_at_call 27; refine (CB.out t false HZT.out).mono ?_; rintro e w' ⟨rfl, rfl⟩) | (go_at_call 16; refine (CL.out t M HLT.out).mono ?_; rintro e w' ⟨rfl, rfl⟩))
                  go_round
                  case rel => exact ⟨t + 1, 8 * t - p, by go_num, by have := HE.out; congr 1; omega, by omega, by have := HE.out; omega, .inr (by have := HE.out; omega)⟩
                  case measure => simp [intOf]; omega
                · have HE := Lib.hid (show stop (fails D G) (p + A) (f - 1) (t + 1) = v by rw [← HST.out, HX.out, ← HF.out]; simp [hMl])
                  go_wp2_with (first | (go_at_call 27; refine (CB.out t false HZT.out).mono ?_; rintro e w' ⟨rfl, rfl⟩) | (go_at_call 16; refine (CL.out t M HLT.out).mono ?_; rintro e w' ⟨rfl, rfl⟩))
                  go_round
                  case rel => exact ⟨t + 1, q, by go_num, rfl, by omega, hq, .inl ⟨f - 1, HQA.out, by omega, HE.out⟩⟩
                  case measure => simp [intOf]; omega
            · have HE := Lib.hid (show p + q = v by
                rcases HR.out with ⟨f, hqA, hf, hst⟩ | ⟨h, _⟩
                · rw [(stop_at (fails D G) (p + A) f t hf).2 (by omega)] at hst; omega
                · exact h)
              have hti : ¬ (t : Int) * 8 < (p : Int) + (q : Int) := by omega
              obtain ⟨gd, od, hda, _, _⟩ := HD.out.data.cells (by omega)
              have hpc := HD.out.data
              rw [hda] at hpc g0
              have PC := Lib.hid (hpc.piece p q (by omega))
              have hdc : x.dn ≤ x.dc := HD.out.data.le
              have hdm : x.dc ≤ 9223372036854775807 := by have := HD.out.data.mx; unfold maxLen at this; omega
              clear hpc hda HR
              generalize x.dc = dc at *
              have i1 : (p : Int) + (q : Int) ≤ (dc : Int) := by omega
              have i2 : ¬ dc = p := by omega
              have i3 : ¬ (dc : Int) = (p : Int) := by omega
              have i4 : decide (dc = p) = false := by simp [i2]
              have hq1 : q ≤ 1000000 := by omega
              have hqs := Lib.hid (show ((p : Int) + (q : Int) - (p : Int)).toNat = q by omega)
              go_wp2_with (at_builtin; refine append_new Try.underlying24 (by decide) info5 rfl _ _ rfl (.inl rfl) rfl PC.out (by first | rfl | (simp [Act.eval]; done)) hq1 ?_; intro A' c' w1 q1 q2 q3 q4; have Q1 := Lib.hid q1; have Q2 := Lib.hid q2; have Q3 := Lib.hid q3; clear q1 q2 q3 q4)
              go_ret2
              rw [ha.out]
              refine ⟨A', q, c', rfl, ?_, ?_, H2.out.on Q2.out, O2.out.trans (T := fun _ => False) (Only.of_below Q2.out) (fun _ h _ => h.elim)⟩
              · have := Q1.out
                rwa [show q = v - p by have := HE.out; omega] at this ⊢
              · intro g' o' he
                rcases Q3.out with rfl | rfl
                · cases he
                · injection he with he; injection he with he; have := O2.out.size; omega
  · have hd : decide (cl < x.hn) = true := by simp; omega
    have hd2 : decide (0 < s) = false := by simp; omega
    have hki : (cl : Int) < (x.hn : Int) := by omega
    rw [hh] at g3
    clear hh
    generalize x.hn = hn' at *
    generalize x.hc = hc' at *
    go_upto_region 8 with fail
    clear hd hd2 hki g3 hc hk hs
    by_cases hA0 : q0 = 0
    · have ha := Lib.hid (HA.out.1 hA0)
      subst hA0
      go_wp2
      go_ret2
      rw [ha.out]
      exact get_none rfl 0 rfl H2.out O2.out
    · have hA1 : decide (q0 = 0) = false := by simp [hA0]
      have hA2 : ((q0 : Int) == 0) = false := by simp; omega
      obtain ⟨k, hk⟩ : ∃ k, p / 8 = k := ⟨_, rfl⟩
      have hki : (p : Int) / 8 = (k : Int) := by omega
      have hkm : k < m := by omega
      have HK := Lib.hid hk
      rw [hk] at HA
      clear hk
      obtain ⟨z, hz⟩ : ∃ z, isBad D.bad k = z := ⟨_, rfl⟩
      cases z with
      | true =>
        have ha := Lib.hid (HA.out.2.1 hA0 hz)
        have HZ := Lib.hid hz
        clear hz
        go_wp2_with (go_at_call 27; refine (CB.out k true HZ.out).mono ?_; rintro e w' ⟨rfl, rfl⟩)
        go_ret2
        rw [ha.out]
        exact get_none rfl 1 rfl H2.out O2.out
      | false =>
        obtain ⟨L, hL⟩ : ∃ L, leftOf D G k = L := ⟨_, rfl⟩
        have HLK := Lib.hid (show left D G (k : Int) = L by rw [left, if_pos (by have := HM.out; omega)]; simpa using hL)
        by_cases hl : 0 < L
        · have ha := Lib.hid (HA.out.2.2.1 hA0 hz (by rw [hL]; exact hl))
          have HZ := Lib.hid hz
          clear hz hL
          obtain ⟨g, hg, _, hc⟩ := H2.out.gone.cells (by omega)
          obtain ⟨s1, s2⟩ := hc k hkm
          have X := Lib.hid (H2.out.setGone hg k hkm (G k + 1))
          have c4 := H2.out.c4
          rw [hg] at c4
          have hGk : 0 ≤ G k ∧ G k ≤ 1200 := by
            have h1 := SG.out k; have h2 := times_le D.soft k OK.out.sizes.all; have h3 := OK.out.sizes.soft
            omega
          obtain ⟨hG0, hG1⟩ := hGk
          clear hc hg
          have hmi : (k : Int) < (m : Int) := by omega
          obtain ⟨gk, hgk⟩ : ∃ gk, G k = gk := ⟨_, rfl⟩
          rw [hgk] at s1 hG0 hG1 X ha
          clear hgk
          go_wp2_with (first | (go_at_call 27; refine (CB.out k false HZ.out).mono ?_; rintro e w' ⟨rfl, rfl⟩) | (go_at_call 16; refine (CL.out k L HLK.out).mono ?_; rintro e w' ⟨rfl, rfl⟩))
          go_ret2
          rw [ha.out]
          exact get_none rfl 1 rfl X.out.1 (O2.out.trans X.out.2 (fun d h _ => h))
        · have ha := Lib.hid (HA.out.2.2.2 hA0 hz (by rw [hL]; exact hl))
          have HZ := Lib.hid hz
          clear hz hL
          obtain ⟨v, hv⟩ : ∃ v, upto D G p q0 = v := ⟨_, rfl⟩
          have hv1 : p ≤ v := by rw [← hv]; exact stop_ge _ _ _ (by omega) _ _ (by omega)
          have hv2 : v ≤ p + q0 := by rw [← hv]; exact stop_le _ _ _ _
          rw [hv] at ha
          have HV := Lib.hid (show stop (fails D G) (p + q0) (p + q0) (k + 1) = v by rw [← HK.out]; exact hv)
          clear hv
          go_wp2_with (first | (go_at_call 27; refine (CB.out k false HZ.out).mono ?_; rintro e w' ⟨rfl, rfl⟩) | (go_at_call 16; refine (CL.out k L HLK.out).mono ?_; rintro e w' ⟨rfl, rfl⟩))
          go_loop [9, 11] (fun qa ti => ∃ t q : Nat, ti = .int .i64 t ∧ qa = .int .i64 q ∧ t ≤ 100 ∧ q ≤ q0 ∧ Hid ((∃ f, q = q0 ∧ p + q0 ≤ f + t ∧ stop (fails D G) (p + q0) f t = v) ∨ (p + q = v ∧ v ≤ 8 * t))) (fun _ ti => 200 - (intOf ti).toNat)
          case atStart => exact ⟨k + 1, q0, by go_num, rfl, by omega, Nat.le_refl _, .inl ⟨p + q0, rfl, by omega, HV.out⟩⟩
          case round =>
            obtain ⟨t, q, rfl, rfl, ht, hq, HR⟩ := hrel
            by_cases hlt : 8 * t < p + q
            · have hR := HR.out.resolve_right (fun h => by omega)
              obtain ⟨f, hqA, hf, hst⟩ := hR
              have HX := Lib.hid ((stop_at (fails D G) (p + q0) f t hf).1 (by omega))
              have HST := Lib.hid hst
              have HQA := Lib.hid hqA
              clear hst hqA HR
              have htm : t < m := by omega
              have hti : (t : Int) * 8 < (p : Int) + (q : Int) := by omega
              obtain ⟨z, hz⟩ : ∃ z, isBad D.bad t = z := ⟨_, rfl⟩
              obtain ⟨M, hM⟩ : ∃ M, leftOf D G t = M := ⟨_, rfl⟩
              have HLT := Lib.hid (show left D G (t : Int) = M by rw [left, if_pos (by have := HM.out; omega)]; simpa using hM)
              have HF := Lib.hid (show (z || decide (0 < M)) = fails D G t by rw [fails, hz, hM])
              have HZT := Lib.hid hz
              clear hz hM
              cases z with
              | true =>
                have HE := Lib.hid (show v = 8 * t by rw [← HST.out, HX.out, ← HF.out]; rfl)
                go_wp2_with (first | (go_at_call 27; refine (CB.out t true HZT.out).mono ?_; rintro e w' ⟨rfl, rfl⟩) | (go_at_call 16; refine (CL.out t M HLT.out).mono ?_; rintro e w' ⟨rfl, rfl⟩))
                go_round
                case rel => exact ⟨t + 1, 8 * t - p, by go_num, by have := HE.out; congr 1; omega, by omega, by have := HE.out; omega, .inr (by have := HE.out; omega)⟩
                case measure => simp [intOf]; omega
              | false =>
                by_cases hMl : 0 < M
                · have HE := Lib.hid (show v = 8 * t by rw [← HST.out, HX.out, ← HF.out]; simp [hMl])
                  go_wp2_with (first | (go_at_call 27; refine (CB.out t false HZT.out).mono ?_; rintro e w' ⟨rfl, rfl⟩) | (go_at_call 16; refine (CL.out t M HLT.out).mono ?_; rintro e w' ⟨rfl, rfl⟩))
                  go_round
                  case rel => exact ⟨t + 1, 8 * t - p, by go_num, by have := HE.out; congr 1; omega, by omega, by have := HE.out; omega, .inr (by have := HE.out; omega)⟩
                  case measure => simp [intOf]; omega
                · have HE := Lib.hid (show stop (fails D G) (p + q0) (f - 1) (t + 1) = v by rw [← HST.out, HX.out, ← HF.out]; simp [hMl])
                  go_wp2_with (first | (go_at_call 27; refine (CB.out t false HZT.out).mono ?_; rintro e w' ⟨rfl, rfl⟩) | (go_at_call 16; refine (CL.out t M HLT.out).mono ?_; rintro e w' ⟨rfl, rfl⟩))
                  go_round
                  case rel => exact ⟨t + 1, q, by go_num, rfl, by omega, hq, .inl ⟨f - 1, HQA.out, by omega, HE.out⟩⟩
                  case measure => simp [intOf]; omega
            · have HE := Lib.hid (show p + q = v by
                rcases HR.out with ⟨f, hqA, hf, hst⟩ | ⟨h, _⟩
                · rw [(stop_at (fails D G) (p + q0) f t hf).2 (by omega)] at hst; omega
                · exact h)
              have hti : ¬ (t : Int) * 8 < (p : Int) + (q : Int) := by omega
              obtain ⟨gd, od, hda, _, _⟩ := HD.out.data.cells (by omega)
              have hpc := HD.out.data
              rw [hda] at hpc g0
              have PC := Lib.hid (hpc.piece p q (by omega))
              have hdc : x.dn ≤ x.dc := HD.out.data.le
              have hdm : x.dc ≤ 9223372036854775807 := by have := HD.out.data.mx; unfold maxLen at this; omega
              clear hpc hda HR
              generalize x.dc = dc at *
              have i1 : (p : Int) + (q : Int) ≤ (dc : Int) := by omega
              have i2 : ¬ dc = p := by omega
              have i3 : ¬ (dc : Int) = (p : Int) := by omega
              have i4 : decide (dc = p) = false := by simp [i2]
              have hq1 : q ≤ 1000000 := by omega
              have hqs := Lib.hid (show ((p : Int) + (q : Int) - (p : Int)).toNat = q by omega)
              go_wp2_with (at_builtin; refine append_new Try.underlying24 (by decide) info5 rfl _ _ rfl (.inl rfl) rfl PC.out (by first | rfl | (simp [Act.eval]; done)) hq1 ?_; intro A' c' w1 q1 q2 q3 q4; have Q1 := Lib.hid q1; have Q2 := Lib.hid q2; have Q3 := Lib.hid q3; clear q1 q2 q3 q4)
              go_ret2
              rw [ha.out]
              refine ⟨A', q, c', rfl, ?_, ?_, H2.out.on Q2.out, O2.out.trans (T := fun _ => False) (Only.of_below Q2.out) (fun _ h _ => h.elim)⟩
              · have := Q1.out
                rwa [show q = v - p by have := HE.out; omega] at this ⊢
              · intro g' o' he
                rcases Q3.out with rfl | rfl
                · cases he
                · injection he with he; injection he with he; have := O2.out.size; omega
  · have hd : decide (cl < x.hn) = false := by simp; omega
    generalize x.hn = hn' at *
    generalize x.hc = hc' at *
    go_upto_region 8 with fail
    clear hd g3 hk
    by_cases hA0 : q0 = 0
    · have ha := Lib.hid (HA.out.1 hA0)
      subst hA0
      go_wp2
      go_ret2
      rw [ha.out]
      exact get_none rfl 0 rfl H2.out O2.out
    · have hA1 : decide (q0 = 0) = false := by simp [hA0]
      have hA2 : ((q0 : Int) == 0) = false := by simp; omega
      obtain ⟨k, hk⟩ : ∃ k, p / 8 = k := ⟨_, rfl⟩
      have hki : (p : Int) / 8 = (k : Int) := by omega
      have hkm : k < m := by omega
      have HK := Lib.hid hk
      rw [hk] at HA
      clear hk
      obtain ⟨z, hz⟩ : ∃ z, isBad D.bad k = z := ⟨_, rfl⟩
      cases z with
      | true =>
        have ha := Lib.hid (HA.out.2.1 hA0 hz)
        have HZ := Lib.hid hz
        clear hz
        go_wp2_with (go_at_call 27; refine (CB.out k true HZ.out).mono ?_; rintro e w' ⟨rfl, rfl⟩)
        go_ret2
        rw [ha.out]
        exact get_none rfl 1 rfl H2.out O2.out
      | false =>
        obtain ⟨L, hL⟩ : ∃ L, leftOf D G k = L := ⟨_, rfl⟩
        have HLK := Lib.hid (show left D G (k : Int) = L by rw [left, if_pos (by have := HM.out; omega)]; simpa using hL)
        by_cases hl : 0 < L
        · have ha := Lib.hid (HA.out.2.2.1 hA0 hz (by rw [hL]; exact hl))
          have HZ := Lib.hid hz
          clear hz hL
          obtain ⟨g, hg, _, hc⟩ := H2.out.gone.cells (by omega)
          obtain ⟨s1, s2⟩ := hc k hkm
          have X := Lib.hid (H2.out.setGone hg k hkm (G k + 1))
          have c4 := H2.out.c4
          rw [hg] at c4
          have hGk : 0 ≤ G k ∧ G k ≤ 1200 := by
            have h1 := SG.out k; have h2 := times_le D.soft k OK.out.sizes.all; have h3 := OK.out.sizes.soft
            omega
          obtain ⟨hG0, hG1⟩ := hGk
          clear hc hg
          have hmi : (k : Int) < (m : Int) := by omega
          obtain ⟨gk, hgk⟩ : ∃ gk, G k = gk := ⟨_, rfl⟩
          rw [hgk] at s1 hG0 hG1 X ha
          clear hgk
          go_wp2_with (first | (go_at_call 27; refine (CB.out k false HZ.out).mono ?_; rintro e w' ⟨rfl, rfl⟩) | (go_at_call 16; refine (CL.out k L HLK.out).mono ?_; rintro e w' ⟨rfl, rfl⟩))
          go_ret2
          rw [ha.out]
          exact get_none rfl 1 rfl X.out.1 (O2.out.trans X.out.2 (fun d h _ => h))
        · have ha := Lib.hid (HA.out.2.2.2 hA0 hz (by rw [hL]; exact hl))
          have HZ := Lib.hid hz
          clear hz hL
          obtain ⟨v, hv⟩ : ∃ v, upto D G p q0 = v := ⟨_, rfl⟩
          have hv1 : p ≤ v := by rw [← hv]; exact stop_ge _ _ _ (by omega) _ _ (by omega)
          have hv2 : v ≤ p + q0 := by rw [← hv]; exact stop_le _ _ _ _
          rw [hv] at ha
          have HV := Lib.hid (show stop (fails D G) (p + q0) (p + q0) (k + 1) = v by rw [← HK.out]; exact hv)
          clear hv
          go_wp2_with (first | (go_at_call 27; refine (CB.out k false HZ.out).mono ?_; rintro e w' ⟨rfl, rfl⟩) | (go_at_call 16; refine (CL.out k L HLK.out).mono ?_; rintro e w' ⟨rfl, rfl⟩))
          go_loop [9, 11] (fun qa ti => ∃ t q : Nat, ti = .int .i64 t ∧ qa = .int .i64 q ∧ t ≤ 100 ∧ q ≤ q0 ∧ Hid ((∃ f, q = q0 ∧ p + q0 ≤ f + t ∧ stop (fails D G) (p + q0) f t = v) ∨ (p + q = v ∧ v ≤ 8 * t))) (fun _ ti => 200 - (intOf ti).toNat)
          case atStart => exact ⟨k + 1, q0, by go_num, rfl, by omega, Nat.le_refl _, .inl ⟨p + q0, rfl, by omega, HV.out⟩⟩
          case round =>
            obtain ⟨t, q, rfl, rfl, ht, hq, HR⟩ := hrel
            by_cases hlt : 8 * t < p + q
            · have hR := HR.out.resolve_right (fun h => by omega)
              obtain ⟨f, hqA, hf, hst⟩ := hR
              have HX := Lib.hid ((stop_at (fails D G) (p + q0) f t hf).1 (by omega))
              have HST := Lib.hid hst
              have HQA := Lib.hid hqA
              clear hst hqA HR
              have htm : t < m := by omega
              have hti : (t : Int) * 8 < (p : Int) + (q : Int) := by omega
              obtain ⟨z, hz⟩ : ∃ z, isBad D.bad t = z := ⟨_, rfl⟩
              obtain ⟨M, hM⟩ : ∃ M, leftOf D G t = M := ⟨_, rfl⟩
              have HLT := Lib.hid (show left D G (t : Int) = M by rw [left, if_pos (by have := HM.out; omega)]; simpa using hM)
              have HF := Lib.hid (show (z || decide (0 < M)) = fails D G t by rw [fails, hz, hM])
              have HZT := Lib.hid hz
              clear hz hM
              cases z with
              | true =>
                have HE := Lib.hid (show v = 8 * t by rw [← HST.out, HX.out, ← HF.out]; rfl)
                go_wp2_with (first | (go_at_call 27; refine (CB.out t true HZT.out).mono ?_; rintro e w' ⟨rfl, rfl⟩) | (go_at_call 16; refine (CL.out t M HLT.out).mono ?_; rintro e w' ⟨rfl, rfl⟩))
                go_round
                case rel => exact ⟨t + 1, 8 * t - p, by go_num, by have := HE.out; congr 1; omega, by omega, by have := HE.out; omega, .inr (by have := HE.out; omega)⟩
                case measure => simp [intOf]; omega
              | false =>
                by_cases hMl : 0 < M
                · have HE := Lib.hid (show v = 8 * t by rw [← HST.out, HX.out, ← HF.out]; simp [hMl])
                  go_wp2_with (first | (go_at_call 27; refine (CB.out t false HZT.out).mono ?_; rintro e w' ⟨rfl, rfl⟩) | (go_at_call 16; refine (CL.out t M HLT.out).mono ?_; rintro e w' ⟨rfl, rfl⟩))
                  go_round
                  case rel => exact ⟨t + 1, 8 * t - p, by go_num, by have := HE.out; congr 1; omega, by omega, by have := HE.out; omega, .inr (by have := HE.out; omega)⟩
                  case measure => simp [intOf]; omega
                · have HE := Lib.hid (show stop (fails D G) (p + q0) (f - 1) (t + 1) = v by rw [← HST.out, HX.out, ← HF.out]; simp [hMl])
                  go_wp2_with (first | (go_at_call 27; refine (CB.out t false HZT.out).mono ?_; rintro e w' ⟨rfl, rfl⟩) | (go_at_call 16; refine (CL.out t M HLT.out).mono ?_; rintro e w' ⟨rfl, rfl⟩))
                  go_round
                  case rel => exact ⟨t + 1, q, by go_num, rfl, by omega, hq, .inl ⟨f - 1, HQA.out, by omega, HE.out⟩⟩
                  case measure => simp [intOf]; omega
            · have HE := Lib.hid (show p + q = v by
                rcases HR.out with ⟨f, hqA, hf, hst⟩ | ⟨h, _⟩
                · rw [(stop_at (fails D G) (p + q0) f t hf).2 (by omega)] at hst; omega
                · exact h)
              have hti : ¬ (t : Int) * 8 < (p : Int) + (q : Int) := by omega
              obtain ⟨gd, od, hda, _, _⟩ := HD.out.data.cells (by omega)
              have hpc := HD.out.data
              rw [hda] at hpc g0
              have PC := Lib.hid (hpc.piece p q (by omega))
              have hdc : x.dn ≤ x.dc := HD.out.data.le
              have hdm : x.dc ≤ 9223372036854775807 := by have := HD.out.data.mx; unfold maxLen at this; omega
              clear hpc hda HR
              generalize x.dc = dc at *
              have i1 : (p : Int) + (q : Int) ≤ (dc : Int) := by omega
              have i2 : ¬ dc = p := by omega
              have i3 : ¬ (dc : Int) = (p : Int) := by omega
              have i4 : decide (dc = p) = false := by simp [i2]
              have hq1 : q ≤ 1000000 := by omega
              have hqs := Lib.hid (show ((p : Int) + (q : Int) - (p : Int)).toNat = q by omega)
              go_wp2_with (at_builtin; refine append_new Try.underlying24 (by decide) info5 rfl _ _ rfl (.inl rfl) rfl PC.out (by first | rfl | (simp [Act.eval]; done)) hq1 ?_; intro A' c' w1 q1 q2 q3 q4; have Q1 := Lib.hid q1; have Q2 := Lib.hid q2; have Q3 := Lib.hid q3; clear q1 q2 q3 q4)
              go_ret2
              rw [ha.out]
              refine ⟨A', q, c', rfl, ?_, ?_, H2.out.on Q2.out, O2.out.trans (T := fun _ => False) (Only.of_below Q2.out) (fun _ h _ => h.elim)⟩
              · have := Q1.out
                rwa [show q = v - p by have := HE.out; omega] at this ⊢
              · intro g' o' he
                rcases Q3.out with rfl | rfl
                · cases he
                · injection he with he; injection he with he; have := O2.out.size; omega

theorem rget_any (p n : Int) (w : World) (h : Mine W0 w (Rd b x ga m G cl) S) (hD : DevIn W0 x D) (hm : m = D.m) (hO : Okd D) (hG : Sound D G) (hcl : cl ≤ 1000) (hp : p ≤ 9223372036854775807) (a : Ans) (ha : get D G cl p n = a) :
    Calls Try.prog 19 #[.pointer (some ⟨b, 0, none⟩), .int .i64 p, .int .i64 n] w (GetPost (Rd b x ga m) S a w) := by
  by_cases hr : p < 0 ∨ n < 0 ∨ 4096 < n
  · exact rget_out p n w h.obj a ha hr
  · obtain ⟨P, rfl⟩ : ∃ P : Nat, p = (P : Int) := ⟨p.toNat, by omega⟩
    obtain ⟨N, rfl⟩ : ∃ N : Nat, n = (N : Int) := ⟨n.toNat, by omega⟩
    exact rget_in P N w h hD hm hO hG hcl hp (by omega) a ha
end

end Go.Proofs.Ytdfjhgibdabeeaa
