/- Contract of arg.Flags, walked. -/
import Derived.Test.YtnmekmifdmlogaaRows
import Derived.Test.YtnmekmifdmlogaaWalksJ
import Derived.WalkKit
import Derived.WalkSpells
import Derived.WalkLawsBesides
import Derived.Lib.Hide
import Derived.Deep.QuietTactic
import Derived.BigQuiet
import Derived.Deep.DeepCutAuto
namespace Go.Proofs.Ytnmekmifdmlogaa
open Go.RowKit
open Plain

theorem isSpec_at (s : ByteArray) (b : Bool) (w : World) (hs : s.size ≤ 1000000) (hb : isSpec s = b) :
    Calls Try.prog 23 #[.string s] w fun e w' => e = .returned (.bool b) ∧ Below w.heap.size w w' := isSpec_any s b w hs hb

set_option maxRecDepth 100000 in
set_option maxHeartbeats 8000000 in
theorem flags_any (sp : ByteArray) (A : Option Addr) (n c : Nat) (T : List ByteArray) (F : Option (List Pr × List ByteArray)) (w : World) (hp : sp.size ≤ 1000000) (hT : Strs w A n c T) (hS : ∀ s ∈ T, s.size ≤ 1000) (hF : flags sp T = F) :
    Calls Try.prog 10 #[.string sp, .slice A n c] w (FlagsPost F w) := by
  have HT := Lib.hid hT; have HS := Lib.hid hS
  have hlen := hT.len
  have hmx : n ≤ 9223372036854775807 := by have h1 := hT.le; have h2 := hT.mx; unfold maxLen at h2; omega
  clear hT hS
  have R0 := Lib.hid (Row.new w 25 #[.slice none 0 0, .slice none 0 0])
  have K0 := Lib.hid ((Below.refl w.heap.size w).alloc (Nat.le_refl _) (.cells #[.slice none 0 0, .slice none 0 0] 25))
  by_cases hbig : 40 < n
  · rw [flags, if_pos (.inl (by omega))] at hF
    subst hF
    go_enter Try.func10, Try.ntmps10
    go_wp2
    refine res_box rfl w.heap.size #[.slice none 0 0, .slice none 0 0] rfl (load25 ?_) rfl ?_
    · first | exact (R0.out.set0 _).set1 _ | exact R0.out
    · first | exact flagsPost_none K0.out | exact flagsPost_none (below_box K0.out _ (Nat.le_refl _) _ _)
  · have hn40 : n ≤ 40 := by omega
    clear hbig
    obtain ⟨q, hq⟩ : ∃ q, isSpec sp = q := ⟨_, rfl⟩
    have HQ := Lib.hid hq
    cases q with
    | false =>
      rw [flags, if_pos (.inr hq)] at hF
      subst hF
      clear hq
      go_enter Try.func10, Try.ntmps10
      go_wp2_with fail
      refine (isSpec_at sp false _ hp HQ.out).mono ?_
      rintro e w1 ⟨rfl, q1⟩
      have R1 := Lib.hid (R0.out.on q1)
      have K1 := Lib.hid (K0.out.trans (q1.mono (by simp)))
      obtain ⟨c0, c1, f0, f1⟩ := R1.out.two
      clear q1
      go_wp2
      refine res_box rfl w.heap.size _ rfl (load25 ((R1.out.set0 _).set1 _)) rfl ?_
      exact flagsPost_none (below_box K1.out _ (Nat.le_refl _) _ _)
    | true =>
      rw [flags, if_neg (by rw [hq]; simp; omega)] at hF
      have HF := Lib.hid hF
      have HLEN := Lib.hid hlen
      clear hF hq
      go_enter Try.func10, Try.ntmps10
      go_wp2_with fail
      refine (isSpec_at sp true _ hp HQ.out).mono ?_
      rintro e w1 ⟨rfl, q1⟩
      have R1 := Lib.hid (R0.out.on q1)
      have K1 := Lib.hid (K0.out.trans (q1.mono (by simp)))
      have hbig := q1.size
      simp at hbig
      have S0 := Lib.hid (show Fstand w w.heap.size w1.heap.size (.slice none 0 0) (.slice none 0 0) [] [] (w1.alloc (.cells #[.slice none 0 0, .slice none 0 0] 25)) from
        ⟨R1.out.alloc _, Row.new _ _ _, Nat.le_refl _, by omega, ownO_nil _ _, ownT_nil _ _, .inl rfl, K1.out.alloc K1.out.size _⟩)
      clear q1 R0 K0 R1 K1
      go_wp2
      generalize w1.alloc (.cells #[.slice none 0 0, .slice none 0 0] 25) = W1 at *
      generalize hpb : w1.heap.size = pb at *
      clear hpb
      generalize hrb : w.heap.size = rb at *
      have HRB := Lib.hid hrb
      clear hrb
      go_loopw [1] (fun vl wr => ∃ (A : Option Addr) (n c : Nat) (T : List ByteArray) (v1 v2 : Value) (os : List Pr) (rs : List ByteArray) (f : Nat), vl = .slice A n c ∧ n ≤ 40 ∧ Hid (T.length ≤ f ∧ rs.length + T.length ≤ 40 ∧ os.length + 1000 * T.length ≤ 40000) ∧ Hid (Strs w A n c T) ∧ Hid (∀ s ∈ T, s.size ≤ 1000) ∧ Hid (Fstand w rb pb v1 v2 os rs wr) ∧ Hid (flagsGo (tx sp) f T os rs = F)) (fun vl _ => sliceLen vl)
      case atStart => exact ⟨A, n, c, T, _, _, [], [], T.length, rfl, hn40, ⟨Nat.le_refl _, by simp; omega, by simp; omega⟩, HT.out, HS.out, S0.out, HF.out⟩
      case round =>
        clear HT HS HF HLEN hlen hmx hn40 S0
        obtain ⟨A, n, c, T, v1, v2, os, rs, f, rfl, hn, BD, HT, HS, S, HF⟩ := hrel
        obtain ⟨A1, c1, rfl, hO1, hN1⟩ := S.out.o.opts
        obtain ⟨A2, c2, rfl, hT2⟩ := S.out.t.strs
        have HO1 := Lib.hid hO1; have HT2 := Lib.hid hT2
        have hsz := S.out.size
        have hlo := S.out.lo
        have hlt := S.out.lt
        clear hO1 hT2 hN1
        cases T with
        | nil =>
          have hn0 : n = 0 := by have := HT.out.len; simpa using this.symm
          subst hn0
          have hf2 : F = some (os, rs) := by
            have := HF.out
            rw [flagsGo] at this
            exact this.symm
          subst hf2
          obtain ⟨p0, p1, g0, g1⟩ := S.out.p.two
          obtain ⟨r0, r1, h0, h1⟩ := S.out.r.two
          have E := Lib.hid S.out.ends
          clear S HF
          go_wp2
          refine res_box rfl rb _ rfl (load25 E.out.1) rfl ?_
          exact E.out.2
        | cons s T =>
          obtain ⟨b, o, m, rfl, rfl, hTl, hb, hc⟩ := HT.out.form
          have hle := HT.out.le
          have TL := Lib.hid HT.out.tail
          have c0 := (S.out.b.cell (p := ⟨b, o, none⟩) hb).trans hc
          have hss := HS.out s (by simp)
          have HS2 := Lib.hid (show ∀ s ∈ T, s.size ≤ 1000 from fun x hx => HS.out x (by simp [hx]))
          obtain ⟨f, rfl⟩ : ∃ f', f = f' + 1 := ⟨f - 1, by have := BD.out.1; simp at this; omega⟩
          clear hc HT HS
          by_cases hc1 : c = 1
          · obtain ⟨rfl, rfl⟩ : c = 1 ∧ m = 0 := by omega
            have hT0 : T = [] := List.eq_nil_of_length_eq_zero hTl
            subst hT0
            have TL := Lib.hid (show Strs w (some ⟨b, o, none⟩) 0 0 [] from ⟨rfl, Nat.le_refl _, Nat.zero_le _, fun h => (by cases h), fun h => absurd h (by omega)⟩)
            by_cases hdd : tx s = [45, 45]
            · have hf2 : F = some (os, rs ++ []) := HF.out.symm.trans (go_end hdd)
              subst hf2
              have hz : (s.toList == [45, 45]) = true := by rw [tx_toList, hdd]; rfl
              have hz1 : s.toList = [45, 45] := by rw [tx_toList, hdd]
              obtain ⟨p0, p1, g0, g1⟩ := S.out.p.two
              clear HF hdd
              go_upto_region 16 with (at_builtin; refine append_texts rfl _ _ rfl (pb + 1) _ rs rfl S.out.t _ 0 0 [] rfl (TL.out.on S.out.b) (by have := BD.out; simp at this ⊢; omega) S.out.size ?_; intro v3 w3 o3 g3 m3 b3; obtain ⟨A3, c3, hv3, _⟩ := OwnT.strs o3; generalize (rs ++ []).length = n3 at hv3; subst hv3; have R3 := S.out.midT g3; obtain ⟨p0, p1, g0, g1⟩ := R3.two; have S3 := Lib.hid (S.out.putT o3 g3 m3 b3); clear o3 g3 m3 b3 R3)
              generalize w3.setCell ⟨pb, 1, none⟩ (.slice A3 n3 c3) = W3 at *
              obtain ⟨p0, p1, g0, g1⟩ := S3.out.p.two
              obtain ⟨r0, r1, h0, h1⟩ := S3.out.r.two
              have E := Lib.hid S3.out.ends
              clear S3 S
              go_wp2
              refine res_box rfl rb _ rfl (load25 E.out.1) rfl ?_
              first | exact E.out.2 | (have e := E.out.2; rw [List.append_nil] at e; exact e)
            · have hz : (s.toList == [45, 45]) = false := by rw [tx_toList]; simpa using hdd
              have hz1 : ¬ s.toList = [45, 45] := by rw [tx_toList]; exact hdd
              have HDD := Lib.hid hdd
              clear hdd
              obtain ⟨q, hq⟩ : ∃ q, isOpt s = q := ⟨_, rfl⟩
              have HIO := Lib.hid hq
              clear hq
              go_wp2_with fail
              refine (isOption_any s q _ (by omega) HIO.out).mono ?_
              rintro e w2 ⟨rfl, rfl⟩
              cases q with
              | false =>
                have X := Lib.hid ((go_rest HDD.out HIO.out).symm.trans HF.out)
                obtain ⟨p0, p1, g0, g1⟩ := S.out.p.two
                have SA := Lib.hid (S.out.on ((Below.refl _ _).alloc (Nat.le_refl _) (.cells #[.string s] 9)))
                go_wp2_with (at_builtin; refine append_texts rfl _ _ rfl (pb + 1) _ rs rfl SA.out.t _ 1 1 [s] rfl (strs_one _ _ _ (by simp)) (by have := BD.out; simp at this ⊢; omega) SA.out.size ?_; intro v3 w3 o3 g3 m3 b3; obtain ⟨A3, c3, hv3, _⟩ := OwnT.strs o3; generalize (rs ++ [s]).length = n3 at hv3; subst hv3; have R3 := SA.out.midT g3; obtain ⟨p0, p1, g0, g1⟩ := R3.two; have S3 := Lib.hid (SA.out.putT o3 g3 m3 b3); clear o3 g3 m3 b3 R3)
                go_roundw
                case rel => exact ⟨_, 0, 0, [], _, _, os, rs ++ [s], f, rfl, by omega, by have := BD.out; unfold Hid; simp at this ⊢; omega, TL.out, HS2.out, S3.out, X.out⟩
                case measure => simp [sliceLen]
              | true =>
                obtain ⟨u, hu⟩ : ∃ u, s.extract 1 s.size = u := ⟨_, rfl⟩
                have htu : tx u = (tx s).drop 1 := by rw [← hu, ext_from, tx_bs]
                have hs1 : 1 < s.size := by
                  have := HIO.out
                  simp [isOpt] at this
                  exact this.1
                have hus : u.size + 1 = s.size := by rw [← tx_len u, htu, List.length_drop, tx_len]; omega
                have HTU := Lib.hid htu
                clear htu
                cases ho : optsOf (tx sp) ([] : List ByteArray).head? (tx u) [] with
                | none =>
                  have hf2 := (go_none (sp := tx sp) (f := f) (os := os) (rs := rs) HDD.out HIO.out (by rw [← HTU.out]; exact ho)).symm.trans HF.out
                  subst hf2
                  have HO := Lib.hid ho
                  clear ho
                  go_wp2_with fail
                  refine (options_none sp u _ 0 0 [] _ hp (by omega) (by omega) (TL.out.on S.out.b) HO.out).mono ?_
                  rintro e w2 ⟨v, rfl, q2⟩
                  have S2 := Lib.hid (S.out.on q2)
                  obtain ⟨r0, r1, h0, h1⟩ := S2.out.r.two
                  have E := Lib.hid S2.out.fails
                  clear q2 S S2
                  go_wp2
                  refine res_box rfl rb _ rfl (load25 E.out.1) rfl ?_
                  exact E.out.2
                | some p =>
                  obtain ⟨os2, k⟩ := p
                  have X := Lib.hid ((go_opt (sp := tx sp) (f := f) (os := os) (rs := rs) HDD.out HIO.out (by rw [← HTU.out]; exact ho)).symm.trans HF.out)
                  obtain ⟨hl2, hk⟩ := optsOf_le ([] : List ByteArray).head? (tx u) (fun e => by have := tx_len u; rw [e] at this; simp at this; omega) ho
                  rw [tx_len] at hl2
                  have HO := Lib.hid ho
                  obtain ⟨m2, hm2⟩ : ∃ m2, os2.length = m2 := ⟨_, rfl⟩
                  have HM2 := Lib.hid hm2
                  rw [hm2] at hl2
                  clear ho hm2 HF
                  go_wp2_with fail
                  refine (options_some sp u _ 0 0 [] os2 k _ hp (by omega) (by omega) (TL.out.on S.out.b) HO.out).mono ?_
                  rw [HM2.out]
                  rintro e w2 ⟨A3, c3, rfl, ⟨o3, n3⟩, q2⟩
                  have S2 := Lib.hid (S.out.on q2)
                  have O3 := Lib.hid o3; have N3 := Lib.hid n3
                  obtain ⟨p0, p1, g0, g1⟩ := S2.out.p.two
                  clear q2 S o3 n3
                  rcases hk with rfl | ⟨rfl, hsome⟩
                  · rw [List.drop_zero] at X
                    go_wp2_with (at_builtin; refine append_opts rfl _ _ rfl (pb + 1) _ os rfl S2.out.o _ m2 c3 os2 rfl O3.out N3.out (by have := BD.out; simp at this ⊢; omega) S2.out.size ?_; intro v3 w3 o3 g3 m3 b3; obtain ⟨A4, c4, hv3, _⟩ := OwnO.opts o3; generalize (os ++ os2).length = n4 at hv3; subst hv3; have R3 := S2.out.midO g3; obtain ⟨p0, p1, g0, g1⟩ := R3.two; have S3 := Lib.hid (S2.out.putO o3 g3 m3 b3); clear o3 g3 m3 b3 R3)
                    go_roundw
                    case rel => exact ⟨_, 0, 0, [], _, _, os ++ os2, rs, f, rfl, by omega, by have := HM2.out; have := BD.out; unfold Hid; simp at this ⊢; omega, TL.out, HS2.out, S3.out, X.out⟩
                    case measure => simp [sliceLen]
                  · simp at hsome
          · have hc2 : 2 ≤ c := by omega
            by_cases hdd : tx s = [45, 45]
            · have hf2 : F = some (os, rs ++ T) := HF.out.symm.trans (go_end hdd)
              subst hf2
              have hz : (s.toList == [45, 45]) = true := by rw [tx_toList, hdd]; rfl
              have hz1 : s.toList = [45, 45] := by rw [tx_toList, hdd]
              obtain ⟨p0, p1, g0, g1⟩ := S.out.p.two
              clear HF hdd
              go_upto_region 16 with (at_builtin; refine append_texts rfl _ _ rfl (pb + 1) _ rs rfl S.out.t _ m (c - 1) T rfl (TL.out.on S.out.b) (by have := BD.out; simp at this ⊢; omega) S.out.size ?_; intro v3 w3 o3 g3 m3 b3; obtain ⟨A3, c3, hv3, _⟩ := OwnT.strs o3; generalize (rs ++ T).length = n3 at hv3; subst hv3; have R3 := S.out.midT g3; obtain ⟨p0, p1, g0, g1⟩ := R3.two; have S3 := Lib.hid (S.out.putT o3 g3 m3 b3); clear o3 g3 m3 b3 R3)
              generalize w3.setCell ⟨pb, 1, none⟩ (.slice A3 n3 c3) = W3 at *
              obtain ⟨p0, p1, g0, g1⟩ := S3.out.p.two
              obtain ⟨r0, r1, h0, h1⟩ := S3.out.r.two
              have E := Lib.hid S3.out.ends
              clear S3 S
              go_wp2
              refine res_box rfl rb _ rfl (load25 E.out.1) rfl ?_
              first | exact E.out.2 | (have e := E.out.2; rw [List.append_nil] at e; exact e)
            · have hz : (s.toList == [45, 45]) = false := by rw [tx_toList]; simpa using hdd
              have hz1 : ¬ s.toList = [45, 45] := by rw [tx_toList]; exact hdd
              have HDD := Lib.hid hdd
              clear hdd
              obtain ⟨q, hq⟩ : ∃ q, isOpt s = q := ⟨_, rfl⟩
              have HIO := Lib.hid hq
              clear hq
              go_wp2_with fail
              refine (isOption_any s q _ (by omega) HIO.out).mono ?_
              rintro e w2 ⟨rfl, rfl⟩
              cases q with
              | false =>
                have X := Lib.hid ((go_rest HDD.out HIO.out).symm.trans HF.out)
                obtain ⟨p0, p1, g0, g1⟩ := S.out.p.two
                have SA := Lib.hid (S.out.on ((Below.refl _ _).alloc (Nat.le_refl _) (.cells #[.string s] 9)))
                go_wp2_with (at_builtin; refine append_texts rfl _ _ rfl (pb + 1) _ rs rfl SA.out.t _ 1 1 [s] rfl (strs_one _ _ _ (by simp)) (by have := BD.out; simp at this ⊢; omega) SA.out.size ?_; intro v3 w3 o3 g3 m3 b3; obtain ⟨A3, c3, hv3, _⟩ := OwnT.strs o3; generalize (rs ++ [s]).length = n3 at hv3; subst hv3; have R3 := SA.out.midT g3; obtain ⟨p0, p1, g0, g1⟩ := R3.two; have S3 := Lib.hid (SA.out.putT o3 g3 m3 b3); clear o3 g3 m3 b3 R3)
                go_roundw
                case rel => exact ⟨_, m, (c - 1), T, _, _, os, rs ++ [s], f, rfl, by omega, by have := BD.out; unfold Hid; simp at this ⊢; omega, TL.out, HS2.out, S3.out, X.out⟩
                case measure => simp [sliceLen]
              | true =>
                obtain ⟨u, hu⟩ : ∃ u, s.extract 1 s.size = u := ⟨_, rfl⟩
                have htu : tx u = (tx s).drop 1 := by rw [← hu, ext_from, tx_bs]
                have hs1 : 1 < s.size := by
                  have := HIO.out
                  simp [isOpt] at this
                  exact this.1
                have hus : u.size + 1 = s.size := by rw [← tx_len u, htu, List.length_drop, tx_len]; omega
                have HTU := Lib.hid htu
                clear htu
                cases ho : optsOf (tx sp) (T : List ByteArray).head? (tx u) [] with
                | none =>
                  have hf2 := (go_none (sp := tx sp) (f := f) (os := os) (rs := rs) HDD.out HIO.out (by rw [← HTU.out]; exact ho)).symm.trans HF.out
                  subst hf2
                  have HO := Lib.hid ho
                  clear ho
                  go_wp2_with fail
                  refine (options_none sp u _ m (c - 1) T _ hp (by omega) (by omega) (TL.out.on S.out.b) HO.out).mono ?_
                  rintro e w2 ⟨v, rfl, q2⟩
                  have S2 := Lib.hid (S.out.on q2)
                  obtain ⟨r0, r1, h0, h1⟩ := S2.out.r.two
                  have E := Lib.hid S2.out.fails
                  clear q2 S S2
                  go_wp2
                  refine res_box rfl rb _ rfl (load25 E.out.1) rfl ?_
                  exact E.out.2
                | some p =>
                  obtain ⟨os2, k⟩ := p
                  have X := Lib.hid ((go_opt (sp := tx sp) (f := f) (os := os) (rs := rs) HDD.out HIO.out (by rw [← HTU.out]; exact ho)).symm.trans HF.out)
                  obtain ⟨hl2, hk⟩ := optsOf_le (T : List ByteArray).head? (tx u) (fun e => by have := tx_len u; rw [e] at this; simp at this; omega) ho
                  rw [tx_len] at hl2
                  have HO := Lib.hid ho
                  obtain ⟨m2, hm2⟩ : ∃ m2, os2.length = m2 := ⟨_, rfl⟩
                  have HM2 := Lib.hid hm2
                  rw [hm2] at hl2
                  clear ho hm2 HF
                  go_wp2_with fail
                  refine (options_some sp u _ m (c - 1) T os2 k _ hp (by omega) (by omega) (TL.out.on S.out.b) HO.out).mono ?_
                  rw [HM2.out]
                  rintro e w2 ⟨A3, c3, rfl, ⟨o3, n3⟩, q2⟩
                  have S2 := Lib.hid (S.out.on q2)
                  have O3 := Lib.hid o3; have N3 := Lib.hid n3
                  obtain ⟨p0, p1, g0, g1⟩ := S2.out.p.two
                  clear q2 S o3 n3
                  rcases hk with rfl | ⟨rfl, hsome⟩
                  · rw [List.drop_zero] at X
                    go_wp2_with (at_builtin; refine append_opts rfl _ _ rfl (pb + 1) _ os rfl S2.out.o _ m2 c3 os2 rfl O3.out N3.out (by have := BD.out; simp at this ⊢; omega) S2.out.size ?_; intro v3 w3 o3 g3 m3 b3; obtain ⟨A4, c4, hv3, _⟩ := OwnO.opts o3; generalize (os ++ os2).length = n4 at hv3; subst hv3; have R3 := S2.out.midO g3; obtain ⟨p0, p1, g0, g1⟩ := R3.two; have S3 := Lib.hid (S2.out.putO o3 g3 m3 b3); clear o3 g3 m3 b3 R3)
                    go_roundw
                    case rel => exact ⟨_, m, (c - 1), T, _, _, os ++ os2, rs, f, rfl, by omega, by have := HM2.out; have := BD.out; unfold Hid; simp at this ⊢; omega, TL.out, HS2.out, S3.out, X.out⟩
                    case measure => simp [sliceLen]
                  · cases T with
                    | nil => simp at hsome
                    | cons t T =>
                      obtain ⟨m', rfl⟩ : ∃ m', m = m' + 1 := ⟨m - 1, by simp at hTl; omega⟩
                      have HS3 := Lib.hid (show ∀ s ∈ T, s.size ≤ 1000 from fun x hx => HS2.out x (by simp [hx]))
                      rw [show (t :: T).drop 1 = T from rfl] at X
                      have hle2 := TL.out.le
                      simp at hTl
                      by_cases hc3 : c = 2
                      · obtain ⟨rfl, rfl⟩ : c = 2 ∧ m' = 0 := by omega
                        have hT0 : T = [] := List.eq_nil_of_length_eq_zero hTl
                        subst hT0
                        have TL2 := Lib.hid (show Strs w (some ⟨b, o + 1, none⟩) 0 0 [] from ⟨rfl, Nat.le_refl _, Nat.zero_le _, fun h => (by cases h), fun h => absurd h (by omega)⟩)
                        go_wp2_with (at_builtin; refine append_opts rfl _ _ rfl (pb + 1) _ os rfl S2.out.o _ m2 c3 os2 rfl O3.out N3.out (by have := BD.out; simp at this ⊢; omega) S2.out.size ?_; intro v3 w3 o3 g3 m3 b3; obtain ⟨A4, c4, hv3, _⟩ := OwnO.opts o3; generalize (os ++ os2).length = n4 at hv3; subst hv3; have R3 := S2.out.midO g3; obtain ⟨p0, p1, g0, g1⟩ := R3.two; have S3 := Lib.hid (S2.out.putO o3 g3 m3 b3); clear o3 g3 m3 b3 R3)
                        go_roundw
                        case rel => exact ⟨_, 0, 0, [], _, _, os ++ os2, rs, f, rfl, by omega, by have := HM2.out; have := BD.out; unfold Hid; simp at this ⊢; omega, TL2.out, HS3.out, S3.out, X.out⟩
                        case measure => simp [sliceLen]
                      · have hc4 : 3 ≤ c := by omega
                        have TL2 := Lib.hid TL.out.tail
                        go_wp2_with (at_builtin; refine append_opts rfl _ _ rfl (pb + 1) _ os rfl S2.out.o _ m2 c3 os2 rfl O3.out N3.out (by have := BD.out; simp at this ⊢; omega) S2.out.size ?_; intro v3 w3 o3 g3 m3 b3; obtain ⟨A4, c4, hv3, _⟩ := OwnO.opts o3; generalize (os ++ os2).length = n4 at hv3; subst hv3; have R3 := S2.out.midO g3; obtain ⟨p0, p1, g0, g1⟩ := R3.two; have S3 := Lib.hid (S2.out.putO o3 g3 m3 b3); clear o3 g3 m3 b3 R3)
                        go_roundw
                        case rel => exact ⟨_, m', c - 1 - 1, T, _, _, os ++ os2, rs, f, rfl, by omega, by have := HM2.out; have := BD.out; unfold Hid; simp at this ⊢; omega, TL2.out, HS3.out, S3.out, X.out⟩
                        case measure => simp [sliceLen]; omega

end Go.Proofs.Ytnmekmifdmlogaa
