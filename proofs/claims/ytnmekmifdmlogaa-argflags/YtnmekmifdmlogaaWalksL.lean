/- Contract of the reference's Flags. -/
import Derived.Test.YtnmekmifdmlogaaRows
import Derived.Test.YtnmekmifdmlogaaWalksH
import Derived.Test.YtnmekmifdmlogaaWalksK
import Derived.WalkKit
import Derived.WalkSpells
import Derived.WalkLawsBesides
import Derived.Lib.Hide
import Derived.Deep.QuietTactic
import Derived.BigQuiet
import Derived.StillTailTactics
import Derived.Deep.DeepCutAuto
namespace Go.Proofs.Ytnmekmifdmlogaa
open Go.RowKit
open Plain

theorem mayspec_at (s : ByteArray) (b : Bool) (w : World) (hs : s.size ≤ 1000000) (hb : isSpec s = b) :
    Calls Try.prog 33 #[.string s] w fun e w' => e = .returned (.bool b) ∧ Below w.heap.size w w' := mayspec_any s b w hs hb

theorem Strs.drop {w : World} {b o n c : Nat} {T : List ByteArray} (h : Strs w (some ⟨b, o, none⟩) n c T) (k : Nat) (hk : k ≤ n) : Strs w (some ⟨b, o + k, none⟩) (n - k) (c - k) (T.drop k) := by
  have hl := h.len; have h1 := h.le; have h2 := h.mx
  refine ⟨by simp [hl], by omega, by omega, fun h => (by cases h), fun hn => ?_⟩
  obtain ⟨b', o', he, hb, hc⟩ := h.cells (by omega)
  injection he with he
  injection he with e1 e2
  subst e1 e2
  refine ⟨b, o + k, rfl, hb, fun j hj => ?_⟩
  have := hc (k + j) (by omega)
  rw [show o + k + j = o + (k + j) by omega, this]
  simp

section
variable {sp : List UInt8} {f : Nat} {s u K V : ByteArray} {l : List ByteArray} {os os2 : List Pr} {rs : List ByteArray} {n : Nat}
theorem drop_two (hu : s.extract 2 s.size = u) : bs (((tx s).drop 1).drop 1) = u := by rw [← hu, ext_from]; simp
theorem go_key_none (h : tx s ≠ [45, 45]) (h2 : isOpt s = true) (h45 : ((tx s).drop 1).getD 0 0 = 45) (hu : s.extract 2 s.size = u) (hk : keyed u = none) : flagsGo sp (f + 1) (s :: l) os rs = none := by
  rw [flagsGo, if_neg h, if_neg (by simp [h2]), optsOf, if_pos h45, drop_two hu, hk]
theorem go_key_some (h : tx s ≠ [45, 45]) (h2 : isOpt s = true) (h45 : ((tx s).drop 1).getD 0 0 = 45) (hu : s.extract 2 s.size = u) (hk : keyed u = some (K, V)) : flagsGo sp (f + 1) (s :: l) os rs = flagsGo sp f l (os ++ [(K, V)]) rs := by
  rw [flagsGo, if_neg h, if_neg (by simp [h2]), optsOf, if_pos h45, drop_two hu, hk]; rfl
theorem go_lets_none (h : tx s ≠ [45, 45]) (h2 : isOpt s = true) (h45 : ((tx s).drop 1).getD 0 0 ≠ 45) (hL : lets sp l.head? ((tx s).drop 1) os = none) : flagsGo sp (f + 1) (s :: l) os rs = none := by
  rw [flagsGo, if_neg h, if_neg (by simp [h2]), optsOf, if_neg h45, hL]
theorem go_lets_some (h : tx s ≠ [45, 45]) (h2 : isOpt s = true) (h45 : ((tx s).drop 1).getD 0 0 ≠ 45) (hL : lets sp l.head? ((tx s).drop 1) os = some (os2, n)) : flagsGo sp (f + 1) (s :: l) os rs = flagsGo sp f (l.drop n) os2 rs := by
  rw [flagsGo, if_neg h, if_neg (by simp [h2]), optsOf, if_neg h45, hL]
end
theorem keyed_of {u t r : ByteArray} {j : Nat} {q : Bool} (hj : Plain.ahead u 61 = j) (ht : u.extract 0 j = t) (hr : u.extract (j + 1) u.size = r) (hq : isKey t = q) : keyed u = if q = true then some (t, r) else none := by
  rw [keyed, hj, ht, hr, hq]
/-- The first two bytes. -/
theorem first_two {s : ByteArray} (h : 2 ≤ s.size) : (tx s).take 2 = [s[0], s[1]] := by
  have h0 := tx_at s 0 (by omega)
  have h1 := tx_at s 1 (by omega)
  rw [List.drop_zero] at h0
  rw [h0]
  simp only [Nat.zero_add] at h1 ⊢
  rw [h1]
  rfl
theorem two_toList {s : ByteArray} (h : 2 ≤ s.size) : ((s.extract 0 2).toList == [45, 45]) = (s[0] == 45 && s[1] == 45) := by
  rw [tx_toList, tx_extract, List.drop_zero, first_two h]
  rw [Bool.eq_iff_iff]
  simp
theorem tx_two {s : ByteArray} (h : s.size = 2) : tx s = [s[0], s[1]] := by
  rw [← first_two (by omega), List.take_of_length_le (by rw [tx_len]; omega)]
theorem opt_of {s : ByteArray} (h : 1 < s.size) : isOpt s = (s[0] == 45) := by
  rw [isOpt, tx_get s 0 (by omega)]
  simp [h]
theorem sec_of {s : ByteArray} (h : 1 < s.size) : ((tx s).drop 1).getD 0 0 = s[1] := by
  rw [tx_at s 1 h]; rfl
theorem u8_eq {a : UInt8} {n : Nat} (hn : n < 256) : ((a.toNat : Int) == (n : Int)) = (a == UInt8.ofNat n) := by
  rw [Bool.eq_iff_iff]
  simp
  constructor
  · intro h
    exact UInt8.toNat_inj.1 (by rw [UInt8.toNat_ofNat']; omega)
  · intro h
    rw [h, UInt8.toNat_ofNat']
    omega

theorem kind_zero {sp : List UInt8} {c : UInt8} (h : known sp c = false) : (Plain.kind sp c : Int) = 0 := by
  have hv : valued sp c = false := by
    cases hv : valued sp c with
    | false => rfl
    | true => rw [valued_known hv] at h; cases h
  rw [Plain.kind, hv, h]; rfl
theorem kind_one {sp : List UInt8} {c : UInt8} (h : known sp c = true) (hv : valued sp c = false) : (Plain.kind sp c : Int) = 1 := by rw [Plain.kind, hv, h]; rfl
theorem kind_two {sp : List UInt8} {c : UInt8} (hv : valued sp c = true) : (Plain.kind sp c : Int) = 2 := by rw [Plain.kind, hv]; rfl
theorem kind_at (s : ByteArray) (x : Int) (c : UInt8) (z : Int) (w : World) (hs : s.size ≤ 1000000) (hx : x = (c.toNat : Int)) (hz : (Plain.kind (tx s) c : Int) = z) :
    Calls Try.prog 34 #[.string s, .int .u8 x] w fun e w' => e = .returned (.int .i64 z) ∧ w = w' := by
  subst hz
  exact kind_any s x c _ w hs hx rfl

/-- Where the letters' loop stands. -/
def LetAt (sp : List UInt8) (nx : Option ByteArray) (s : ByteArray) (L : Option (List Pr × Nat)) (n k j t : Nat) (os' : List Pr) : Prop :=
  (j < s.size ∧ t = 0 ∧ lets sp nx ((tx s).drop j) os' = L) ∨ (s.size ≤ j ∧ j ≤ s.size + 1 ∧ L = some (os', t) ∧ t ≤ 1 ∧ k + t < n)
theorem LetAt.on {sp : List UInt8} {nx : Option ByteArray} {s : ByteArray} {L : Option (List Pr × Nat)} {n k j : Nat} {os' : List Pr} (hj : j ≤ s.size) (hk : k < n) (h : lets sp nx ((tx s).drop j) os' = L) : LetAt sp nx s L n k j 0 os' := by
  by_cases hlt : j < s.size
  · exact .inl ⟨hlt, rfl, h⟩
  · refine .inr ⟨by omega, by omega, ?_, by omega, by omega⟩
    rw [List.drop_of_length_le (by rw [tx_len]; omega), lets] at h
    exact h.symm

set_option maxRecDepth 100000 in
set_option maxHeartbeats 16000000 in
theorem rflags_any (sp : ByteArray) (A : Option Addr) (n c : Nat) (T : List ByteArray) (F : Option (List Pr × List ByteArray)) (w : World) (hp : sp.size ≤ 1000000) (hT : Strs w A n c T) (hS : ∀ s ∈ T, s.size ≤ 1000) (hF : flags sp T = F) :
    Calls Try.prog 16 #[.string sp, .slice A n c] w (FlagsPost F w) := by
  have HT := Lib.hid hT; have HS := Lib.hid hS
  have hlen := hT.len
  have hmx : n ≤ 9223372036854775807 := by have h1 := hT.le; have h2 := hT.mx; unfold maxLen at h2; omega
  clear hT hS
  have S0 := Lib.hid (show Fstand w w.heap.size (w.heap.size + 1) (.slice none 0 0) (.slice none 0 0) [] [] ((w.alloc (.cells #[.slice none 0 0, .slice none 0 0] 25)).alloc (.cells #[.slice none 0 0, .slice none 0 0] 25)) from
    ⟨(Row.new w 25 _).alloc _, (show w.heap.size + 1 = (w.alloc (.cells #[.slice none 0 0, .slice none 0 0] 25)).heap.size by simp) ▸ Row.new _ _ _, Nat.le_refl _, by omega, ownO_nil _ _, ownT_nil _ _, .inl rfl, ((Below.refl w.heap.size w).alloc (Nat.le_refl _) _).alloc (by simp) _⟩)
  by_cases hbig : 40 < n
  · rw [flags, if_pos (.inl (by omega))] at hF
    subst hF
    have E := Lib.hid S0.out.fails
    obtain ⟨r0, r1, h0, h1⟩ := S0.out.r.two
    go_enter Try.func16, Try.ntmps16
    go_wp2
    refine res_box rfl w.heap.size #[.slice none 0 0, .slice none 0 0] rfl (load25 ?_) rfl ?_
    · first | exact E.out.1 | exact S0.out.r
    · first | exact E.out.2 | exact flagsPost_none S0.out.b
  · have hn40 : n ≤ 40 := by omega
    clear hbig
    obtain ⟨q, hq⟩ : ∃ q, isSpec sp = q := ⟨_, rfl⟩
    have HQ := Lib.hid hq
    cases q with
    | false =>
      rw [flags, if_pos (.inr hq)] at hF
      subst hF
      clear hq
      go_enter Try.func16, Try.ntmps16
      go_wp2_with fail
      refine (mayspec_at sp false _ hp HQ.out).mono ?_
      rintro e w1 ⟨rfl, q1⟩
      have S1 := Lib.hid (S0.out.on q1)
      have E := Lib.hid S1.out.fails
      obtain ⟨r0, r1, h0, h1⟩ := S1.out.r.two
      clear q1
      go_wp2
      refine res_box rfl w.heap.size _ rfl (load25 E.out.1) rfl ?_
      exact E.out.2
    | true =>
      rw [flags, if_neg (by rw [hq]; simp; omega)] at hF
      have HF := Lib.hid (show flagsGo (tx sp) n (T.drop 0) [] [] = F by rw [← hF, hlen]; rfl)
      have HLEN := Lib.hid hlen
      clear hF hq hlen
      go_enter Try.func16, Try.ntmps16
      go_wp2_with fail
      refine (mayspec_at sp true _ hp HQ.out).mono ?_
      rintro e w1 ⟨rfl, q1⟩
      have S1 := Lib.hid (S0.out.on q1)
      clear q1 S0
      go_wp2
      generalize hrb : w.heap.size = rb at *
      have HRB := Lib.hid hrb
      clear hrb
      generalize hpb : rb + 1 = pb at *
      clear hpb
      go_loopw [7] (fun vi wr => ∃ (k : Nat) (v1 v2 : Value) (os : List Pr) (rs : List ByteArray) (f : Nat), vi = .int .i64 (k : Int) ∧ k ≤ n ∧ Hid (n - k ≤ f ∧ rs.length + (n - k) ≤ 40 ∧ os.length + 1000 * (n - k) ≤ 40000) ∧ Hid (Fstand w rb pb v1 v2 os rs wr) ∧ Hid (flagsGo (tx sp) f (T.drop k) os rs = F)) (fun vi _ => n - (intOf vi).toNat)
      case atStart => exact ⟨0, _, _, [], [], n, rfl, Nat.zero_le _, ⟨by omega, by simp; omega, by simp; omega⟩, S1.out, HF.out⟩
      case round =>
        clear HF S1
        obtain ⟨k, v1, v2, os, rs, f, rfl, hk, BD, S, HF⟩ := hrel
        obtain ⟨A1, c1, rfl, _, _⟩ := S.out.o.opts
        obtain ⟨A2, c2, rfl, _⟩ := S.out.t.strs
        by_cases hlt : k < n
        · obtain ⟨b, o, rfl, hb, hc⟩ := HT.out.cells (by omega)
          have hle := HT.out.le
          have c0 := (S.out.b.cell (p := ⟨b, o + k, none⟩) hb).trans (hc k hlt)
          have k0 : (0 : Int) ≤ (k : Int) := by omega
          have k1 : (k : Int) < (n : Int) := by omega
          have hss := HS.out _ (getD_mem (l := T) (k := k) (by have := HLEN.out; omega))
          have HD := Lib.hid (drop_at (T := T) (k := k) (by have := HLEN.out; omega))
          have HNX := Lib.hid (show ∀ h : k + 1 < n, (T.drop (k + 1)).head? = some (T.getD (k + 1) default) from fun h => by rw [drop_at (T := T) (k := k + 1) (by have := HLEN.out; omega)]; rfl)
          have HNN := Lib.hid (show n ≤ k + 1 → (T.drop (k + 1)).head? = none from fun h => by rw [List.drop_of_length_le (by have := HLEN.out; omega)]; rfl)
          have HC := Lib.hid hc
          clear hc
          generalize T.getD k default = s at *
          have hfl := HF.out
          rw [HD.out] at hfl
          obtain ⟨f, rfl⟩ : ∃ f', f = f' + 1 := ⟨f - 1, by have := BD.out.1; omega⟩
          have HFL := Lib.hid hfl
          clear hfl HF HD
          by_cases hdd : tx s = [45, 45]
          · by_cases hcc : c = k + 1
            · have hkn : n = k + 1 := by omega
              have hT0 : T.drop (k + 1) = [] := List.drop_of_length_le (by have := HLEN.out; omega)
              have TL := Lib.hid (show Strs w (some ⟨b, o, none⟩) 0 0 [] from ⟨rfl, Nat.le_refl _, Nat.zero_le _, fun h => (by cases h), fun h => absurd h (by omega)⟩)
              have hf2 : F = some (os, rs ++ []) := by rw [← HFL.out, go_end hdd, hT0]
              subst hcc hkn
              subst hf2
              have hz : (s.toList == [45, 45]) = true := by rw [tx_toList, hdd]; rfl
              have hz1 : s.toList = [45, 45] := by rw [tx_toList, hdd]
              have n4 : IntKind.i64.wrap ((k : Int) + 1) = (k : Int) + 1 := IntWalk.i64_in _ (by omega)
              have n3 : (0 : Int) ≤ (k : Int) + 1 := by omega
              have n2 : (k : Int) + 1 ≤ (((k + 1 : Nat) : Int)) := by omega
              obtain ⟨p0, p1, g0, g1⟩ := S.out.p.two
              clear HFL hdd
              go_wp2
              go_still_tail 6, (by kernel_rfl)
              change wpList _ _ _ _ _ wr.drew
              have S2 := Lib.hid (show Fstand w rb pb _ _ os rs wr.drew from S.out.on ((Below.refl _ _).drew))
              generalize wr.drew = W2 at *
              clear S
              obtain ⟨p0, p1, g0, g1⟩ := S2.out.p.two
              have BD2 := Lib.hid (show rs.length + 0 ≤ 1000000 by have := BD.out.2.1; omega)
              go_upto_region 11 with (at_builtin; refine append_texts rfl _ _ rfl (pb + 1) _ rs rfl S2.out.t _ 0 0 [] rfl (TL.out.on S2.out.b) BD2.out S2.out.size ?_; intro v3 w3 o3 g3 m3 b3; obtain ⟨A3, c3, hv3, _⟩ := OwnT.strs o3; generalize (rs ++ []).length = n3 at hv3; subst hv3; have R3 := S2.out.midT g3; obtain ⟨p0, p1, g0, g1⟩ := R3.two; have S3 := Lib.hid (S2.out.putT o3 g3 m3 b3); clear o3 g3 m3 b3 R3)
              generalize w3.setCell ⟨pb, 1, none⟩ (.slice A3 n3 c3) = W3 at *
              obtain ⟨p0, p1, g0, g1⟩ := S3.out.p.two
              obtain ⟨r0, r1, h0, h1⟩ := S3.out.r.two
              have E := Lib.hid S3.out.ends
              clear S3 S2
              go_wp2
              refine res_box rfl rb _ rfl (load25 E.out.1) rfl ?_
              first | exact E.out.2 | (have e := E.out.2; rw [List.append_nil] at e; exact e)
            · have TL := Lib.hid (HT.out.drop (k + 1) (by omega))
              have hf2 : F = some (os, rs ++ T.drop (k + 1)) := HFL.out.symm.trans (go_end hdd)
              subst hf2
              have hz : (s.toList == [45, 45]) = true := by rw [tx_toList, hdd]; rfl
              have hz1 : s.toList = [45, 45] := by rw [tx_toList, hdd]
              have n4 : IntKind.i64.wrap ((k : Int) + 1) = (k : Int) + 1 := IntWalk.i64_in _ (by omega)
              have n3 : (0 : Int) ≤ (k : Int) + 1 := by omega
              have n2 : (k : Int) + 1 ≤ ((n : Int)) := by omega
              obtain ⟨p0, p1, g0, g1⟩ := S.out.p.two
              clear HFL hdd
              go_wp2
              go_still_tail 6, (by kernel_rfl)
              change wpList _ _ _ _ _ wr.drew
              have S2 := Lib.hid (show Fstand w rb pb _ _ os rs wr.drew from S.out.on ((Below.refl _ _).drew))
              generalize wr.drew = W2 at *
              clear S
              obtain ⟨p0, p1, g0, g1⟩ := S2.out.p.two
              have BD2 := Lib.hid (show rs.length + (n - (k + 1)) ≤ 1000000 by have := BD.out.2.1; omega)
              go_upto_region 11 with (at_builtin; refine append_texts rfl _ _ rfl (pb + 1) _ rs rfl S2.out.t _ (n - (k + 1)) (c - (k + 1)) (T.drop (k + 1)) rfl (TL.out.on S2.out.b) BD2.out S2.out.size ?_; intro v3 w3 o3 g3 m3 b3; obtain ⟨A3, c3, hv3, _⟩ := OwnT.strs o3; generalize (rs ++ (T.drop (k + 1))).length = n3 at hv3; subst hv3; have R3 := S2.out.midT g3; obtain ⟨p0, p1, g0, g1⟩ := R3.two; have S3 := Lib.hid (S2.out.putT o3 g3 m3 b3); clear o3 g3 m3 b3 R3)
              generalize w3.setCell ⟨pb, 1, none⟩ (.slice A3 n3 c3) = W3 at *
              obtain ⟨p0, p1, g0, g1⟩ := S3.out.p.two
              obtain ⟨r0, r1, h0, h1⟩ := S3.out.r.two
              have E := Lib.hid S3.out.ends
              clear S3 S2
              go_wp2
              refine res_box rfl rb _ rfl (load25 E.out.1) rfl ?_
              first | exact E.out.2 | (have e := E.out.2; rw [List.append_nil] at e; exact e)
          · have hz : (s.toList == [45, 45]) = false := by rw [tx_toList]; simpa using hdd
            have hz1 : ¬ s.toList = [45, 45] := by rw [tx_toList]; exact hdd
            have HDD := Lib.hid hdd
            obtain ⟨q, hq⟩ : ∃ q, isOpt s = q := ⟨_, rfl⟩
            have HIO := Lib.hid hq
            cases q with
            | false =>
              have X := Lib.hid ((go_rest HDD.out HIO.out).symm.trans HFL.out)
              have ways : s.size ≤ 1 ∨ (s.size = 2 ∧ ∀ h : 0 < s.size, ((s[0].toNat : Int) == 45) = false) ∨ (2 < s.size ∧ ((s.extract 0 2).toList == [45, 45]) = false ∧ ∀ h : 0 < s.size, ((s[0].toNat : Int) == 45) = false) := by
                by_cases h1 : s.size ≤ 1
                · exact .inl h1
                · have h0 : s[0] ≠ 45 := by
                    rw [opt_of (by omega)] at hq
                    simpa using hq
                  have e0 : ∀ h : 0 < s.size, ((s[0].toNat : Int) == 45) = false := fun h => by
                    simp
                    intro h'
                    exact h0 (UInt8.toNat_inj.1 (by show s[0].toNat = 45; omega))
                  by_cases h2 : s.size = 2
                  · exact .inr (.inl ⟨h2, e0⟩)
                  · exact .inr (.inr ⟨by omega, by rw [two_toList (by omega)]; simp [h0], e0⟩)
              clear hdd hq
              obtain ⟨p0, p1, g0, g1⟩ := S.out.p.two
              have SA := Lib.hid (S.out.on ((Below.refl _ _).alloc (Nat.le_refl _) (.cells #[.string s] 9)))
              have BD2 := Lib.hid (show rs.length + 1 ≤ 1000000 by have := BD.out.2.1; omega)
              rcases ways with hw | ⟨hw, hw2⟩ | ⟨hw, hw3, hw2⟩
              · go_wp2_with (at_builtin; refine append_texts rfl _ _ rfl (pb + 1) _ rs rfl SA.out.t _ 1 1 [s] rfl (strs_one _ _ _ (by simp)) BD2.out SA.out.size ?_; intro v3 w3 o3 g3 m3 b3; obtain ⟨A3, c3, hv3, _⟩ := OwnT.strs o3; generalize (rs ++ [s]).length = n3 at hv3; subst hv3; have R3 := SA.out.midT g3; obtain ⟨p0, p1, g0, g1⟩ := R3.two; have S3 := Lib.hid (SA.out.putT o3 g3 m3 b3); clear o3 g3 m3 b3 R3)
                go_roundw
                case rel => exact ⟨k + 1, _, _, os, rs ++ [s], f, by go_num, by omega, by have := BD.out; unfold Hid; simp; omega, S3.out, X.out⟩
                case measure => simp [intOf]; omega
              · have h0s : 0 < s.size := by omega
                have hw4 := hw2 h0s
                have hw5 : ¬ ((s[0].toNat : Int) = 45) := by simpa using hw4
                clear hw2
                go_wp2_with (at_builtin; refine append_texts rfl _ _ rfl (pb + 1) _ rs rfl SA.out.t _ 1 1 [s] rfl (strs_one _ _ _ (by simp)) BD2.out SA.out.size ?_; intro v3 w3 o3 g3 m3 b3; obtain ⟨A3, c3, hv3, _⟩ := OwnT.strs o3; generalize (rs ++ [s]).length = n3 at hv3; subst hv3; have R3 := SA.out.midT g3; obtain ⟨p0, p1, g0, g1⟩ := R3.two; have S3 := Lib.hid (SA.out.putT o3 g3 m3 b3); clear o3 g3 m3 b3 R3)
                go_roundw
                case rel => exact ⟨k + 1, _, _, os, rs ++ [s], f, by go_num, by omega, by have := BD.out; unfold Hid; simp; omega, S3.out, X.out⟩
                case measure => simp [intOf]; omega
              · have h0s : 0 < s.size := by omega
                have hw4 := hw2 h0s
                have hw5 : ¬ ((s[0].toNat : Int) = 45) := by simpa using hw4
                clear hw2
                go_wp2_with (at_builtin; refine append_texts rfl _ _ rfl (pb + 1) _ rs rfl SA.out.t _ 1 1 [s] rfl (strs_one _ _ _ (by simp)) BD2.out SA.out.size ?_; intro v3 w3 o3 g3 m3 b3; obtain ⟨A3, c3, hv3, _⟩ := OwnT.strs o3; generalize (rs ++ [s]).length = n3 at hv3; subst hv3; have R3 := SA.out.midT g3; obtain ⟨p0, p1, g0, g1⟩ := R3.two; have S3 := Lib.hid (SA.out.putT o3 g3 m3 b3); clear o3 g3 m3 b3 R3)
                go_roundw
                case rel => exact ⟨k + 1, _, _, os, rs ++ [s], f, by go_num, by omega, by have := BD.out; unfold Hid; simp; omega, S3.out, X.out⟩
                case measure => simp [intOf]; omega
            | true =>
              have hs1 : 1 < s.size := by
                rw [isOpt] at hq
                simp at hq
                exact hq.1
              have h45 : s[0] = 45 := by
                rw [opt_of hs1] at hq
                simpa using hq
              have h0s : 0 < s.size := by omega
              have hz2 : ((s[0].toNat : Int) == 45) = true := by rw [h45]; rfl
              have hz3 : (s[0].toNat : Int) = 45 := by rw [h45]; rfl
              clear hq
              by_cases hsec : s[1] = 45
              · have hs2 : 2 < s.size := by
                  by_cases h : s.size = 2
                  · exact absurd (by rw [tx_two h, h45, hsec]) hdd
                  · omega
                have HSEC := Lib.hid (show ((tx s).drop 1).getD 0 0 = 45 by rw [sec_of hs1]; exact hsec)
                have hz4 : ((s.extract 0 2).toList == [45, 45]) = true := by rw [two_toList (by omega), h45, hsec]; rfl
                have hz5 : (s.extract 0 2).toList = [45, 45] := by simpa using hz4
                obtain ⟨u, hu⟩ : ∃ u, s.extract 2 s.size = u := ⟨_, rfl⟩
                have hus : u.size ≤ 1000000 := by rw [← hu, ← tx_len, tx_extract, List.length_take, List.length_drop, tx_len]; omega
                have HU := Lib.hid hu
                obtain ⟨j, hj⟩ : ∃ j, Plain.ahead u 61 = j := ⟨_, rfl⟩
                obtain ⟨t, ht⟩ : ∃ t, u.extract 0 j = t := ⟨_, rfl⟩
                obtain ⟨r, hr⟩ : ∃ r, u.extract (j + 1) u.size = r := ⟨_, rfl⟩
                obtain ⟨q, hq⟩ : ∃ q, isKey t = q := ⟨_, rfl⟩
                have hts : t.size ≤ 1000000 := by rw [← ht, ← tx_len, tx_extract, List.length_take, List.length_drop, tx_len]; omega
                have hop := keyed_of hj ht hr hq
                have HJ := Lib.hid hj; have HTT := Lib.hid ht; have HRR := Lib.hid hr; have HQK := Lib.hid hq
                clear hj ht hr hq hdd h45 hsec
                obtain ⟨pp, hpp⟩ : ∃ pp, decide (j < u.size) = pp := ⟨_, rfl⟩
                have HPP := Lib.hid hpp
                clear hpp
                cases q with
                | false =>
                  rw [if_neg (by simp)] at hop
                  have hf2 := (go_key_none (sp := tx sp) (f := f) (l := T.drop (k + 1)) (os := os) (rs := rs) HDD.out HIO.out HSEC.out HU.out hop).symm.trans HFL.out
                  subst hf2
                  clear hop
                  go_wp2_with fail
                  refine (cut_at u 61 61 j t r pp _ hus rfl HJ.out HTT.out HRR.out HPP.out).mono ?_
                  rintro e w2 ⟨rfl, q2⟩
                  have S2 := Lib.hid (S.out.on q2)
                  clear q2 S
                  obtain ⟨r0, r1, h0, h1⟩ := S2.out.r.two
                  have E := Lib.hid S2.out.fails
                  go_wp2_with fail
                  refine (rletters_any t false _ hts HQK.out).mono ?_
                  rintro e w3 ⟨rfl, rfl⟩
                  go_wp2
                  refine res_box rfl rb _ rfl (load25 E.out.1) rfl ?_
                  exact E.out.2
                | true =>
                  rw [if_pos rfl] at hop
                  have X := Lib.hid ((go_key_some (sp := tx sp) (f := f) (l := T.drop (k + 1)) (os := os) (rs := rs) HDD.out HIO.out HSEC.out HU.out hop).symm.trans HFL.out)
                  clear hop
                  go_wp2_with fail
                  refine (cut_at u 61 61 j t r pp _ hus rfl HJ.out HTT.out HRR.out HPP.out).mono ?_
                  rintro e w2 ⟨rfl, q2⟩
                  have S2 := Lib.hid (S.out.on q2)
                  clear q2 S
                  go_wp2_with fail
                  refine (rletters_any t true _ hts HQK.out).mono ?_
                  rintro e w3 ⟨rfl, rfl⟩
                  obtain ⟨p0, p1, g0, g1⟩ := S2.out.p.two
                  have SA := Lib.hid (S2.out.on ((Below.refl _ _).alloc (Nat.le_refl _) (.cells #[.string t, .string r] 31)))
                  have BD2 := Lib.hid (show os.length + 1 ≤ 1000000 by have := BD.out.2.2; omega)
                  go_wp2_with (at_builtin; refine append_opts rfl _ _ rfl (pb + 1) _ os rfl SA.out.o _ 1 1 [(t, r)] rfl (opts_one _ _ _ _ (by simp)) (fun h => by cases h) BD2.out SA.out.size ?_; intro v3 w3 o3 g3 m3 b3; obtain ⟨A4, c4, hv3, _⟩ := OwnO.opts o3; generalize (os ++ [(t, r)]).length = n4 at hv3; subst hv3; have R3 := SA.out.midO g3; obtain ⟨p0, p1, g0, g1⟩ := R3.two; have S3 := Lib.hid (SA.out.putO o3 g3 m3 b3); clear o3 g3 m3 b3 R3)
                  go_roundw
                  case rel => exact ⟨k + 1, _, _, os ++ [(t, r)], rs, f, by go_num, by omega, by have := BD.out; unfold Hid; simp; omega, S3.out, X.out⟩
                  case measure => simp [intOf]; omega
              · have HSEC := Lib.hid (show ((tx s).drop 1).getD 0 0 ≠ 45 by rw [sec_of hs1]; exact hsec)
                have hz4 : 2 < s.size → ((s.extract 0 2).toList == [45, 45]) = false := fun h => by rw [two_toList (by omega)]; simp [hsec]
                clear hdd h45 hsec
                obtain ⟨L, hL⟩ : ∃ L, lets (tx sp) (T.drop (k + 1)).head? ((tx s).drop 1) os = L := ⟨_, rfl⟩
                have HL := Lib.hid hL
                have FN := Lib.hid (show L = none → F = none from fun h => HFL.out.symm.trans (go_lets_none HDD.out HIO.out HSEC.out (HL.out.trans h)))
                have Fstand' := Lib.hid (show ∀ os2 t, L = some (os2, t) → flagsGo (tx sp) f (T.drop (k + t + 1)) os2 rs = F from fun os2 t h => by
                  rw [← HFL.out, go_lets_some HDD.out HIO.out HSEC.out (HL.out.trans h), List.drop_drop]
                  congr 2
                  omega)
                clear hL HFL
                have ways : s.size = 2 ∨ (2 < s.size ∧ ((s.extract 0 2).toList == [45, 45]) = false) := by
                  by_cases h : s.size = 2
                  · exact .inl h
                  · exact .inr ⟨by omega, hz4 (by omega)⟩
                clear hz4
                rcases ways with hw | ⟨hw, hw2⟩
                all_goals
                  go_wp2
                  clear hz hz1 hz2 hz3 hw
                  go_loopw [7, 12] (fun vi vk wr2 => ∃ (j t : Nat) (v1' : Value) (os' : List Pr), vk = .int .i64 (j : Int) ∧ vi = .int .i64 ((k + t : Nat) : Int) ∧ 1 ≤ j ∧ j ≤ s.size + 1 ∧ Hid (os'.length + 1 ≤ os.length + j) ∧ Hid (LetAt (tx sp) (T.drop (k + 1)).head? s L n k j t os') ∧ Hid (Fstand w rb pb v1' (.slice A2 rs.length c2) os' rs wr2)) (fun _ vk _ => s.size + 1 - (intOf vk).toNat)
                  case atStart => exact ⟨1, 0, _, os, rfl, rfl, Nat.le_refl _, by omega, by unfold Hid; omega, LetAt.on (by omega) hlt HL.out, S.out⟩
                  case round =>
                    clear S
                    obtain ⟨j, t, v1', os', rfl, rfl, hj1, hj2, OL, LA, S⟩ := hrel
                    obtain ⟨A3, c3, rfl, _, _⟩ := S.out.o.opts
                    have OL2 := Lib.hid (show os'.length + 1 ≤ 1000000 by have := OL.out; have := BD.out.2.2; omega)
                    have hla := LA.out
                    clear LA
                    by_cases hjs : j < s.size
                    · rcases hla with ⟨_, rfl, hl⟩ | ⟨h, _⟩
                      · rw [tx_at s j hjs] at hl
                        obtain ⟨K, hK⟩ : ∃ K, s.extract j (j + 1) = K := ⟨_, rfl⟩
                        have HK := Lib.hid (show K = bs [s[j]] by rw [← hK]; exact ext_one s j hjs)
                        have j0 : (0 : Int) ≤ (j : Int) := by omega
                        have j1 : (j : Int) < (s.size : Int) := by omega
                        have SB := Lib.hid (S.out.on ((Below.refl _ _).alloc (Nat.le_refl _) (.cells #[.string K, .string ⟨#[]⟩] 31)))
                        have BB := Lib.hid ((Below.refl wr.heap.size wr).alloc (Nat.le_refl _) (.cells #[.string K, .string ⟨#[]⟩] 31))
                        have RB := Lib.hid (Row.new wr 31 #[.string K, .string ⟨#[]⟩])
                        simp only [Nat.add_zero]
                        cases hkn : known (tx sp) s[j] with
                        | false =>
                          rw [lets_no hkn] at hl
                          have hf2 := FN.out hl.symm
                          subst hf2
                          have HKD := Lib.hid (kind_zero hkn)
                          clear hkn hl Fstand' FN
                          go_wp2_with fail
                          refine (kind_at sp _ s[j] 0 _ hp rfl HKD.out).mono ?_
                          rintro e w3 ⟨rfl, rfl⟩
                          generalize wr.alloc (.cells #[.string K, .string ⟨#[]⟩] 31) = W at *
                          obtain ⟨r0, r1, h0, h1⟩ := SB.out.r.two
                          have E := Lib.hid SB.out.fails
                          clear SB BB RB S
                          go_wp2
                          refine res_box rfl rb _ rfl (load25 E.out.1) rfl ?_
                          exact E.out.2
                        | true =>
                          cases hva : valued (tx sp) s[j] with
                          | false =>
                            rw [lets_on hkn hva, ← HK.out] at hl
                            have LN := Lib.hid (LetAt.on (j := j + 1) (by omega) hlt hl)
                            have HKD := Lib.hid (kind_one hkn hva)
                            clear hkn hva hl Fstand' FN
                            go_wp2_with fail
                            refine (kind_at sp _ s[j] 1 _ hp rfl HKD.out).mono ?_
                            rintro e w3 ⟨rfl, rfl⟩
                            generalize wr.alloc (.cells #[.string K, .string ⟨#[]⟩] 31) = W at *
                            obtain ⟨p0, p1, g0, g1⟩ := SB.out.p.two
                            obtain ⟨b0, b1, _, _⟩ := RB.out.two
                            have SA := Lib.hid (SB.out.on ((Below.refl _ _).alloc (Nat.le_refl _) (.cells #[.string K, .string ⟨#[]⟩] 31)))
                            clear SB BB RB S
                            go_wp2_with (at_builtin; refine append_opts rfl _ _ rfl (pb + 1) _ os' rfl SA.out.o _ 1 1 [(K, (⟨#[]⟩ : ByteArray))] rfl (opts_one _ _ _ _ (by simp)) (fun h => by cases h) OL2.out SA.out.size ?_; intro v3 w3 o3 g3 m3 b3; obtain ⟨A4, c4, hv3, _⟩ := OwnO.opts o3; generalize (os' ++ [(K, (⟨#[]⟩ : ByteArray))]).length = n4 at hv3; subst hv3; have R3 := SA.out.midO g3; obtain ⟨p0, p1, g0, g1⟩ := R3.two; have S3 := Lib.hid (SA.out.putO o3 g3 m3 b3); clear o3 g3 m3 b3 R3)
                            go_roundw
                            case rel => exact ⟨j + 1, 0, _, os' ++ [(K, (⟨#[]⟩ : ByteArray))], by go_num, rfl, by omega, by omega, by have := OL.out; unfold Hid; simp; omega, LN.out, S3.out⟩
                            case measure => simp [intOf] <;> omega

                          | true =>
                            rw [lets_val hkn hva] at hl
                            have HKD := Lib.hid (kind_two hva)
                            clear hkn hva
                            by_cases hl2 : j + 1 < s.size
                            · obtain ⟨V, hV⟩ : ∃ V, s.extract (j + 1) s.size = V := ⟨_, rfl⟩
                              have hV2 : V = bs ((tx s).drop (j + 1)) := by rw [← hV]; exact ext_from s _
                              rw [letEnd_here (by rw [tx_at s (j + 1) hl2]; simp), ← HK.out, ← hV2] at hl
                              have LN := Lib.hid (show LetAt (tx sp) (T.drop (k + 1)).head? s L n k (s.size + 1) 0 (os' ++ [(K, V)]) from .inr ⟨by omega, by omega, hl.symm, by omega, by omega⟩)
                              clear hV2 hl Fstand' FN
                              go_wp2_with fail
                              refine (kind_at sp _ s[j] 2 _ hp rfl HKD.out).mono ?_
                              rintro e w3 ⟨rfl, rfl⟩
                              generalize wr.alloc (.cells #[.string K, .string ⟨#[]⟩] 31) = W at *
                              obtain ⟨b0, b1, b2, b3⟩ := RB.out.two
                              have R4 := Lib.hid (RB.out.set1 (.string V))
                              have S4 := Lib.hid (S.out.on (BB.out.setCell (p := ⟨wr.heap.size, 1, none⟩) (Nat.le_refl _) (.string V)))
                              clear SB BB RB S
                              go_upto_region 27 with fail
                              generalize W.setCell ⟨wr.heap.size, 1, none⟩ (.string V) = W4 at *
                              clear b0 b1 b2 b3
                              obtain ⟨b0, b1, _, _⟩ := R4.out.two
                              obtain ⟨p0, p1, g0, g1⟩ := S4.out.p.two
                              have SA := Lib.hid (S4.out.on ((Below.refl _ _).alloc (Nat.le_refl _) (.cells #[.string K, .string V] 31)))
                              clear R4 S4
                              go_wp2_with (at_builtin; refine append_opts rfl _ _ rfl (pb + 1) _ os' rfl SA.out.o _ 1 1 [(K, V)] rfl (opts_one _ _ _ _ (by simp)) (fun h => by cases h) OL2.out SA.out.size ?_; intro v3 w3 o3 g3 m3 b3; obtain ⟨A4, c4, hv3, _⟩ := OwnO.opts o3; generalize (os' ++ [(K, V)]).length = n4 at hv3; subst hv3; have R3 := SA.out.midO g3; obtain ⟨p0, p1, g0, g1⟩ := R3.two; have S3 := Lib.hid (SA.out.putO o3 g3 m3 b3); clear o3 g3 m3 b3 R3)
                              go_roundw
                              case rel => exact ⟨s.size + 1, 0, _, os' ++ [(K, V)], by go_num, rfl, by omega, by omega, by have := OL.out; unfold Hid; simp; omega, LN.out, S3.out⟩
                              case measure => simp [intOf] <;> omega

                            · rw [show (tx s).drop (j + 1) = [] from List.drop_of_length_le (by rw [tx_len]; omega)] at hl
                              have hl3 : decide ((j : Int) + 1 < (s.size : Int)) = false := by simp; omega
                              by_cases hkn : k + 1 < n
                              · have hnx := HNX.out hkn
                                have hck := HC.out (k + 1) hkn
                                generalize T.getD (k + 1) default = tt at *
                                rw [hnx] at hl
                                have LN := Lib.hid (show LetAt (tx sp) (T.drop (k + 1)).head? s L n k (j + 1) 1 (os' ++ [(K, tt)]) from .inr ⟨by omega, by omega, by rw [← hl, HK.out]; rfl, by omega, by omega⟩)
                                have kk : ¬ ((n : Int) ≤ (k : Int) + 1) := by omega
                                have kk1 : decide ((n : Int) ≤ (k : Int) + 1) = false := by simp; omega
                                have k2 : (0 : Int) ≤ (k : Int) + 1 := by omega
                                have k3 : (k : Int) + 1 < (n : Int) := by omega
                                clear hl hnx Fstand' FN HNX HNN
                                go_wp2_with fail
                                refine (kind_at sp _ s[j] 2 _ hp rfl HKD.out).mono ?_
                                rintro e w3 ⟨rfl, rfl⟩
                                have c1' := (SB.out.b.cell (p := ⟨b, o + (k + 1), none⟩) hb).trans hck
                                generalize wr.alloc (.cells #[.string K, .string ⟨#[]⟩] 31) = W at *
                                obtain ⟨b0, b1, b2, b3⟩ := RB.out.two
                                have R4 := Lib.hid (RB.out.set1 (.string tt))
                                have S4 := Lib.hid (S.out.on (BB.out.setCell (p := ⟨wr.heap.size, 1, none⟩) (Nat.le_refl _) (.string tt)))
                                clear SB BB RB S hck
                                go_upto_region 33 with fail
                                generalize W.setCell ⟨wr.heap.size, 1, none⟩ (.string tt) = W4 at *
                                clear b0 b1 b2 b3 c1'
                                obtain ⟨b0, b1, _, _⟩ := R4.out.two
                                obtain ⟨p0, p1, g0, g1⟩ := S4.out.p.two
                                have SA := Lib.hid (S4.out.on ((Below.refl _ _).alloc (Nat.le_refl _) (.cells #[.string K, .string tt] 31)))
                                clear R4 S4
                                go_wp2_with (at_builtin; refine append_opts rfl _ _ rfl (pb + 1) _ os' rfl SA.out.o _ 1 1 [(K, tt)] rfl (opts_one _ _ _ _ (by simp)) (fun h => by cases h) OL2.out SA.out.size ?_; intro v3 w3 o3 g3 m3 b3; obtain ⟨A4, c4, hv3, _⟩ := OwnO.opts o3; generalize (os' ++ [(K, tt)]).length = n4 at hv3; subst hv3; have R3 := SA.out.midO g3; obtain ⟨p0, p1, g0, g1⟩ := R3.two; have S3 := Lib.hid (SA.out.putO o3 g3 m3 b3); clear o3 g3 m3 b3 R3)
                                go_roundw
                                case rel => exact ⟨j + 1, 1, _, os' ++ [(K, tt)], by go_num, by go_num, by omega, by omega, by have := OL.out; unfold Hid; simp; omega, LN.out, S3.out⟩
                                case measure => simp [intOf] <;> omega

                              · have hnn := HNN.out (by omega)
                                rw [hnn] at hl
                                have hf2 := FN.out hl.symm
                                subst hf2
                                have kk : (n : Int) ≤ (k : Int) + 1 := by omega
                                have kk1 : decide ((n : Int) ≤ (k : Int) + 1) = true := by simp; omega
                                clear hl hnn Fstand' FN HNX HNN
                                go_wp2_with fail
                                refine (kind_at sp _ s[j] 2 _ hp rfl HKD.out).mono ?_
                                rintro e w3 ⟨rfl, rfl⟩
                                generalize wr.alloc (.cells #[.string K, .string ⟨#[]⟩] 31) = W at *
                                obtain ⟨r0, r1, h0, h1⟩ := SB.out.r.two
                                have E := Lib.hid SB.out.fails
                                clear SB BB RB S
                                go_wp2
                                refine res_box rfl rb _ rfl (load25 E.out.1) rfl ?_
                                exact E.out.2
                      · omega
                    · rcases hla with ⟨h, _⟩ | ⟨_, _, hl, ht1, ht2⟩
                      · omega
                      · have X := Lib.hid (Fstand'.out os' t hl)
                        have hjd : decide ((j : Int) < (s.size : Int)) = false := by simp; omega
                        clear hl Fstand' FN HNX HNN
                        go_wp2
                        go_roundw
                        case rel => exact ⟨k + t + 1, _, _, os', rs, f, by go_num, by omega, by have := BD.out; have := OL.out; unfold Hid; omega, S.out, X.out⟩
                        case measure => simp [intOf] <;> omega
        · have hkn : k = n := by omega
          have hf2 : F = some (os, rs) := by
            have := HF.out
            rw [List.drop_of_length_le (by have := HLEN.out; omega), flagsGo] at this
            exact this.symm
          subst hf2
          obtain ⟨p0, p1, g0, g1⟩ := S.out.p.two
          obtain ⟨r0, r1, h0, h1⟩ := S.out.r.two
          have E := Lib.hid S.out.ends
          clear S HF
          go_wp2
          refine res_box rfl rb _ rfl (load25 E.out.1) rfl ?_
          exact E.out.2

end Go.Proofs.Ytnmekmifdmlogaa
