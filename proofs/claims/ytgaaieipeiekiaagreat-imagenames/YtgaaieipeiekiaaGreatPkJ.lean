/- Contracts of mayByte, MayName, mayIno, both; cmp.Compare of texts. / Contracts of slices.BinarySearchFunc over names and over files; image's named, numbered. / Contract of image's removed. / Contract of image's created. / Contract of image's renamed. -/
import Derived.Test.YtgaaieipeiekiaaGreatPkH
import Derived.Test.YtgaaieipeiekiaaGreatPkB
import Derived.WalkKit
import Derived.WalkSpells
import Derived.WalkLawsBesides
import Derived.Lib.Hide
import Derived.BigQuiet
import Derived.Test.YtgaaieipeiekiaaGreatPkI
import Derived.StillTailTactics
import Derived.Deep.Cut
import Derived.Deep.RegionHeld3
namespace Go.Proofs.YtgaaieipeiekiaaGreat
open Go.RowKit
set_option maxRecDepth 100000

def okV (x : Int) : Bool := (decide (97 ≤ x) && decide (x ≤ 122)) || (decide (48 ≤ x) && decide (x ≤ 57)) || decide (x = 46) || decide (x = 95) || decide (x = 45)
theorem okB_is (c : UInt8) : okB c = okV (c.toNat : Int) := rfl
theorem okV_yes {x : Int} (h : (97 ≤ x ∧ x ≤ 122) ∨ (48 ≤ x ∧ x ≤ 57) ∨ x = 46 ∨ x = 95 ∨ x = 45) : okV x = true := by
  simp only [okV, Bool.or_eq_true, Bool.and_eq_true, decide_eq_true_eq]; omega
theorem okV_no {x : Int} (h : ¬ ((97 ≤ x ∧ x ≤ 122) ∨ (48 ≤ x ∧ x ≤ 57) ∨ x = 46 ∨ x = 95 ∨ x = 45)) : okV x = false := by
  rw [← Bool.not_eq_true, okV]
  simp only [Bool.or_eq_true, Bool.and_eq_true, decide_eq_true_eq]; omega

set_option maxHeartbeats 1000000 in
theorem byte_any (x : Int) (w : World) (x0 : 0 ≤ x) (x1 : x ≤ 255) (z : Bool) (hz : okV x = z) : Calls Tryz.prog 36 #[.int .u8 x] w fun e w' => e = .returned (.bool z) ∧ w = w' := by
  have HZ := Lib.hid hz
  clear hz
  by_cases a1 : 97 ≤ x ∧ x ≤ 122
  · obtain ⟨b1, b2⟩ := a1
    have HY := Lib.hid (okV_yes (x := x) (by omega))
    go_enter Tryz.func36, Tryz.ntmps36
    go_wp2
    go_ret
    exact ⟨ret_bool (by rw [← HZ.out, HY.out]), by simp⟩
  · have a2 : ¬ 97 ≤ x ∨ ¬ x ≤ 122 := by omega
    clear a1
    by_cases a3 : 48 ≤ x ∧ x ≤ 57
    · obtain ⟨b1, b2⟩ := a3
      have HY := Lib.hid (okV_yes (x := x) (by omega))
      have b3 : ¬ 97 ≤ x := by omega
      clear a2
      go_enter Tryz.func36, Tryz.ntmps36
      go_wp2
      go_ret
      exact ⟨ret_bool (by rw [← HZ.out, HY.out]), by simp⟩
    · have a4 : ¬ 48 ≤ x ∨ ¬ x ≤ 57 := by omega
      clear a3
      by_cases c1 : x = 46
      · subst c1
        clear a2 a4
        go_enter Tryz.func36, Tryz.ntmps36
        go_wp2
        go_ret
        exact ⟨ret_bool (by rw [← HZ.out]; rfl), by simp⟩
      · by_cases c2 : x = 95
        · subst c2
          clear a2 a4
          go_enter Tryz.func36, Tryz.ntmps36
          go_wp2
          go_ret
          exact ⟨ret_bool (by rw [← HZ.out]; rfl), by simp⟩
        · by_cases c3 : x = 45
          · subst c3
            clear a2 a4
            go_enter Tryz.func36, Tryz.ntmps36
            go_wp2
            go_ret
            exact ⟨ret_bool (by rw [← HZ.out]; rfl), by simp⟩
          · have HY := Lib.hid (okV_no (x := x) (by omega))
            rcases a2 with a2 | a2
            · rcases a4 with a4 | a4
              · go_enter Tryz.func36, Tryz.ntmps36
                go_wp2
                go_ret
                exact ⟨ret_bool (by rw [← HZ.out, HY.out]; simp [c1, c2, c3]), by simp⟩
              · have a5 : 48 ≤ x := by omega
                go_enter Tryz.func36, Tryz.ntmps36
                go_wp2
                go_ret
                exact ⟨ret_bool (by rw [← HZ.out, HY.out]; simp [c1, c2, c3]), by simp⟩
            · have a6 : 97 ≤ x := by omega
              have a5 : 48 ≤ x := by omega
              have a7 : ¬ x ≤ 57 := by omega
              clear a4
              go_enter Tryz.func36, Tryz.ntmps36
              go_wp2
              go_ret
              exact ⟨ret_bool (by rw [← HZ.out, HY.out]; simp [c1, c2, c3]), by simp⟩

set_option maxHeartbeats 400000 in
theorem ino_any (k : Int) (w : World) (z : Bool) (hz : okIno k = z) : Calls Tryz.prog 63 #[.int .i64 k] w fun e w' => e = .returned (.bool z) ∧ w = w' := by
  have HZ := Lib.hid hz
  clear hz
  by_cases h1 : 1 ≤ k
  · by_cases h2 : k ≤ 4611686018427387904
    · have HY := Lib.hid (show okIno k = true by simp [okIno, h1, h2])
      go_enter Tryz.func63, Tryz.ntmps63
      go_wp2
      go_ret
      exact ⟨ret_bool (by rw [← HZ.out, HY.out]), by simp⟩
    · have HY := Lib.hid (show okIno k = false by simp [okIno, h2])
      go_enter Tryz.func63, Tryz.ntmps63
      go_wp2
      go_ret
      exact ⟨ret_bool (by rw [← HZ.out, HY.out]), by simp⟩
  · have HY := Lib.hid (show okIno k = false by simp [okIno, h1])
    go_enter Tryz.func63, Tryz.ntmps63
    go_wp2
    go_ret
    exact ⟨ret_bool (by rw [← HZ.out, HY.out]), by simp⟩

theorem bget (s : ByteArray) (k : Nat) (h : k < s.size) : s.data.toList.getD k 0 = s[k] := by
  rw [List.getD_eq_getElem?_getD, List.getElem?_eq_getElem (by simpa using h)]; rfl
theorem btake (s : ByteArray) (k : Nat) (h : k < s.size) : (s.data.toList.take (k + 1)).all okB = ((s.data.toList.take k).all okB && okB s[k]) := by
  rw [List.take_succ_eq_append_getElem (by simpa using h), List.all_append]
  simp
  rfl
theorem blen (s : ByteArray) : s.data.toList.length = s.size := by rw [Array.length_toList]; rfl
theorem ok_bad {s : ByteArray} {k : Nat} (h : k < s.size) (hb : okB s[k] = false) : okName s = false := by
  have : s.data.toList.all okB = false := by
    rw [List.all_eq_false]
    exact ⟨s[k], by have := List.getElem_mem (l := s.data.toList) (n := k) (by simpa using h); exact this, by simp [hb]⟩
  simp [okName, okL, this]

set_option maxHeartbeats 2000000 in
theorem name_any (s : ByteArray) (w : World) (hs : s.size ≤ maxLen) (z : Bool) (hz : okName s = z) : Calls Tryz.prog 13 #[.string s] w fun e w' => e = .returned (.bool z) ∧ w = w' := by
  unfold maxLen at hs
  have HZ := Lib.hid hz
  clear hz
  by_cases h1 : 1 ≤ s.size
  · by_cases h2 : s.size ≤ 20
    · have hl : ¬ s.size < 1 := by omega
      have h0 : 0 < s.size := by omega
      obtain ⟨f, hf⟩ : ∃ f : Int, (s[0].toNat : Int) = f := ⟨_, rfl⟩
      by_cases h3 : f = 45
      · have HY := Lib.hid (show okName s = false by
          rw [okName, okL, bget s 0 h0]; simp only [hf, h3]; simp)
        have HF := Lib.hid hf
        subst h3
        clear hf
        go_enter Tryz.func13, Tryz.ntmps13
        have hf := HF.out
        go_wp2
        go_ret
        exact ⟨ret_bool (by rw [← HZ.out, HY.out]), by simp⟩
      · have HY := Lib.hid (show okName s = s.data.toList.all okB by
          rw [okName, okL, bget s 0 h0, blen]; simp only [hf]; simp [h1, h2, h3])
        have HF := Lib.hid hf
        have h3' : ((s[0].toNat : Int) == 45) = false := by rw [hf]; simpa using h3
        have h3'' : ¬ (s[0].toNat : Int) = 45 := by rw [hf]; exact h3
        clear hf
        go_enter Tryz.func13, Tryz.ntmps13
        go_wp2
        clear h3' h3''
        go_loop [19] (fun i => ∃ k : Nat, k ≤ s.size ∧ i = .int .i64 k ∧ Hid ((s.data.toList.take k).all okB = true)) (fun i => s.size - (intOf i).toNat)
        case atStart => exact ⟨0, Nat.zero_le _, rfl, by simp [Hid]⟩
        case round =>
          obtain ⟨k, hk, rfl, HA⟩ := hrel
          by_cases hlt : k < s.size
          · have HT := Lib.hid (btake s k hlt)
            have HB := Lib.hid (ok_bad hlt)
            have u1 := s[k].toNat_lt
            obtain ⟨x, hx⟩ : ∃ x : Int, (s[k].toNat : Int) = x := ⟨_, rfl⟩
            have x0 : 0 ≤ x := by omega
            have x1 : x ≤ 255 := by omega
            have HX := Lib.hid hx
            clear u1 hx
            cases hy : okV x with
            | true =>
              have HV := Lib.hid hy
              clear hy
              go_wp2_with (go_at_call 36; (try rw [HX.out]); refine (byte_any x _ x0 x1 true HV.out).mono ?_; rintro e w' ⟨rfl, rfl⟩)
              go_round
              case rel => exact ⟨k + 1, by omega, by go_num, by unfold Hid; rw [HT.out, HA.out, okB_is, HX.out, HV.out]; rfl⟩
              case measure => simp [intOf]; omega
            | false =>
              have HV := Lib.hid hy
              clear hy
              go_wp2_with (go_at_call 36; (try rw [HX.out]); refine (byte_any x _ x0 x1 false HV.out).mono ?_; rintro e w' ⟨rfl, rfl⟩)
              go_ret
              exact ⟨ret_bool (by rw [← HZ.out, HB.out (by rw [okB_is, HX.out, HV.out])]), by simp⟩
          · obtain rfl : k = s.size := by omega
            have HE := Lib.hid (show s.data.toList.all okB = true by have := HA.out; rwa [List.take_of_length_le (Nat.le_of_eq (blen s))] at this)
            go_wp2
            go_ret
            exact ⟨ret_bool (by rw [← HZ.out, HY.out, HE.out]), by simp⟩
    · have HY := Lib.hid (show okName s = false by rw [okName, okL, blen]; simp [h2])
      have hl : ¬ s.size < 1 := by omega
      have h2' : 20 < s.size := by omega
      go_enter Tryz.func13, Tryz.ntmps13
      go_wp2
      go_ret
      exact ⟨ret_bool (by rw [← HZ.out, HY.out]), by simp⟩
  · have HY := Lib.hid (show okName s = false by rw [okName, okL, blen]; simp [h1])
    have hl : s.size < 1 := by omega
    go_enter Tryz.func13, Tryz.ntmps13
    go_wp2
    go_ret
    exact ⟨ret_bool (by rw [← HZ.out, HY.out]), by simp⟩

set_option maxHeartbeats 400000 in
theorem nans_any (s : ByteArray) (w : World) : Calls Tryz.prog 79 #[.string s] w fun e w' => e = .returned (.bool false) ∧ w = w' := by
  go_enter Tryz.func79, Tryz.ntmps79
  go_wp2
  go_ret
  exact ⟨ret_bool (by simp), by simp⟩
def cmps (a b : ByteArray) : Int := if nlt a b = true then -1 else if nlt b a = true then 1 else 0
theorem bl_le {a b : ByteArray} (h : nlt a b = false) : (Op.bytesLess a.toList b.toList || a.toList == b.toList) = !nlt b a := by
  have h' : Op.bytesLess a.toList b.toList = false := h
  rw [h', Bool.false_or]
  cases hb : nlt b a with
  | true =>
    have := ordN.ne hb
    simp only [Bool.not_true, beq_eq_false_iff_ne]
    exact fun e => this (toList_inj e).symm
  | false => rw [ordN.tot _ _ h hb]; simp
set_option maxHeartbeats 400000 in
theorem compares_any (a b : ByteArray) (w : World) : Calls Tryz.prog 58 #[.string a, .string b] w fun e w' => e = .returned (.int .i64 (cmps a b)) ∧ w = w' := by
  cases h1 : nlt a b with
  | true =>
    have HV := Lib.hid (show cmps a b = -1 by simp [cmps, h1])
    have h1' : Op.bytesLess a.toList b.toList = true := h1
    clear h1
    go_enter Tryz.func58, Tryz.ntmps58
    go_wp2_with (go_at_call 79; refine (nans_any _ _).mono ?_; rintro e w' ⟨rfl, rfl⟩)
    go_ret
    exact ⟨ret_int HV.out.symm, by simp⟩
  | false =>
    have h1' : Op.bytesLess a.toList b.toList = false := h1
    have hle := bl_le h1
    cases h2 : nlt b a with
    | true =>
      have HV := Lib.hid (show cmps a b = 1 by simp [cmps, h1, h2])
      rw [h2, h1', Bool.false_or] at hle
      have hle' : (a.toList == b.toList) = false := hle
      clear h1 h2 hle
      go_enter Tryz.func58, Tryz.ntmps58
      go_wp2_with (go_at_call 79; refine (nans_any _ _).mono ?_; rintro e w' ⟨rfl, rfl⟩)
      go_ret
      exact ⟨ret_int HV.out.symm, by simp⟩
    | false =>
      have HV := Lib.hid (show cmps a b = 0 by simp [cmps, h1, h2])
      rw [h2, h1', Bool.false_or] at hle
      have hle' : (a.toList == b.toList) = true := hle
      clear h1 h2 hle
      go_enter Tryz.func58, Tryz.ntmps58
      go_wp2_with (go_at_call 79; refine (nans_any _ _).mono ?_; rintro e w' ⟨rfl, rfl⟩)
      go_ret
      exact ⟨ret_int HV.out.symm, by simp⟩
end Go.Proofs.YtgaaieipeiekiaaGreat

namespace Go.Proofs.YtgaaieipeiekiaaGreat
open Go.RowKit
set_option maxRecDepth 100000

theorem cmps_neg {a b : ByteArray} {v : Int} (h : cmps a b = v) : (v < 0 ↔ ordN.lt a b = true) ∧ (v = 0 ↔ a = b) := by
  subst h
  show _ ∧ _
  unfold cmps
  show (_ ↔ nlt a b = true) ∧ _
  cases h1 : nlt a b with
  | true => exact ⟨by simp, by simp; exact ordN.ne h1⟩
  | false =>
    cases h2 : nlt b a with
    | true => exact ⟨by simp, by simp; exact fun e => ordN.ne h2 e.symm⟩
    | false => exact ⟨by simp, by simp; exact ordN.tot _ _ h1 h2⟩
theorem cmpv_neg {a b : Int} {v : Int} (h : cmpv a b = v) : (v < 0 ↔ ordI.lt a b = true) ∧ (v = 0 ↔ a = b) := by
  subst h
  show (_ ↔ decide (a < b) = true) ∧ _
  rw [decide_eq_true_eq]
  unfold cmpv
  split
  · exact ⟨by simp; assumption, by simp; omega⟩
  · split
    · exact ⟨by simp; omega, by simp; omega⟩
    · exact ⟨by simp; omega, by simp; omega⟩
theorem fnd_some_is {α K : Type} [Inhabited α] [DecidableEq K] {O : Ord K} {key : α → K} {L : List α} {k : K} (hr : Rise O key L) {i : Nat} (hi : pl O key L k = i) : (fnd key L k).isSome = (decide (i < L.length) && decide (key (L.getD i default) = k)) := by
  rw [fnd_pl hr, hi]
  by_cases h : i < L.length ∧ key (L.getD i default) = k
  · rw [if_pos h, decide_eq_true h.1, decide_eq_true h.2]; rfl
  · rw [if_neg h]
    symm
    rw [Option.isSome_none, ← Bool.not_eq_true, Bool.and_eq_true, decide_eq_true_eq, decide_eq_true_eq]
    exact h

set_option maxHeartbeats 400000 in
theorem cmpn_any (s : ByteArray) (k : Int) (t : ByteArray) (w : World) (v : Int) (hv : cmps s t = v) : Calls Tryz.prog 57 #[.agg #[.string s, .int .i64 k], .string t] w fun e' w' => e' = .returned (.int .i64 v) ∧ Below w.heap.size w w' := by
  have HV := Lib.hid hv
  have K1 := Lib.hid (show Below w.heap.size w (w.alloc (.cells #[.string s, .int .i64 k] 62)) from (Below.refl _ _).alloc (Nat.le_refl _) _)
  clear hv
  go_enter Tryz.func57, Tryz.ntmps57
  go_wp2_with (go_at_call 58; refine (compares_any _ _ _).mono ?_; rintro e' w' ⟨rfl, rfl⟩)
  go_ret
  exact ⟨ret_int HV.out, K1.out⟩

set_option maxHeartbeats 2000000 in
theorem searchn_any (A : Option Addr) (n c : Nat) (L : List Nm) (t : ByteArray) (w : World) (h : Nms w A n c L) (hu : Rise ordN Nm.name L) (hn : n ≤ 1000000) (i : Nat) (z : Bool) (hi : pl ordN Nm.name L t = i) (hz : (fnd Nm.name L t).isSome = z) :
    Calls Tryz.prog 56 #[.slice A n c, .string t, .func (.func 57) #[] #[]] w (FindPost i z w) := by
  have H := Lib.hid h
  have HI := Lib.hid hi
  have HZ := Lib.hid (show (decide (i < n) && decide (Nm.name (L.getD i default) = t)) = z by rw [← hz, fnd_some_is hu hi, h.len])
  have HU := Lib.hid hu
  clear h hi hz hu
  go_enter Tryz.func56, Tryz.ntmps56
  go_wp2
  go_loopw [9, 10] (fun a b wr => ∃ x y : Nat, x ≤ y ∧ y ≤ n ∧ a = .int .i64 x ∧ b = .int .i64 y ∧ Hid (∀ m, m < x → ordN.lt (Nm.name (L.getD m default)) t = true) ∧ Hid (∀ m, y ≤ m → m < n → ordN.lt (Nm.name (L.getD m default)) t = false) ∧ Hid (Below w.heap.size w wr)) (fun a b _ => (intOf b).toNat - (intOf a).toNat)
  case atStart => exact ⟨0, n, Nat.zero_le _, Nat.le_refl _, rfl, rfl, fun m h => absurd h (by omega), fun m h h' => absurd h (by omega), Below.refl _ _⟩
  case round =>
    obtain ⟨x, y, hxy, hyn, rfl, rfl, HX, HY, K1⟩ := hrel
    by_cases hlt : x < y
    · obtain ⟨b, o, rfl, hb, _⟩ := H.out.cells (by omega)
      obtain ⟨m, hm⟩ : ∃ m, (x + y) / 2 = m := ⟨_, rfl⟩
      have hmi : ((x : Int) + (y : Int)) / 2 = (m : Int) := by omega
      have m1 : x ≤ m := by omega
      have m2 : m < y := by omega
      have hmn : m < n := by omega
      have hat := Nms.at (H.out.on K1.out) m hmn
      obtain ⟨v, hv⟩ : ∃ v, cmps (Nm.name (L.getD m default)) t = v := ⟨_, rfl⟩
      have HV := Lib.hid hv
      have HXm := Lib.hid (show v < 0 → ∀ q, q < m + 1 → ordN.lt (Nm.name (L.getD q default)) t = true from fun h q hq => by
        have h1 := (cmps_neg hv).1.1 h
        by_cases he : q = m
        · rw [he]; exact h1
        · exact ordN.tr _ _ _ (pw_getD HU.out (i := q) (j := m) (by omega) (by have := H.out.len; omega)) h1)
      have HYm := Lib.hid (show ¬ v < 0 → ∀ q, m ≤ q → q < n → ordN.lt (Nm.name (L.getD q default)) t = false from fun h q hq hqn => by
        have h1 : ordN.lt (Nm.name (L.getD m default)) t = false := by
          cases hb : ordN.lt (Nm.name (L.getD m default)) t with
          | false => rfl
          | true => exact absurd ((cmps_neg hv).1.2 hb) h
        by_cases he : q = m
        · rw [he]; exact h1
        · have h2 := pw_getD HU.out (i := m) (j := q) (by omega) (by have := H.out.len; omega)
          cases hb : ordN.lt (Nm.name (L.getD q default)) t with
          | false => rfl
          | true => have := ordN.tr _ _ _ h2 hb; rw [h1] at this; cases this)
      clear hv hm
      generalize L.getD m default = e at HV hat
      obtain ⟨es, ek⟩ := e
      obtain ⟨c0, c1⟩ := hat
      simp only at c0 c1
      by_cases hv : v < 0
      · go_wp2_with (go_at_call 57; refine (cmpn_any es ek t _ v HV.out).mono ?_; rintro e' w2 ⟨rfl, k2⟩; have K2 := Lib.hid (K1.out.trans (k2.mono K1.out.size)); clear k2)
        go_roundw
        case rel => exact ⟨m + 1, y, by omega, by omega, by go_num, rfl, HXm.out hv, HY.out, K2.out⟩
        case measure => simp [intOf]; omega
      · go_wp2_with (go_at_call 57; refine (cmpn_any es ek t _ v HV.out).mono ?_; rintro e' w2 ⟨rfl, k2⟩; have K2 := Lib.hid (K1.out.trans (k2.mono K1.out.size)); clear k2)
        go_roundw
        case rel => exact ⟨x, m, by omega, by omega, rfl, rfl, HX.out, HYm.out hv, K2.out⟩
        case measure => simp [intOf]; omega
    · obtain rfl : x = y := by omega
      have hxi : i = x := by
        rw [← HI.out]
        exact pl_unique (by rw [H.out.len]; exact hyn) HX.out (fun h => HY.out x (Nat.le_refl _) (by rw [H.out.len] at h; exact h))
      subst hxi
      by_cases hin : i < n
      · obtain ⟨b, o, rfl, hb, _⟩ := H.out.cells (by omega)
        have hat := Nms.at (H.out.on K1.out) i hin
        obtain ⟨v, hv⟩ : ∃ v, cmps (Nm.name (L.getD i default)) t = v := ⟨_, rfl⟩
        have HV := Lib.hid hv
        have HW := Lib.hid (show decide (v = 0) = z by
          rw [← HZ.out]
          simp only [hin, decide_true, Bool.true_and]
          exact decide_eq_decide.2 (cmps_neg hv).2)
        clear hv
        generalize L.getD i default = e at HV hat
        obtain ⟨es, ek⟩ := e
        obtain ⟨c0, c1⟩ := hat
        simp only at c0 c1
        by_cases hv : v = 0
        · go_wp2_with (go_at_call 57; refine (cmpn_any es ek t _ v HV.out).mono ?_; rintro e' w2 ⟨rfl, k2⟩; have K2 := Lib.hid (K1.out.trans (k2.mono K1.out.size)); clear k2)
          go_ret2
          exact ⟨ret_pair rfl (by rw [← HW.out]; simp [hv]), K2.out⟩
        · go_wp2_with (go_at_call 57; refine (cmpn_any es ek t _ v HV.out).mono ?_; rintro e' w2 ⟨rfl, k2⟩; have K2 := Lib.hid (K1.out.trans (k2.mono K1.out.size)); clear k2)
          go_ret2
          exact ⟨ret_pair rfl (by rw [← HW.out]; simp [hv]), K2.out⟩
      · have HW := Lib.hid (show false = z by rw [← HZ.out]; simp [hin])
        go_wp2
        go_ret2
        exact ⟨ret_pair rfl (by rw [← HW.out]), K1.out⟩

set_option maxHeartbeats 400000 in
theorem named_any (A : Option Addr) (n c : Nat) (L : List Nm) (t : ByteArray) (w : World) (h : Nms w A n c L) (hu : Rise ordN Nm.name L) (hn : n ≤ 1000000) (i : Nat) (z : Bool) (hi : pl ordN Nm.name L t = i) (hz : (fnd Nm.name L t).isSome = z) :
    Calls Tryz.prog 30 #[.slice A n c, .string t] w (FindPost i z w) := by
  have H := Lib.hid h; have HU := Lib.hid hu; have HI := Lib.hid hi; have HZ := Lib.hid hz
  clear h hu hi hz
  go_enter Tryz.func30, Tryz.ntmps30
  go_wp2_with fail
  refine (searchn_any A n c L t w H.out HU.out hn i z HI.out HZ.out).mono ?_
  rintro e w1 ⟨rfl, k1⟩
  have K1 := Lib.hid k1
  clear k1
  go_wp2
  go_ret2
  exact ⟨rfl, K1.out⟩

set_option maxHeartbeats 400000 in
theorem cmpz_any (k s : Int) (B : Option Addr) (q d : Nat) (t : Int) (w : World) (v : Int) (hv : cmpv k t = v) : Calls Tryz.prog 60 #[.agg #[.int .i64 k, .int .i64 s, .slice B q d], .int .i64 t] w fun e' w' => e' = .returned (.int .i64 v) ∧ Below w.heap.size w w' := by
  have HV := Lib.hid hv
  have K1 := Lib.hid (show Below w.heap.size w (w.alloc (.cells #[.int .i64 k, .int .i64 s, .slice B q d] 59)) from (Below.refl _ _).alloc (Nat.le_refl _) _)
  clear hv
  go_enter Tryz.func60, Tryz.ntmps60
  go_wp2_with (go_at_call 61; refine (compare_any _ _ _).mono ?_; rintro e' w' ⟨rfl, rfl⟩)
  go_ret
  exact ⟨ret_int HV.out, K1.out⟩

set_option maxHeartbeats 2000000 in
theorem searchz_any (A : Option Addr) (n c : Nat) (L : List Nz) (t : Int) (w : World) (h : Nds w A n c L) (hu : Rise ordI Nz.ino L) (hn : n ≤ 1000000) (i : Nat) (z : Bool) (hi : pl ordI Nz.ino L t = i) (hz : (fnd Nz.ino L t).isSome = z) :
    Calls Tryz.prog 59 #[.slice A n c, .int .i64 t, .func (.func 60) #[] #[]] w (FindPost i z w) := by
  have H := Lib.hid h
  have HI := Lib.hid hi
  have HZ := Lib.hid (show (decide (i < n) && decide (Nz.ino (L.getD i default) = t)) = z by rw [← hz, fnd_some_is hu hi, h.len])
  have HU := Lib.hid hu
  clear h hi hz hu
  go_enter Tryz.func59, Tryz.ntmps59
  go_wp2
  go_loopw [9, 10] (fun a b wr => ∃ x y : Nat, x ≤ y ∧ y ≤ n ∧ a = .int .i64 x ∧ b = .int .i64 y ∧ Hid (∀ m, m < x → ordI.lt (Nz.ino (L.getD m default)) t = true) ∧ Hid (∀ m, y ≤ m → m < n → ordI.lt (Nz.ino (L.getD m default)) t = false) ∧ Hid (Below w.heap.size w wr)) (fun a b _ => (intOf b).toNat - (intOf a).toNat)
  case atStart => exact ⟨0, n, Nat.zero_le _, Nat.le_refl _, rfl, rfl, fun m h => absurd h (by omega), fun m h h' => absurd h (by omega), Below.refl _ _⟩
  case round =>
    obtain ⟨x, y, hxy, hyn, rfl, rfl, HX, HY, K1⟩ := hrel
    by_cases hlt : x < y
    · obtain ⟨b, o, rfl, hb, _⟩ := H.out.cells (by omega)
      obtain ⟨m, hm⟩ : ∃ m, (x + y) / 2 = m := ⟨_, rfl⟩
      have hmi : ((x : Int) + (y : Int)) / 2 = (m : Int) := by omega
      have m1 : x ≤ m := by omega
      have m2 : m < y := by omega
      have hmn : m < n := by omega
      have hat := Nds.at (H.out.on K1.out) m hmn
      obtain ⟨v, hv⟩ : ∃ v, cmpv (Nz.ino (L.getD m default)) t = v := ⟨_, rfl⟩
      have HV := Lib.hid hv
      have HXm := Lib.hid (show v < 0 → ∀ q, q < m + 1 → ordI.lt (Nz.ino (L.getD q default)) t = true from fun h q hq => by
        have h1 := (cmpv_neg hv).1.1 h
        by_cases he : q = m
        · rw [he]; exact h1
        · exact ordI.tr _ _ _ (pw_getD HU.out (i := q) (j := m) (by omega) (by have := H.out.len; omega)) h1)
      have HYm := Lib.hid (show ¬ v < 0 → ∀ q, m ≤ q → q < n → ordI.lt (Nz.ino (L.getD q default)) t = false from fun h q hq hqn => by
        have h1 : ordI.lt (Nz.ino (L.getD m default)) t = false := by
          cases hb : ordI.lt (Nz.ino (L.getD m default)) t with
          | false => rfl
          | true => exact absurd ((cmpv_neg hv).1.2 hb) h
        by_cases he : q = m
        · rw [he]; exact h1
        · have h2 := pw_getD HU.out (i := m) (j := q) (by omega) (by have := H.out.len; omega)
          cases hb : ordI.lt (Nz.ino (L.getD q default)) t with
          | false => rfl
          | true => have := ordI.tr _ _ _ h2 hb; rw [h1] at this; cases this)
      clear hv hm
      generalize L.getD m default = e at HV hat
      obtain ⟨ek, es, eA, en, ec, eL⟩ := e
      obtain ⟨c0, c1, c2⟩ := hat
      simp only at c0 c1 c2
      by_cases hv : v < 0
      · go_wp2_with (go_at_call 60; refine (cmpz_any ek es eA en ec t _ v HV.out).mono ?_; rintro e' w2 ⟨rfl, k2⟩; have K2 := Lib.hid (K1.out.trans (k2.mono K1.out.size)); clear k2)
        go_roundw
        case rel => exact ⟨m + 1, y, by omega, by omega, by go_num, rfl, HXm.out hv, HY.out, K2.out⟩
        case measure => simp [intOf]; omega
      · go_wp2_with (go_at_call 60; refine (cmpz_any ek es eA en ec t _ v HV.out).mono ?_; rintro e' w2 ⟨rfl, k2⟩; have K2 := Lib.hid (K1.out.trans (k2.mono K1.out.size)); clear k2)
        go_roundw
        case rel => exact ⟨x, m, by omega, by omega, rfl, rfl, HX.out, HYm.out hv, K2.out⟩
        case measure => simp [intOf]; omega
    · obtain rfl : x = y := by omega
      have hxi : i = x := by
        rw [← HI.out]
        exact pl_unique (by rw [H.out.len]; exact hyn) HX.out (fun h => HY.out x (Nat.le_refl _) (by rw [H.out.len] at h; exact h))
      subst hxi
      by_cases hin : i < n
      · obtain ⟨b, o, rfl, hb, _⟩ := H.out.cells (by omega)
        have hat := Nds.at (H.out.on K1.out) i hin
        obtain ⟨v, hv⟩ : ∃ v, cmpv (Nz.ino (L.getD i default)) t = v := ⟨_, rfl⟩
        have HV := Lib.hid hv
        have HW := Lib.hid (show decide (v = 0) = z by
          rw [← HZ.out]
          simp only [hin, decide_true, Bool.true_and]
          exact decide_eq_decide.2 (cmpv_neg hv).2)
        clear hv
        generalize L.getD i default = e at HV hat
        obtain ⟨ek, es, eA, en, ec, eL⟩ := e
        obtain ⟨c0, c1, c2⟩ := hat
        simp only at c0 c1 c2
        by_cases hv : v = 0
        · go_wp2_with (go_at_call 60; refine (cmpz_any ek es eA en ec t _ v HV.out).mono ?_; rintro e' w2 ⟨rfl, k2⟩; have K2 := Lib.hid (K1.out.trans (k2.mono K1.out.size)); clear k2)
          go_ret2
          exact ⟨ret_pair rfl (by rw [← HW.out]; simp [hv]), K2.out⟩
        · go_wp2_with (go_at_call 60; refine (cmpz_any ek es eA en ec t _ v HV.out).mono ?_; rintro e' w2 ⟨rfl, k2⟩; have K2 := Lib.hid (K1.out.trans (k2.mono K1.out.size)); clear k2)
          go_ret2
          exact ⟨ret_pair rfl (by rw [← HW.out]; simp [hv]), K2.out⟩
      · have HW := Lib.hid (show false = z by rw [← HZ.out]; simp [hin])
        go_wp2
        go_ret2
        exact ⟨ret_pair rfl (by rw [← HW.out]), K1.out⟩

set_option maxHeartbeats 400000 in
theorem numbered_any (A : Option Addr) (n c : Nat) (L : List Nz) (t : Int) (w : World) (h : Nds w A n c L) (hu : Rise ordI Nz.ino L) (hn : n ≤ 1000000) (i : Nat) (z : Bool) (hi : pl ordI Nz.ino L t = i) (hz : (fnd Nz.ino L t).isSome = z) :
    Calls Tryz.prog 32 #[.slice A n c, .int .i64 t] w (FindPost i z w) := by
  have H := Lib.hid h; have HU := Lib.hid hu; have HI := Lib.hid hi; have HZ := Lib.hid hz
  clear h hu hi hz
  go_enter Tryz.func32, Tryz.ntmps32
  go_wp2_with fail
  refine (searchz_any A n c L t w H.out HU.out hn i z HI.out HZ.out).mono ?_
  rintro e w1 ⟨rfl, k1⟩
  have K1 := Lib.hid k1
  clear k1
  go_wp2
  go_ret2
  exact ⟨rfl, K1.out⟩
end Go.Proofs.YtgaaieipeiekiaaGreat

namespace Go.Proofs.YtgaaieipeiekiaaGreat
open Go.RowKit
set_option maxRecDepth 100000

def remN (N : List Nm) (name : ByteArray) : List Nm := match fnd Nm.name N name with | none => N | some _ => del Nm.name N name
def remZ (N : List Nm) (Z : List Nz) (name : ByteArray) : List Nz := match fnd Nm.name N name with | none => Z | some x => del Nz.ino Z x.ino
/-- The two variables are as they were where rows alone changed. -/
theorem Va.seen {B : Nat} {w wr : World} {A A' : Option Addr} {D : Option Addr} {d : Nat} {D' : Option Addr} {d' : Nat} {N : List Nm} {Z : List Nz} (h : Va B w wr A A' D d D' d' N Z) {S : Nat → Prop} {w3 : World} (o : Only S wr w3) (hS : ∀ g, S g → S2 D D' g) :
    IBox w3 w.heap.size D N.length d D' Z.length d' ∧ IBox w3 (w.heap.size + 1) none 0 0 none 0 0 :=
  ⟨Row.only h.box o (fun hd => by have := h.new _ (hS _ hd); omega), Row.only h.res o (fun hd => by have := h.new _ (hS _ hd); omega)⟩
theorem Nms.at0 {w : World} {g n c : Nat} {N : List Nm} (h : Nms w (some ⟨g, 0, none⟩) n c N) (j : Nat) (hj : j < n) : w.cell? ⟨g, j * 2, none⟩ = some (.string (N.getD j default).name) ∧ w.cell? ⟨g, j * 2 + 1, none⟩ = some (.int .i64 (N.getD j default).ino) := by
  have := Nms.at h j hj
  rwa [Nat.zero_add] at this
theorem Nds.at0 {w : World} {g n c : Nat} {Z : List Nz} (h : Nds w (some ⟨g, 0, none⟩) n c Z) (j : Nat) (hj : j < n) : w.cell? ⟨g, j * 3, none⟩ = some (.int .i64 (Z.getD j default).ino) ∧ w.cell? ⟨g, j * 3 + 1, none⟩ = some (.int .i64 (Z.getD j default).s) ∧ w.cell? ⟨g, j * 3 + 2, none⟩ = some (.slice (Z.getD j default).A (Z.getD j default).n (Z.getD j default).c) := by
  have := Nds.at h j hj
  rwa [Nat.zero_add] at this
theorem len_del1 {α K : Type} [DecidableEq K] {O : Ord K} {key : α → K} {L : List α} {k : K} {x : α} (hr : Rise O key L) (h : fnd key L k = some x) : L.length = (del key L k).length + 1 := (del_perm hr h).length_eq

set_option maxHeartbeats 8000000 in
theorem removed_any (B : Nat) (A : Option Addr) (c : Nat) (A' : Option Addr) (c' : Nat) (N : List Nm) (Z : List Nz) (name : ByteArray) (w : World) (h : Img B w A c A' c' N Z) (hr : Rise ordN Nm.name N) (hu : Rise ordI Nz.ino Z) (hh : ∀ x, fnd Nm.name N name = some x → ∃ y, fnd Nz.ino Z x.ino = some y) (hn : N.length ≤ 1000) (hk : Z.length ≤ 1000) (M : List Nm) (Y : List Nz) (hM : remN N name = M) (hY : remZ N Z name = Y) :
    Calls Tryz.prog 78 #[iv A N.length c A' Z.length c', .string name] w (ImgPost B A A' M Y w) := by
  obtain ⟨W, hW⟩ : ∃ W, (w.alloc (.cells #[.slice A N.length c, .slice A' Z.length c'] 25)).alloc (.cells #[.slice none 0 0, .slice none 0 0] 25) = W := ⟨_, rfl⟩
  have HW := Lib.hid hW
  have V0 := Lib.hid (show Va B w W A A' A c A' c' N Z by rw [← hW]; exact va_start h)
  obtain ⟨i, hi⟩ : ∃ i, pl ordN Nm.name N name = i := ⟨_, rfl⟩
  obtain ⟨z, hz⟩ : ∃ z, (fnd Nm.name N name).isSome = z := ⟨_, rfl⟩
  have HI := Lib.hid hi; have HZ := Lib.hid hz; have HR := Lib.hid hr; have HU := Lib.hid hu; have HH := Lib.hid hh; have HM := Lib.hid hM; have HY := Lib.hid hY
  clear h hW hi hz hr hu hh hM hY
  show Calls Tryz.prog 78 #[.agg #[.slice A N.length c, .slice A' Z.length c'], .string name] w _
  go_enter Tryz.func78, Tryz.ntmps78
  go_wp2_with fail
  rw [HW.out]
  refine (named_any A N.length c N name W V0.out.nx.img.im.names HR.out (by omega) i z HI.out HZ.out).mono ?_
  rintro e w1 ⟨rfl, k1⟩
  have V1 := Lib.hid (V0.out.on k1)
  clear k1 V0
  have b0 := V1.out.box.c0; have b1 := V1.out.box.c1; have r0 := V1.out.res.c0; have r1 := V1.out.res.c1; have g0 := V1.out.res.f0; have g1 := V1.out.res.f1
  cases z with
  | false =>
    have HF := Lib.hid (show fnd Nm.name N name = none by have := HZ.out; simpa using this)
    have e1 : M = N := by have := HM.out; rw [remN, HF.out] at this; exact this.symm
    have e2 : Y = Z := by have := HY.out; rw [remZ, HF.out] at this; exact this.symm
    subst e1 e2
    go_wp2
    have X := V1.out.done
    exact res_ibox rfl (w.heap.size + 1) _ _ _ _ _ _ rfl X.1 rfl X.2
  | true =>
    obtain ⟨x, hx⟩ : ∃ x, fnd Nm.name N name = some x := Option.isSome_iff_exists.1 HZ.out
    obtain ⟨y, hy⟩ := HH.out x hx
    obtain ⟨hil, hix⟩ := fnd_at HR.out hx
    rw [HI.out] at hil hix
    have e1 : del Nm.name N name = M := by have := HM.out; rwa [remN, hx] at this
    have e2 : del Nz.ino Z x.ino = Y := by have := HY.out; rwa [remZ, hx] at this
    have HNM := Lib.hid (show N.length = M.length + 1 by rw [← e1]; exact len_del1 HR.out hx)
    have HZY := Lib.hid (show Z.length = Y.length + 1 by rw [← e2]; exact len_del1 HU.out hy)
    have HE1 := Lib.hid (show N.take i ++ N.drop (i + 1) = M by rw [← e1, ← erase_del HR.out hx, HI.out])
    have HS := Lib.hid (show ∀ x ∈ M, x.name.size ≤ maxLen from fun x hx => V1.out.nx.img.str x (by rw [← e1] at hx; exact (mem_del.1 hx).1))
    have HSZ := Lib.hid (show ∀ z ∈ Y, z ∈ Z from fun z hz => by rw [← e2] at hz; exact (mem_del.1 hz).1)
    obtain ⟨j, hj⟩ : ∃ j, pl ordI Nz.ino Z x.ino = j := ⟨_, rfl⟩
    have HJ := Lib.hid hj
    have HE2 := Lib.hid (show Z.take j ++ Z.drop (j + 1) = Y by rw [← e2, ← erase_del HU.out hy, hj])
    have hjl : j < Z.length := by have := (fnd_at HU.out hy).1; rwa [hj] at this
    have HY2 := Lib.hid (show (fnd Nz.ino Z x.ino).isSome = true by rw [hy]; rfl)
    obtain ⟨g, hg⟩ : ∃ g, A = some ⟨g, 0, none⟩ := by
      rcases V1.out.nx.img.names.addr with h0 | ⟨g, he, _⟩
      · have := V1.out.nx.img.im.names.nil h0; omega
      · exact ⟨g, he⟩
    subst hg
    have hcn : ∀ w', Nms w' (some ⟨g, 0, none⟩) N.length c N → w'.cell? ⟨g, i * 2 + 1, none⟩ = some (.int .i64 x.ino) := fun w' h => by have := (Nms.at0 h i hil).2; rwa [hix] at this
    have hcx := hcn _ V1.out.nx.img.im.names
    have hil' : (i : Int) < (N.length : Int) := by omega
    obtain ⟨k, hkx⟩ : ∃ k, x.ino = k := ⟨_, rfl⟩
    rw [hkx] at hcx HJ HY2 hcn
    have HCN := Lib.hid hcn
    clear hx hy hix e1 e2 hj hkx HM HY HZ hcn
    have S1 := And.intro b0 (And.intro b1 hcx)
    go_wp2
    go_region_held3 (fun w' => w'.cell? ⟨w.heap.size, 0, none⟩ = some (.slice (some ⟨g, 0, none⟩) N.length c) ∧ w'.cell? ⟨w.heap.size, 1, none⟩ = some (.slice A' Z.length c') ∧ w'.cell? ⟨g, i * 2 + 1, none⟩ = some (.int .i64 k))
      (first | assumption | exact S1 | exact S2)
      (first | (go_at_call 32; refine (numbered_any A' Z.length c' Z k _ (V1.out.nx.img.im.nodes.drewN 1) HU.out (by omega) j true HJ.out HY2.out).mono ?_; rintro e w2 ⟨rfl, k2⟩; have V2 := Lib.hid (V1.out.on (Below.trans (below_drewN (Below.refl _ _) 1) k2)); have S2 := And.intro V2.out.box.c0 (And.intro V2.out.box.c1 (V1.out.nx.img.im.names.on (Below.trans (below_drewN (Below.refl _ _) 1) k2) |> fun h => HCN.out _ h)); clear k2))
    clear b0 b1 r0 r1 g0 g1 S1 S2
    have b0 := V2.out.box.c0; have b1 := V2.out.box.c1
    go_wp2_with fail
    refine (deln_any B (some ⟨g, 0, none⟩) N.length M.length c N i M w2 V2.out.nx.img.names hil (by omega) HNM.out HE1.out).mono ?_
    rintro e w3 ⟨F, f, rfl, q, o, s⟩
    obtain ⟨sb, sr⟩ := V2.out.seen o (fun g hg => .inl hg)
    obtain ⟨W3, hW3⟩ : ∃ W3, w3.setCell ⟨w.heap.size, 0, none⟩ (.slice F M.length f) = W3 := ⟨_, rfl⟩
    have V3 := Lib.hid (show Va B w W3 (some ⟨g, 0, none⟩) A' F f A' c' M Z by rw [← hW3]; exact V2.out.names q rfl o s HS.out)
    have HW3 := Lib.hid hW3
    clear b0 b1 hW3 q o s
    have b0 := sb.c0; have b1 := sb.c1; have f0 := sb.f0
    clear sb sr
    go_wp2_with fail
    rw [HW3.out]
    refine (delz_any B A' Z.length Y.length c' Z j Y W3 V3.out.nx.img.nodes hjl (by omega) HZY.out HE2.out).mono ?_
    rintro e w4 ⟨F', f', rfl, q, o, s⟩
    obtain ⟨sb, sr⟩ := V3.out.seen o (fun g hg => .inr hg)
    obtain ⟨W4, hW4⟩ : ∃ W4, w4.setCell ⟨w.heap.size, 1, none⟩ (.slice F' Y.length f') = W4 := ⟨_, rfl⟩
    have V4 := Lib.hid (show Va B w W4 (some ⟨g, 0, none⟩) A' F f F' f' M Y by rw [← hW4]; exact V3.out.nodes q rfl o s (fun z hz => .inl (HSZ.out z hz)))
    have HW4 := Lib.hid hW4
    clear b0 b1 f0 hW4 q o s
    have b0 := sb.c0; have b1 := sb.c1; have f1 := sb.f1; have r0 := sr.c0; have r1 := sr.c1; have g0 := sr.f0; have g1 := sr.f1
    clear sb sr
    go_wp2
    rw [HW4.out]
    have X := V4.out.done
    exact res_ibox rfl (w.heap.size + 1) _ _ _ _ _ _ rfl X.1 rfl X.2
end Go.Proofs.YtgaaieipeiekiaaGreat

namespace Go.Proofs.YtgaaieipeiekiaaGreat
open Go.RowKit
set_option maxRecDepth 100000

def nzE (k : Int) : Nz := ⟨k, 0, none, 0, 0, []⟩
def mayCr (N : List Nm) (Z : List Nz) (name : ByteArray) (k : Int) : Prop := okName name = true ∧ fnd Nm.name N name = none ∧ okIno k = true ∧ fnd Nz.ino Z k = none ∧ N.length ≠ 16

set_option maxHeartbeats 8000000 in
theorem created_any (B : Nat) (A : Option Addr) (c : Nat) (A' : Option Addr) (c' : Nat) (N : List Nm) (Z : List Nz) (name : ByteArray) (k : Int) (w : World) (h : Img B w A c A' c' N Z) (hr : Rise ordN Nm.name N) (hu : Rise ordI Nz.ino Z) (hn : N.length ≤ 1000) (hk : Z.length ≤ 1000) (hs : name.size ≤ maxLen) (hB : B ≤ w.heap.size) (M : List Nm) (Y : List Nz) (hY : mayCr N Z name k → ins ordN Nm.name N ⟨name, k⟩ = M ∧ ins ordI Nz.ino Z (nzE k) = Y) (hNo : ¬ mayCr N Z name k → N = M ∧ Z = Y) :
    Calls Tryz.prog 75 #[iv A N.length c A' Z.length c', .string name, .int .i64 k] w (ImgPost B A A' M Y w) := by
  obtain ⟨W, hW⟩ : ∃ W, (w.alloc (.cells #[.slice A N.length c, .slice A' Z.length c'] 25)).alloc (.cells #[.slice none 0 0, .slice none 0 0] 25) = W := ⟨_, rfl⟩
  have HW := Lib.hid hW
  have V0 := Lib.hid (show Va B w W A A' A c A' c' N Z by rw [← hW]; exact va_start h)
  obtain ⟨i, hi⟩ : ∃ i, pl ordN Nm.name N name = i := ⟨_, rfl⟩
  obtain ⟨y1, h1⟩ : ∃ z, (fnd Nm.name N name).isSome = z := ⟨_, rfl⟩
  obtain ⟨j, hj⟩ : ∃ i, pl ordI Nz.ino Z k = i := ⟨_, rfl⟩
  obtain ⟨y2, h2⟩ : ∃ z, (fnd Nz.ino Z k).isSome = z := ⟨_, rfl⟩
  obtain ⟨y3, h3⟩ : ∃ z, okName name = z := ⟨_, rfl⟩
  obtain ⟨y4, h4⟩ : ∃ z, okIno k = z := ⟨_, rfl⟩
  have HI := Lib.hid hi; have H1 := Lib.hid h1; have HJ := Lib.hid hj; have H2 := Lib.hid h2; have H3 := Lib.hid h3; have H4 := Lib.hid h4
  have HR := Lib.hid hr; have HU := Lib.hid hu; have HY := Lib.hid hY; have HNo := Lib.hid hNo; have HS := Lib.hid hs; have HB := Lib.hid hB
  clear h hW hi h1 hj h2 h3 h4 hr hu hY hNo hs hB
  show Calls Tryz.prog 75 #[.agg #[.slice A N.length c, .slice A' Z.length c'], .string name, .int .i64 k] w _
  go_enter Tryz.func75, Tryz.ntmps75
  go_wp2_with fail
  rw [HW.out]
  refine (named_any A N.length c N name W V0.out.nx.img.im.names HR.out (by omega) i y1 HI.out H1.out).mono ?_
  rintro e w1 ⟨rfl, k1⟩
  have V1 := Lib.hid (V0.out.on k1)
  clear k1 V0
  have b0 := V1.out.box.c0; have b1 := V1.out.box.c1
  go_wp2_with fail
  refine (numbered_any A' Z.length c' Z k w1 V1.out.nx.img.im.nodes HU.out (by omega) j y2 HJ.out H2.out).mono ?_
  rintro e w2 ⟨rfl, k2⟩
  have V2 := Lib.hid (V1.out.on k2)
  clear k2 V1 b0 b1
  have b0 := V2.out.box.c0; have b1 := V2.out.box.c1; have r0 := V2.out.res.c0; have r1 := V2.out.res.c1; have g0 := V2.out.res.f0; have g1 := V2.out.res.f1
  have HD := Lib.hid (show N = M → Z = Y → _ from fun e1 e2 => show IBox ((w2.setCell ⟨w.heap.size + 1, 0, none⟩ (.slice A N.length c)).setCell ⟨w.heap.size + 1, 1, none⟩ (.slice A' Z.length c')) (w.heap.size + 1) A N.length c A' Z.length c' ∧ ImgPost B A A' M Y w (.returned (iv A N.length c A' Z.length c')) ((w2.setCell ⟨w.heap.size + 1, 0, none⟩ (.slice A N.length c)).setCell ⟨w.heap.size + 1, 1, none⟩ (.slice A' Z.length c')) from e1 ▸ e2 ▸ V2.out.done)
  cases y1 with
  | true =>
    obtain ⟨e1, e2⟩ := HNo.out (fun hc => by have := H1.out; rw [hc.2.1] at this; cases this)
    have X := Lib.hid (HD.out e1 e2)
    clear e1 e2
    go_wp2
    exact res_ibox rfl (w.heap.size + 1) _ _ _ _ _ _ rfl X.out.1 rfl X.out.2
  | false =>
    cases y2 with
    | true =>
      obtain ⟨e1, e2⟩ := HNo.out (fun hc => by have := H2.out; rw [hc.2.2.2.1] at this; cases this)
      have X := Lib.hid (HD.out e1 e2)
      clear e1 e2
      go_wp2
      exact res_ibox rfl (w.heap.size + 1) _ _ _ _ _ _ rfl X.out.1 rfl X.out.2
    | false =>
      cases y3 with
      | false =>
        obtain ⟨e1, e2⟩ := HNo.out (fun hc => by have := H3.out; rw [hc.1] at this; cases this)
        have X := Lib.hid (HD.out e1 e2)
        clear e1 e2
        go_wp2_with (go_at_call 13; refine (name_any name _ HS.out false H3.out).mono ?_; rintro e' w' ⟨rfl, rfl⟩)
        exact res_ibox rfl (w.heap.size + 1) _ _ _ _ _ _ rfl X.out.1 rfl X.out.2
      | true =>
        cases y4 with
        | false =>
          obtain ⟨e1, e2⟩ := HNo.out (fun hc => by have := H4.out; rw [hc.2.2.1] at this; cases this)
          have X := Lib.hid (HD.out e1 e2)
          clear e1 e2
          go_wp2_with (first | (go_at_call 13; refine (name_any name _ HS.out true H3.out).mono ?_; rintro e' w' ⟨rfl, rfl⟩) | (go_at_call 63; refine (ino_any k _ false H4.out).mono ?_; rintro e' w' ⟨rfl, rfl⟩))
          exact res_ibox rfl (w.heap.size + 1) _ _ _ _ _ _ rfl X.out.1 rfl X.out.2
        | true =>
          by_cases h16 : N.length = 16
          · obtain ⟨e1, e2⟩ := HNo.out (fun hc => hc.2.2.2.2 h16)
            have X := Lib.hid (HD.out e1 e2)
            have hl1 : ((N.length : Int) == 16) = true := by simp; omega
            have H16 := Lib.hid h16
            clear e1 e2 h16
            go_wp2_with (first | (go_at_call 13; refine (name_any name _ HS.out true H3.out).mono ?_; rintro e' w' ⟨rfl, rfl⟩) | (go_at_call 63; refine (ino_any k _ true H4.out).mono ?_; rintro e' w' ⟨rfl, rfl⟩))
            exact res_ibox rfl (w.heap.size + 1) _ _ _ _ _ _ rfl X.out.1 rfl X.out.2
          · have HC := Lib.hid (show mayCr N Z name k from ⟨H3.out, by have := H1.out; simpa using this, H4.out, by have := H2.out; simpa using this, h16⟩)
            obtain ⟨e1, e2⟩ := HY.out HC.out
            have hl1 : ((N.length : Int) == 16) = false := by simp; omega
            have HE1 := Lib.hid (show N.take i ++ (⟨name, k⟩ : Nm) :: N.drop i = M by rw [← e1, ← ins_pl, ← HI.out])
            have HE2 := Lib.hid (show Z.take j ++ nzE k :: Z.drop j = Y by rw [← e2, ← ins_pl]; show _ = Z.take (pl ordI Nz.ino Z k) ++ nzE k :: Z.drop (pl ordI Nz.ino Z k); rw [HJ.out])
            have hil : i ≤ N.length := by rw [← HI.out]; exact pl_le _ _ _
            have hjl : j ≤ Z.length := by rw [← HJ.out]; exact pl_le _ _ _
            have HL1 := Lib.hid (show M.length = N.length + 1 by rw [← HE1.out]; simp; omega)
            have HL2 := Lib.hid (show Y.length = Z.length + 1 by rw [← HE2.out]; simp; omega)
            have HSt := Lib.hid (show ∀ x ∈ M, x.name.size ≤ maxLen from fun x hx => by
              rw [← e1] at hx
              rcases mem_ins.1 hx with rfl | hx
              · exact HS.out
              · exact V2.out.nx.img.str x hx)
            have HSZ := Lib.hid (show ∀ z ∈ Y, z ∈ Z ∨ z = nzE k from fun z hz => by rw [← e2] at hz; exact (mem_ins.1 hz).symm)
            clear e1 e2 h16 HD
            go_wp2_with (first | (go_at_call 13; refine (name_any name _ HS.out true H3.out).mono ?_; rintro e' w' ⟨rfl, rfl⟩) | (go_at_call 63; refine (ino_any k _ true H4.out).mono ?_; rintro e' w' ⟨rfl, rfl⟩) | (refine st_oneE tyN rfl (.tmp 51) rfl (⟨name, k⟩ : Nm) rfl ?_; intro vb w3 hvb q3 k3; have V3 := Lib.hid (V2.out.on k3); have HVB := Lib.hid hvb; have Q3 := Lib.hid q3; clear hvb q3 k3 b0 b1 r0 r1 g0 g1; have b0 := V3.out.box.c0; have b1 := V3.out.box.c1))
            have hvA : A ≠ some ⟨vb, 0, none⟩ := fun he => by have := (V2.out.nx.img.lt (d := vb) (.inl he)).2; rw [HVB.out] at this; exact Nat.lt_irrefl _ this
            have hsz : w.heap.size ≤ w2.heap.size := by have := V2.out.size; omega
            refine (insn_any B A N.length c N i vb ⟨name, k⟩ M w3 V3.out.nx.img.names hil (by omega) Q3.out hvA (by have := HB.out; have := V3.out.size; omega) HE1.out).mono ?_
            rintro e w4 ⟨F, f, rfl, q, o, s⟩
            obtain ⟨sb, sr⟩ := V3.out.seen o (fun g hg => .inl hg)
            obtain ⟨W4, hW4⟩ : ∃ W4, w4.setCell ⟨w.heap.size, 0, none⟩ (.slice F (N.length + 1) f) = W4 := ⟨_, rfl⟩
            have V4 := Lib.hid (show Va B w W4 A A' F f A' c' M Z by rw [← hW4]; exact V3.out.names q HL1.out o s HSt.out)
            have HW4 := Lib.hid hW4
            clear b0 b1 hW4 q o s hvA
            have b0 := sb.c0; have b1 := sb.c1; have f0 := sb.f0
            clear sb sr
            go_upto_region 6 with fail
            rw [HW4.out]
            clear b0 b1 f0
            have b0 := V4.out.box.c0; have b1 := V4.out.box.c1
            rw [HL1.out] at b0
            go_wp2_with (with_reducible refine st_oneE tyZ rfl (.tmp 59) rfl (nzE k) rfl ?_; intro vb2 w5 hvb q5 k5; have V5 := Lib.hid (V4.out.on k5); have HVB2 := Lib.hid hvb; have Q5 := Lib.hid q5; clear hvb q5 k5 b0 b1; have b0 := V5.out.box.c0; have b1 := V5.out.box.c1)
            have hvA : A' ≠ some ⟨vb2, 0, none⟩ := fun he => by have := (V4.out.nx.img.lt (d := vb2) (.inr he)).2; rw [HVB2.out] at this; exact Nat.lt_irrefl _ this
            refine (insz_any B A' Z.length c' Z j vb2 (nzE k) Y w5 V5.out.nx.img.nodes hjl (by omega) Q5.out hvA (by have := HB.out; have := V5.out.size; omega) HE2.out).mono ?_
            rintro e w6 ⟨F', f', rfl, q, o, s⟩
            obtain ⟨sb, sr⟩ := V5.out.seen o (fun g hg => .inr hg)
            obtain ⟨W6, hW6⟩ : ∃ W6, w6.setCell ⟨w.heap.size, 1, none⟩ (.slice F' (Z.length + 1) f') = W6 := ⟨_, rfl⟩
            have V6 := Lib.hid (show Va B w W6 A A' F f F' f' M Y by rw [← hW6]; exact V5.out.nodes q HL2.out o s (fun z hz => (HSZ.out z hz).imp id (fun e => by rw [e]; exact ⟨rfl, exts_nil _⟩)))
            have HW6 := Lib.hid hW6
            clear b0 b1 hW6 q o s hvA
            have b0 := sb.c0; have b1 := sb.c1; have f1 := sb.f1; have r0 := sr.c0; have r1 := sr.c1; have g0 := sr.f0; have g1 := sr.f1
            rw [HL1.out] at b0
            clear sb sr
            go_wp2
            rw [HW6.out]
            have X := V6.out.done
            rw [HL1.out, HL2.out] at X
            exact res_ibox rfl (w.heap.size + 1) _ _ _ _ _ _ rfl X.1 rfl X.2
end Go.Proofs.YtgaaieipeiekiaaGreat

namespace Go.Proofs.YtgaaieipeiekiaaGreat
open Go.RowKit
set_option maxRecDepth 100000

def mayRn (N : List Nm) (name to : ByteArray) : Prop := (fnd Nm.name N name).isSome = true ∧ okName to = true ∧ to ≠ name
theorem remN_nil {N : List Nm} {to : ByteArray} (h : fnd Nm.name N to = none) : remN N to = N := by rw [remN, h]
theorem rise_rem {N : List Nm} (hr : Rise ordN Nm.name N) (to : ByteArray) : Rise ordN Nm.name (remN N to) := by
  unfold remN; split
  · exact hr
  · exact rise_del hr _
theorem len_rem (N : List Nm) (to : ByteArray) : (remN N to).length ≤ N.length := by
  unfold remN; split
  · exact Nat.le_refl _
  · exact len_del _ _ _
theorem mem_remZ {N : List Nm} {Z : List Nz} {to : ByteArray} {z : Nz} (h : z ∈ remZ N Z to) : z ∈ Z := by
  unfold remZ at h; split at h
  · exact h
  · exact (mem_del.1 h).1
theorem mem_remN {N : List Nm} {to : ByteArray} {z : Nm} (h : z ∈ remN N to) : z ∈ N := by
  unfold remN at h; split at h
  · exact h
  · exact (mem_del.1 h).1
theorem fnd_rem (N : List Nm) (to : ByteArray) : fnd Nm.name (remN N to) to = none := by
  unfold remN; split
  · assumption
  · rw [fnd_del, if_pos rfl]

set_option maxHeartbeats 8000000 in
theorem renamed_any (B : Nat) (A : Option Addr) (c : Nat) (A' : Option Addr) (c' : Nat) (N : List Nm) (Z : List Nz) (name to : ByteArray) (w : World) (h : Img B w A c A' c' N Z) (hr : Rise ordN Nm.name N) (hu : Rise ordI Nz.ino Z) (hh : ∀ t x, fnd Nm.name N t = some x → ∃ y, fnd Nz.ino Z x.ino = some y) (hn : N.length ≤ 1000) (hk : Z.length ≤ 1000) (hs : to.size ≤ maxLen) (hB : B ≤ w.heap.size) (M : List Nm) (Y : List Nz) (hY : mayRn N name to → ∀ x, fnd Nm.name N name = some x → ins ordN Nm.name (remN (del Nm.name N name) to) ⟨to, x.ino⟩ = M ∧ remZ (del Nm.name N name) Z to = Y) (hNo : ¬ mayRn N name to → N = M ∧ Z = Y) :
    Calls Tryz.prog 77 #[iv A N.length c A' Z.length c', .string name, .string to] w (ImgPost B A A' M Y w) := by
  obtain ⟨W, hW⟩ : ∃ W, (w.alloc (.cells #[.slice A N.length c, .slice A' Z.length c'] 25)).alloc (.cells #[.slice none 0 0, .slice none 0 0] 25) = W := ⟨_, rfl⟩
  have HW := Lib.hid hW
  have V0 := Lib.hid (show Va B w W A A' A c A' c' N Z by rw [← hW]; exact va_start h)
  obtain ⟨i, hi⟩ : ∃ i, pl ordN Nm.name N name = i := ⟨_, rfl⟩
  obtain ⟨y1, h1⟩ : ∃ z, (fnd Nm.name N name).isSome = z := ⟨_, rfl⟩
  obtain ⟨y3, h3⟩ : ∃ z, okName to = z := ⟨_, rfl⟩
  have HI := Lib.hid hi; have H1 := Lib.hid h1; have H3 := Lib.hid h3
  have HR := Lib.hid hr; have HU := Lib.hid hu; have HY := Lib.hid hY; have HNo := Lib.hid hNo; have HS := Lib.hid hs; have HB := Lib.hid hB; have HH := Lib.hid hh
  clear h hW hi h1 h3 hr hu hY hNo hs hB hh
  show Calls Tryz.prog 77 #[.agg #[.slice A N.length c, .slice A' Z.length c'], .string name, .string to] w _
  go_enter Tryz.func77, Tryz.ntmps77
  go_wp2_with fail
  rw [HW.out]
  refine (named_any A N.length c N name W V0.out.nx.img.im.names HR.out (by omega) i y1 HI.out H1.out).mono ?_
  rintro e w2 ⟨rfl, k1⟩
  have V2 := Lib.hid (V0.out.on k1)
  clear k1 V0
  have b0 := V2.out.box.c0; have b1 := V2.out.box.c1; have r0 := V2.out.res.c0; have r1 := V2.out.res.c1; have g0 := V2.out.res.f0; have g1 := V2.out.res.f1
  have HD := Lib.hid (show N = M → Z = Y → _ from fun e1 e2 => show IBox ((w2.setCell ⟨w.heap.size + 1, 0, none⟩ (.slice A N.length c)).setCell ⟨w.heap.size + 1, 1, none⟩ (.slice A' Z.length c')) (w.heap.size + 1) A N.length c A' Z.length c' ∧ ImgPost B A A' M Y w (.returned (iv A N.length c A' Z.length c')) ((w2.setCell ⟨w.heap.size + 1, 0, none⟩ (.slice A N.length c)).setCell ⟨w.heap.size + 1, 1, none⟩ (.slice A' Z.length c')) from e1 ▸ e2 ▸ V2.out.done)
  cases y1 with
  | false =>
    obtain ⟨e1, e2⟩ := HNo.out (fun hc => by have := H1.out; rw [hc.1] at this; cases this)
    have X := Lib.hid (HD.out e1 e2)
    clear e1 e2
    go_wp2
    exact res_ibox rfl (w.heap.size + 1) _ _ _ _ _ _ rfl X.out.1 rfl X.out.2
  | true =>
    cases y3 with
    | false =>
      obtain ⟨e1, e2⟩ := HNo.out (fun hc => by have := H3.out; rw [hc.2.1] at this; cases this)
      have X := Lib.hid (HD.out e1 e2)
      clear e1 e2
      go_wp2_with (go_at_call 13; refine (name_any to _ HS.out false H3.out).mono ?_; rintro e' w' ⟨rfl, rfl⟩)
      exact res_ibox rfl (w.heap.size + 1) _ _ _ _ _ _ rfl X.out.1 rfl X.out.2
    | true =>
      by_cases h16 : to = name
      · obtain ⟨e1, e2⟩ := HNo.out (fun hc => hc.2.2 h16)
        have X := Lib.hid (HD.out e1 e2)
        have hl1 : (to.toList == name.toList) = true := by rw [h16]; simp
        clear e1 e2 h16
        go_wp2_with (first | (go_at_call 13; refine (name_any to _ HS.out true H3.out).mono ?_; rintro e' w' ⟨rfl, rfl⟩))
        exact res_ibox rfl (w.heap.size + 1) _ _ _ _ _ _ rfl X.out.1 rfl X.out.2
      · have hl1 : (to.toList == name.toList) = false := by
          cases hb : (to.toList == name.toList) with
          | false => rfl
          | true => exact absurd (toList_inj (by simpa using hb)) h16
        have HC := Lib.hid (show mayRn N name to from ⟨H1.out, H3.out, h16⟩)
        obtain ⟨x, hx⟩ : ∃ x, fnd Nm.name N name = some x := Option.isSome_iff_exists.1 H1.out
        obtain ⟨hil, hix⟩ := fnd_at HR.out hx
        rw [HI.out] at hil hix
        obtain ⟨N1, hN1⟩ : ∃ N1, del Nm.name N name = N1 := ⟨_, rfl⟩
        obtain ⟨N2, hN2⟩ : ∃ N2, remN N1 to = N2 := ⟨_, rfl⟩
        obtain ⟨e1, e2⟩ := HY.out HC.out x hx
        rw [hN1] at e1 e2
        rw [hN2] at e1
        have HNM := Lib.hid (show N.length = N1.length + 1 by rw [← hN1]; exact len_del1 HR.out hx)
        have HE1 := Lib.hid (show N.take i ++ N.drop (i + 1) = N1 by rw [← hN1, ← erase_del HR.out hx, HI.out])
        have HS1 := Lib.hid (show ∀ x ∈ N1, x.name.size ≤ maxLen from fun x hx => V2.out.nx.img.str x (by rw [← hN1] at hx; exact (mem_del.1 hx).1))
        have HR1 := Lib.hid (show Rise ordN Nm.name N1 by rw [← hN1]; exact rise_del HR.out _)
        have HR2 := Lib.hid (show Rise ordN Nm.name N2 by rw [← hN2]; exact rise_rem HR1.out _)
        have HH1 := Lib.hid (show ∀ y, fnd Nm.name N1 to = some y → ∃ z, fnd Nz.ino Z y.ino = some z from fun y hy => by
          rw [← hN1, fnd_del, if_neg h16] at hy; exact HH.out to y hy)
        have HN2 := Lib.hid hN2
        have HY2 := Lib.hid e2
        have HL2 := Lib.hid (show N2.length ≤ 1000 by have := len_rem N1 to; rw [hN2] at this; have := HNM.out; omega)
        have HF2 := Lib.hid (show fnd Nm.name N2 to = none by rw [← hN2]; exact fnd_rem _ _)
        have HS2 := Lib.hid (show ∀ x ∈ M, x.name.size ≤ maxLen from fun x hx => by
          rw [← e1] at hx
          rcases mem_ins.1 hx with rfl | hx
          · exact HS.out
          · rw [← hN2] at hx; exact HS1.out x (mem_remN hx))
        have HZS := Lib.hid (show ∀ z ∈ Y, z ∈ Z from fun z hz => by rw [← e2] at hz; exact mem_remZ hz)
        obtain ⟨k, hkx⟩ : ∃ k, x.ino = k := ⟨_, rfl⟩
        rw [hkx] at e1
        obtain ⟨j, hj⟩ : ∃ j, pl ordN Nm.name N2 to = j := ⟨_, rfl⟩
        have HJ := Lib.hid hj
        have HE2 := Lib.hid (show N2.take j ++ (⟨to, k⟩ : Nm) :: N2.drop j = M by rw [← e1, ← ins_pl]; show _ = N2.take (pl ordN Nm.name N2 to) ++ _ :: N2.drop (pl ordN Nm.name N2 to); rw [hj])
        have hjl : j ≤ N2.length := by rw [← hj]; exact pl_le _ _ _
        have HLM := Lib.hid (show M.length = N2.length + 1 by rw [← HE2.out]; simp; omega)
        obtain ⟨g, hg⟩ : ∃ g, A = some ⟨g, 0, none⟩ := by
          rcases V2.out.nx.img.names.addr with h0 | ⟨g, he, _⟩
          · have := V2.out.nx.img.im.names.nil h0; omega
          · exact ⟨g, he⟩
        subst hg
        have hcx := (Nms.at0 V2.out.nx.img.im.names i hil).2
        rw [hix, hkx] at hcx
        have hil' : (i : Int) < (N.length : Int) := by omega
        clear HD hN1 hN2 e1 e2 hx hix hkx hj h16 HY HNo HH H1
        go_wp2_with (first | (go_at_call 13; refine (name_any to _ HS.out true H3.out).mono ?_; rintro e' w' ⟨rfl, rfl⟩))
        refine (deln_any B (some ⟨g, 0, none⟩) N.length N1.length c N i N1 w2 V2.out.nx.img.names hil (by omega) HNM.out HE1.out).mono ?_
        rintro e w3 ⟨F, f, rfl, q, o, s⟩
        obtain ⟨sb, sr⟩ := V2.out.seen o (fun g hg => .inl hg)
        obtain ⟨W3, hW3⟩ : ∃ W3, w3.setCell ⟨w.heap.size, 0, none⟩ (.slice F N1.length f) = W3 := ⟨_, rfl⟩
        have V3 := Lib.hid (show Va B w W3 (some ⟨g, 0, none⟩) A' F f A' c' N1 Z by rw [← hW3]; exact V2.out.names q rfl o s HS1.out)
        have HW3 := Lib.hid hW3
        clear b0 b1 r0 r1 g0 g1 hcx hW3 q o s
        have b0 := sb.c0; have b1 := sb.c1; have f0 := sb.f0
        clear sb sr
        go_upto_region 6 with fail
        rw [HW3.out]
        clear b0 b1 f0
        have b0 := V3.out.box.c0; have b1 := V3.out.box.c1
        go_wp2_with fail
        have hsz3 : B ≤ W3.heap.size := by have := HB.out; have := V3.out.size; omega
        refine (removed_any B F f A' c' N1 Z to W3 V3.out.nx.img HR1.out HU.out HH1.out (by have := HNM.out; omega) (by omega) N2 Y HN2.out HY2.out).mono ?_
        rintro e w4 ⟨D, d, D', d', he, n4⟩
        obtain rfl : e = .returned (.agg #[.slice D N2.length d, .slice D' Y.length d']) := he
        obtain ⟨W4, hW4⟩ : ∃ W4, (w4.setCell ⟨w.heap.size, 0, none⟩ (.slice D N2.length d)).setCell ⟨w.heap.size, 1, none⟩ (.slice D' Y.length d') = W4 := ⟨_, rfl⟩
        have V4 := Lib.hid (show Va B w W4 (some ⟨g, 0, none⟩) A' D d D' d' N2 Y by rw [← hW4]; exact V3.out.image n4 (fun z hz hn g p he => V3.out.off z (HZS.out z hz) hn g p he))
        have HW4 := Lib.hid hW4
        have sb : IBox w4 w.heap.size F N1.length f A' Z.length c' := Row.only V3.out.box n4.only (fun hd => by have := V3.out.new _ hd; omega)
        clear b0 b1 hW4 n4
        have b0 := sb.c0; have b1 := sb.c1; have f0 := sb.f0; have f1 := sb.f1
        clear sb
        go_upto_region 7 with fail
        rw [HW4.out]
        clear b0 b1 f0 f1
        have b0 := V4.out.box.c0; have b1 := V4.out.box.c1
        go_wp2_with fail
        refine (named_any D N2.length d N2 to W4 V4.out.nx.img.im.names HR2.out (by have := HL2.out; omega) j false HJ.out (by rw [HF2.out]; rfl)).mono ?_
        rintro e w5 ⟨rfl, k5⟩
        have V5 := Lib.hid (V4.out.on k5)
        clear k5 b0 b1
        have b0 := V5.out.box.c0; have b1 := V5.out.box.c1
        go_wp2_with (with_reducible refine st_oneE tyN rfl (.tmp 58) rfl (⟨to, k⟩ : Nm) rfl ?_; intro vb w6 hvb q6 k6; have V6 := Lib.hid (V5.out.on k6); have HVB := Lib.hid hvb; have Q6 := Lib.hid q6; clear hvb q6 k6 b0 b1; have b0 := V6.out.box.c0; have b1 := V6.out.box.c1)
        have hvA : D ≠ some ⟨vb, 0, none⟩ := fun he => by have := (V5.out.nx.img.lt (d := vb) (.inl he)).2; rw [HVB.out] at this; exact Nat.lt_irrefl _ this
        refine (insn_any B D N2.length d N2 j vb ⟨to, k⟩ M w6 V6.out.nx.img.names hjl (by have := HL2.out; omega) Q6.out hvA (by have := HB.out; have := V6.out.size; omega) HE2.out).mono ?_
        rintro e w7 ⟨G, γ, rfl, q, o, s⟩
        obtain ⟨sb, sr⟩ := V6.out.seen o (fun g hg => .inl hg)
        obtain ⟨W7, hW7⟩ : ∃ W7, w7.setCell ⟨w.heap.size, 0, none⟩ (.slice G (N2.length + 1) γ) = W7 := ⟨_, rfl⟩
        have V7 := Lib.hid (show Va B w W7 (some ⟨g, 0, none⟩) A' G γ D' d' M Y by rw [← hW7]; exact V6.out.names q HLM.out o s HS2.out)
        have HW7 := Lib.hid hW7
        clear b0 b1 hW7 q o s hvA
        have b0 := sb.c0; have b1 := sb.c1; have f0 := sb.f0
        clear sb sr
        go_upto_region 9 with fail
        rw [HW7.out]
        clear b0 b1 f0
        have b0 := V7.out.box.c0; have b1 := V7.out.box.c1; have r0 := V7.out.res.c0; have r1 := V7.out.res.c1; have g0 := V7.out.res.f0; have g1 := V7.out.res.f1
        go_wp2
        have X := V7.out.done
        exact res_ibox rfl (w.heap.size + 1) _ _ _ _ _ _ rfl X.1 rfl X.2
end Go.Proofs.YtgaaieipeiekiaaGreat
