/- Contracts of cmp.Compare, slices.BinarySearchFunc, extent's find. -/
import Derived.Test.YtigfimlpjmmpoaaWalksA
import Derived.WalkKit
import Derived.WalkSpells
import Derived.WalkLawsBesides
import Derived.Lib.Hide
import Derived.BigQuiet
namespace Go.Proofs.Ytigfimlpjmmpoaa
open Go.RowKit

set_option maxHeartbeats 400000 in
theorem nan_any (z : Int) (w : World) : Calls Try.prog 55 #[.int .i64 z] w fun e w' => e = .returned (.bool false) ∧ w = w' := by
  go_enter Try.func55, Try.ntmps55
  go_wp2
  go_ret
  exact ⟨ret_bool (by simp), by simp⟩

def cmpv (a b : Int) : Int := if a < b then -1 else if b < a then 1 else 0
set_option maxHeartbeats 400000 in
theorem compare_any (a b : Int) (w : World) : Calls Try.prog 48 #[.int .i64 a, .int .i64 b] w fun e w' => e = .returned (.int .i64 (cmpv a b)) ∧ w = w' := by
  have H1 := Lib.hid (show a < b → cmpv a b = -1 from fun h => by simp [cmpv, h])
  have H2 := Lib.hid (show b < a → cmpv a b = 1 from fun h => by simp [cmpv, h]; omega)
  have H3 := Lib.hid (show a = b → cmpv a b = 0 from fun h => by simp [cmpv, h])
  go_enter Try.func48, Try.ntmps48
  rcases Int.lt_trichotomy a b with h | h | h
  · go_wp2_with (go_at_call 55; refine (nan_any _ _).mono ?_; rintro e w' ⟨rfl, rfl⟩)
    go_ret
    exact ⟨ret_int (H1.out h).symm, by simp⟩
  · have h1 : ¬ a < b := by omega
    have h2 : ¬ b < a := by omega
    go_wp2_with (go_at_call 55; refine (nan_any _ _).mono ?_; rintro e w' ⟨rfl, rfl⟩)
    go_ret
    exact ⟨ret_int (H3.out h).symm, by simp⟩
  · have h1 : ¬ a < b := by omega
    go_wp2_with (go_at_call 55; refine (nan_any _ _).mono ?_; rintro e w' ⟨rfl, rfl⟩)
    go_ret
    exact ⟨ret_int (H2.out h).symm, by simp⟩

set_option maxHeartbeats 400000 in
theorem cmpx_any (e : Ex) (k : Int) (w : World) (he : e.ok) (v : Int) (hv : cmpv e.no k = v) : Calls Try.prog 47 #[ev e, .int .i64 k] w fun e' w' => e' = .returned (.int .i64 v) ∧ Below w.heap.size w w' := by
  have HE := Lib.hid he; have HV := Lib.hid hv
  obtain ⟨no, hno⟩ : ∃ no, e.no = no := ⟨_, rfl⟩
  have HN := Lib.hid hno
  clear he hv hno
  go_enter Try.func47, Try.ntmps47
  go_wp2_with (first | (refine st_boxx rfl _ rfl e rfl HE.out ?_; intro b w1 hb x1 k1; have K1 := Lib.hid k1; have c0 := x1.no; rw [HN.out] at c0; clear x1 k1) | (go_at_call 48; refine (compare_any _ _ _).mono ?_; rintro e' w' ⟨rfl, rfl⟩))
  go_ret
  exact ⟨ret_int (by rw [← HV.out, HN.out]), K1.out⟩

theorem ret_pair {a b : Int} {y z : Bool} (h : a = b) (k : y = z) : Ending.returned (.tuple #[.int .i64 a, .bool y]) = .returned (.tuple #[.int .i64 b, .bool z]) := by rw [h, k]
def FindPost (i : Nat) (z : Bool) (w : World) (e : Ending) (w' : World) : Prop := e = .returned (.tuple #[.int .i64 (i : Int), .bool z]) ∧ Below w.heap.size w w'

set_option maxHeartbeats 2000000 in
theorem search_any (A : Option Addr) (n c : Nat) (L : List Ex) (k : Int) (w : World) (h : Exts w A n c L) (hu : Up L) (hn : n ≤ 1000000) (i : Nat) (z : Bool) (hi : idx L k = i) (hz : (look L k).isSome = z) :
    Calls Try.prog 46 #[.slice A n c, .int .i64 k, .func (.func 47) #[] #[]] w (FindPost i z w) := by
  have H := Lib.hid h
  have HI := Lib.hid hi
  have HZ := Lib.hid (show (decide (i < n) && decide ((L.getD i default).no = k)) = z by
    rw [← hz, look_idx hu, hi, h.len]
    by_cases hh : i < n ∧ (L.getD i default).no = k
    · rw [if_pos hh]; simp only [hh.1, hh.2, decide_true, Bool.and_self, Option.isSome_some]
    · rw [if_neg hh]
      show _ = false
      rw [← Bool.not_eq_true, Bool.and_eq_true, decide_eq_true_eq, decide_eq_true_eq]
      exact hh)
  have HU := Lib.hid hu
  clear h hi hz hu
  go_enter Try.func46, Try.ntmps46
  go_wp2
  go_loopw [9, 10] (fun a b wr => ∃ x y : Nat, x ≤ y ∧ y ≤ n ∧ a = .int .i64 x ∧ b = .int .i64 y ∧ Hid (∀ m, m < x → (L.getD m default).no < k) ∧ Hid (∀ m, y ≤ m → m < n → k ≤ (L.getD m default).no) ∧ Hid (Below w.heap.size w wr)) (fun a b _ => (intOf b).toNat - (intOf a).toNat)
  case atStart => exact ⟨0, n, Nat.zero_le _, Nat.le_refl _, rfl, rfl, fun m h => absurd h (by omega), fun m h h' => absurd h (by omega), Below.refl _ _⟩
  case round =>
    obtain ⟨x, y, hxy, hyn, rfl, rfl, HX, HY, K1⟩ := hrel
    by_cases hlt : x < y
    · obtain ⟨b, o, rfl, hb, hc⟩ := H.out.cells (by omega)
      obtain ⟨m, hm⟩ : ∃ m, (x + y) / 2 = m := ⟨_, rfl⟩
      have hmi : ((x : Int) + (y : Int)) / 2 = (m : Int) := by omega
      have m1 : x ≤ m := by omega
      have m2 : m < y := by omega
      have HO := Lib.hid (H.out.get m (by omega))
      have HR := Lib.hid (show wr.rangeAt b (o + m * 9) (ecl (L.getD m default)) from fun q v hv => (K1.out.cell (p := ⟨b, o + m * 9 + q, none⟩) hb).trans (hc m (by omega) q v hv))
      clear hc
      obtain ⟨v, hv⟩ : ∃ v, cmpv (L.getD m default).no k = v := ⟨_, rfl⟩
      have HV := Lib.hid hv
      clear hv
      have HXm := Lib.hid (show v < 0 → ∀ q, q < m + 1 → (L.getD q default).no < k from fun h q hq => by
        have h1 : (L.getD m default).no < k := by
          have := HV.out
          unfold cmpv at this
          split at this <;> (try split at this) <;> omega
        by_cases he : q = m
        · rw [he]; exact h1
        · have := up_lt HU.out q m (by omega) (by have := H.out.len; omega); omega)
      have HYm := Lib.hid (show ¬ v < 0 → ∀ q, m ≤ q → q < n → k ≤ (L.getD q default).no from fun h q hq hqn => by
        have h1 : k ≤ (L.getD m default).no := by
          have := HV.out
          unfold cmpv at this
          split at this <;> (try split at this) <;> omega
        by_cases he : q = m
        · rw [he]; exact h1
        · have := up_lt HU.out m q (by omega) (by have := H.out.len; omega); omega)
      generalize L.getD m default = e at HO HR HV
      by_cases hv : v < 0
      · go_wp2_with (first | (refine st_loadx rfl _ rfl b (o + m * 9) rfl e HR.out HO.out ?_) | (go_at_call 47; refine (cmpx_any e k _ HO.out v HV.out).mono ?_; rintro e' w2 ⟨rfl, k2⟩; have K2 := Lib.hid (K1.out.trans (k2.mono K1.out.size)); clear k2))
        go_roundw
        case rel => exact ⟨m + 1, y, by omega, by omega, by go_num, rfl, HXm.out hv, HY.out, K2.out⟩
        case measure => simp [intOf]; omega
      · go_wp2_with (first | (refine st_loadx rfl _ rfl b (o + m * 9) rfl e HR.out HO.out ?_) | (go_at_call 47; refine (cmpx_any e k _ HO.out v HV.out).mono ?_; rintro e' w2 ⟨rfl, k2⟩; have K2 := Lib.hid (K1.out.trans (k2.mono K1.out.size)); clear k2))
        go_roundw
        case rel => exact ⟨x, m, by omega, by omega, rfl, rfl, HX.out, HYm.out hv, K2.out⟩
        case measure => simp [intOf]; omega
    · obtain rfl : x = y := by omega
      have hxi : i = x := by
        rw [← HI.out]
        exact idx_unique (by rw [H.out.len]; exact hyn) HX.out (fun h => HY.out x (Nat.le_refl _) (by rw [H.out.len] at h; exact h))
      subst hxi
      by_cases hin : i < n
      · obtain ⟨b, o, rfl, hb, hc⟩ := H.out.cells (by omega)
        have HO := Lib.hid (H.out.get i hin)
        have HR := Lib.hid (show wr.rangeAt b (o + i * 9) (ecl (L.getD i default)) from fun q v hv => (K1.out.cell (p := ⟨b, o + i * 9 + q, none⟩) hb).trans (hc i hin q v hv))
        clear hc
        obtain ⟨v, hv⟩ : ∃ v, cmpv (L.getD i default).no k = v := ⟨_, rfl⟩
        have HV := Lib.hid hv
        have HW := Lib.hid (show decide (v = 0) = z by
          rw [← HZ.out, ← hv]
          simp only [hin, decide_true, Bool.true_and]
          generalize (L.getD i default).no = q
          unfold cmpv
          split <;> (try split) <;> simp <;> omega)
        clear hv
        generalize L.getD i default = e at HO HR HV
        by_cases hv : v = 0
        · go_wp2_with (first | (refine st_loadxg (by first | rfl | (simp [Region.wanted, yielded]; done) | (simp [Region.wanted, yielded]; omega)) _ rfl b (o + i * 9) rfl e HR.out HO.out ?_) | (go_at_call 47; refine (cmpx_any e k _ HO.out v HV.out).mono ?_; rintro e' w2 ⟨rfl, k2⟩; have K2 := Lib.hid (K1.out.trans (k2.mono K1.out.size)); clear k2))
          go_ret2
          exact ⟨ret_pair rfl (by rw [← HW.out]; simp [hv]), K2.out⟩
        · go_wp2_with (first | (refine st_loadxg (by first | rfl | (simp [Region.wanted, yielded]; done) | (simp [Region.wanted, yielded]; omega)) _ rfl b (o + i * 9) rfl e HR.out HO.out ?_) | (go_at_call 47; refine (cmpx_any e k _ HO.out v HV.out).mono ?_; rintro e' w2 ⟨rfl, k2⟩; have K2 := Lib.hid (K1.out.trans (k2.mono K1.out.size)); clear k2))
          go_ret2
          exact ⟨ret_pair rfl (by rw [← HW.out]; simp [hv]), K2.out⟩
      · have HW := Lib.hid (show false = z by rw [← HZ.out]; simp [hin])
        go_wp2
        go_ret2
        exact ⟨ret_pair rfl (by rw [← HW.out]), K1.out⟩

set_option maxHeartbeats 400000 in
theorem find_any (A : Option Addr) (n c : Nat) (L : List Ex) (k : Int) (w : World) (h : Exts w A n c L) (hu : Up L) (hn : n ≤ 1000000) (i : Nat) (z : Bool) (hi : idx L k = i) (hz : (look L k).isSome = z) :
    Calls Try.prog 35 #[.slice A n c, .int .i64 k] w (FindPost i z w) := by
  have H := Lib.hid h; have HU := Lib.hid hu; have HI := Lib.hid hi; have HZ := Lib.hid hz
  clear h hu hi hz
  go_enter Try.func35, Try.ntmps35
  go_wp2_with fail
  refine (search_any A n c L k w H.out HU.out hn i z HI.out HZ.out).mono ?_
  rintro e w1 ⟨rfl, k1⟩
  have K1 := Lib.hid k1
  clear k1
  go_wp2
  go_ret2
  exact ⟨rfl, K1.out⟩
end Go.Proofs.Ytigfimlpjmmpoaa
