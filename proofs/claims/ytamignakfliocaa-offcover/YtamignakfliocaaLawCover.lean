/- The walk of the law OffCover. -/
import Derived.Test.YtamignakfliocaaRead
import Derived.Test.YtamignakfliocaaLawParts
import Derived.WalkKit
import Derived.WalkSpells
import Derived.WalkLawsBesides
import Derived.Lib.Hide
import Derived.Deep.QuietTactic
import Derived.BigQuiet
namespace Go.Proofs.Ytamignakfliocaa
open Go.RowKit

namespace Plain
/-- Parts that follow one another from 'at' on: each at least one place, none longer than the unit or than L; each but the first begins at a multiple. -/
def covers (u L : Int) : Bool → Int → List (Int × Int) → Prop
  | _, _, [] => True
  | first, at', s :: r => s.1 = at' ∧ 1 ≤ s.2 ∧ s.2 ≤ u ∧ (first = false → at' % u = 0) ∧ s.2 ≤ L ∧ covers u L false (at' + s.2) r
def endOf : Int → List (Int × Int) → Int
  | at', [] => at'
  | at', s :: r => endOf (at' + s.2) r
theorem covers_parts (u L : Int) (hu : 1 ≤ u) : ∀ (f : Nat) (first : Bool) (p l : Int), 0 ≤ p → l ≤ L → (first = false → p % u = 0 ∨ l ≤ 0) → covers u L first p (partsFrom u f p l)
  | 0, _, _, _, _, _, _ => by simp [partsFrom, covers]
  | f + 1, first, p, l, hp, hl, hm => by
    rw [partsFrom]
    split
    · rename_i h
      obtain ⟨n0, n1, n2⟩ := partLen_bounds u p l hu hp h
      refine ⟨rfl, n0, n2, fun hf => ?_, by show partLen u p l ≤ L; omega, covers_parts u L hu f false _ _ (by omega) (by omega) (fun _ => ?_)⟩
      · rcases hm hf with h0 | h0
        · exact h0
        · omega
      · by_cases hc : l < u - p % u
        · right; rw [partLen, if_pos hc]; omega
        · left
          rw [partLen, if_neg hc, show p + (u - p % u) = (p - p % u) + u by omega, Int.add_emod_right, Int.sub_emod]
          simp
    · simp [covers]
theorem endOf_parts (u : Int) (hu : 1 ≤ u) : ∀ (f : Nat) (p l : Int), 0 ≤ p → 0 ≤ l → l.toNat ≤ f → endOf p (partsFrom u f p l) = p + l
  | 0, p, l, _, hl, hf => by
    have : l = 0 := by omega
    subst this
    simp [partsFrom, endOf]
  | f + 1, p, l, hp, hl, hf => by
    rw [partsFrom]
    split
    · rename_i h
      obtain ⟨n0, n1, n2⟩ := partLen_bounds u p l hu hp h
      rw [endOf]
      show endOf (p + partLen u p l) _ = _
      rw [endOf_parts u hu f _ _ (by omega) (by omega) (by omega)]
      omega
    · rw [endOf]; omega
theorem covers_end (u L : Int) : ∀ (xs : List (Int × Int)) (first : Bool) (x : Int), covers u L first x xs → x ≤ endOf x xs
  | [], _, x, _ => by rw [endOf]; omega
  | s :: r, _, x, h => by
    rw [endOf]
    have := covers_end u L r false (x + s.2) h.2.2.2.2.2
    have := h.2.1
    omega
theorem drop_span (l : List (Int × Int)) (k : Nat) (h : k < l.length) : l.drop k = l.getD k (0, 0) :: l.drop (k + 1) := by
  rw [List.drop_eq_getElem_cons h, List.getD_eq_getElem?_getD, List.getElem?_eq_getElem h]; rfl
end Plain

set_option maxRecDepth 100000 in
set_option maxHeartbeats 1000000 in
theorem cover_yes (p l u : Int) (w : World) (hs : Plain.spanB p l = true) (hl : l ≤ 4096) (hu : 1 ≤ u) (hu2 : u ≤ 9223372036854775807) :
    Calls Try.prog 9 #[.agg #[.int .i64 p, .int .i64 l], .int .i64 u] w fun e w' => e = .returned (.bool true) ∧ Below w.heap.size w w' := by
  have hlen := Plain.partsOf_le u p l
  have HS := Lib.hid hs
  have hv : Plain.partsOf u p l = Plain.partsFrom u l.toNat p l := by rw [Plain.partsOf, if_pos ⟨hs, hl, hu⟩]
  rw [Plain.span_iff] at hs
  obtain ⟨hp0, hp1, hl0, hl1⟩ := hs
  have hcov : Plain.covers u l true p (Plain.partsOf u p l) := by rw [hv]; exact Plain.covers_parts u l hu _ _ _ _ hp0 (Int.le_refl _) (fun h => by cases h)
  have hend : Plain.endOf p (Plain.partsOf u p l) = p + l := by rw [hv]; exact Plain.endOf_parts u hu _ _ _ hp0 hl0 (Nat.le_refl _)
  have HC := Lib.hid hcov
  have HE := Lib.hid hend
  clear hcov hend hv
  have t0 : One w p l (w.alloc (.cells #[.int .i64 p, .int .i64 l] 27)) := ⟨BoxAt.new w 27 p l, (Below.refl _ _).alloc (Nat.le_refl _) _⟩
  go_enter Try.func9, Try.ntmps9
  go_wp2_with fail
  refine (parts_any _ _ _ _ hu2).mono ?_
  rintro e w1 ⟨v, rfl, o1, k1⟩
  obtain ⟨A, c, rfl, s1, l1⟩ := own_spans o1
  have t1 := t0.go k1
  clear t0 k1 o1
  generalize Plain.partsOf u p l = xs at *
  obtain ⟨c0, c1, _, _⟩ := t1.1.one
  go_wp2_with fail
  refine (span_any _ _ _).mono ?_
  rintro e w2 ⟨rfl, k2⟩
  rw [HS.out]
  have s2 := s1.below (fun b o h => (l1 b o h).2) k2
  have t2 := t1.go k2
  clear s1 l1 t1 k2 c0 c1
  obtain ⟨c0, c1, _, _⟩ := t2.1.one
  have hx := s2.2
  have HX := Lib.hid hx
  have T2 := Lib.hid t2
  clear hx s2
  generalize hn : xs.length = n at *
  have HN := Lib.hid hn
  clear hn
  go_wp2
  go_loopw [6, 7] (fun a i wr => ∃ (k : Nat) (x : Int), k ≤ n ∧ i = .int .i64 k ∧ a = .int .i64 x ∧ 0 ≤ x ∧ Hid (Plain.covers u l (k == 0) x (xs.drop k)) ∧ Hid (Plain.endOf x (xs.drop k) = p + l) ∧ Hid (∃ m, wr = w2.drewN m)) (fun _ i _ => n - (intOf i).toNat)
  case atStart => exact ⟨0, p, Nat.zero_le _, rfl, rfl, hp0, HC.out, HE.out, 0, rfl⟩
  case round =>
    clear c0 c1
    obtain ⟨k, x, hk, rfl, rfl, hx0, HC2, HE2, HM⟩ := hrel
    have d0 : wr.cell? ⟨w.heap.size, 0, none⟩ = some (.int .i64 p) ∧ wr.cell? ⟨w.heap.size, 1, none⟩ = some (.int .i64 l) := by
      obtain ⟨m, hm⟩ := HM.out
      rw [hm]
      exact ⟨T2.out.1.one.1, T2.out.1.one.2.1⟩
    obtain ⟨d0, d1⟩ := d0
    by_cases hlt : k < n
    · obtain ⟨b, rfl, hc⟩ := HX.out (by omega)
      have e0 : wr.cell? ⟨b, k * 2, none⟩ = some (.int .i64 (xs.getD k (0, 0)).1) ∧ wr.cell? ⟨b, k * 2 + 1, none⟩ = some (.int .i64 (xs.getD k (0, 0)).2) := by
        obtain ⟨m, hm⟩ := HM.out
        rw [hm]
        exact hc k hlt
      clear hc
      have hd := Plain.drop_span xs k (by have := HN.out; omega)
      have hcv := HC2.out
      rw [hd] at hcv
      obtain ⟨q1, q2, q3, q4, q5, q6⟩ := hcv
      have hen := HE2.out
      rw [hd, Plain.endOf] at hen
      rw [q1] at e0
      clear hd HC2 HE2 q1
      obtain ⟨e0, e1⟩ := e0
      generalize (xs.getD k (0, 0)).2 = y at *
      have HE3 : Hid (Plain.endOf (x + y) (xs.drop (k + 1)) = p + l) := hen
      have Q6 : Hid (Plain.covers u l (k + 1 == 0) (x + y) (xs.drop (k + 1))) := q6
      have hub : x + y ≤ p + l := by have := Plain.covers_end u l _ _ _ Q6.out; rw [HE3.out] at this; exact this
      clear hen q6
      have hnn : (x != x) = false := by simp
      by_cases hk0 : k = 0
      · have hkb : decide (0 < k) = false := by simp [hk0]
        clear q4 hk0
        go_wp2
        go_quiet (fail)
        go_wp2
        go_roundw
        case rel => exact ⟨k + 1, x + y, by omega, by go_num, by go_num, by omega, Q6.out, HE3.out, by obtain ⟨m, hm⟩ := HM.out; exact ⟨m + nq, by rw [hm, World.drewN_drewN]⟩⟩
        case measure => simp [intOf]; omega
      · have hm0 : (x % u != 0) = false := by simp [q4 (by simp; omega)]
        have hkp : 0 < k := by omega
        have hxt : x ≤ 4611686018427387904 := by omega
        have hu0 : (u == 0) = false := by simp; omega
        clear q4 hk0
        go_wp2
        refine wp_region_quiet_lit (by kernel_rfl) (by kernel_rfl) ?_
        repeat (first | go_big_quiet_step (fail) | quiet_step (fail) | (refine wpQuiet_step (fun K hK => ?_); go_simp; refine hK _ ?_; clear hK K))
        refine wpQuiet_nil ?_
        intro _ hw'
        obtain ⟨nq, hw''⟩ := hw'
        subst hw''
        go_wp2
        go_roundw
        case rel => exact ⟨k + 1, x + y, by omega, by go_num, by go_num, by omega, Q6.out, HE3.out, by obtain ⟨m, hm⟩ := HM.out; exact ⟨m + nq, by rw [hm, World.drewN_drewN]⟩⟩
        case measure => simp [intOf]; omega
    · have hxe : x = p + l := by
        have := HE2.out
        rw [List.drop_of_length_le (by have := HN.out; omega)] at this
        exact this
      subst hxe
      go_wp2_with fail
      refine (runs_any _).mono ?_
      rintro e w4 ⟨rfl, k4⟩
      go_wp2
      go_ret
      refine ⟨by simp, ?_⟩
      obtain ⟨m, rfl⟩ := HM.out
      exact below2 (below_drewN T2.out.2 m) k4 (by have := T2.out.1.lt; simp; omega)

set_option maxRecDepth 100000 in
set_option maxHeartbeats 1000000 in
theorem cover_noA (p l u : Int) (w : World) (hs : Plain.spanB p l = false) (hu2 : u ≤ 9223372036854775807) :
    Calls Try.prog 9 #[.agg #[.int .i64 p, .int .i64 l], .int .i64 u] w fun e w' => e = .returned (.bool true) ∧ Below w.heap.size w w' := by
  have hv : Plain.partsOf u p l = [] := by rw [Plain.partsOf, if_neg (by simp [hs])]
  have HV := Lib.hid hv
  have HS := Lib.hid hs
  clear hv hs
  have t0 : One w p l (w.alloc (.cells #[.int .i64 p, .int .i64 l] 27)) := ⟨BoxAt.new w 27 p l, (Below.refl _ _).alloc (Nat.le_refl _) _⟩
  go_enter Try.func9, Try.ntmps9
  go_wp2_with fail
  refine (parts_any _ _ _ _ hu2).mono ?_
  rintro e w1 ⟨v, rfl, o1, k1⟩
  rw [HV.out] at o1
  obtain ⟨A, c, rfl, s1, l1⟩ := own_spans o1
  have t1 := t0.go k1
  clear t0 k1 o1 s1 l1
  obtain ⟨c0, c1, _, _⟩ := t1.1.one
  go_wp2_with fail
  refine (span_any _ _ _).mono ?_
  rintro e w2 ⟨rfl, k2⟩
  rw [HS.out]
  have t2 := t1.go k2
  clear t1 k2 c0 c1
  obtain ⟨c0, c1, _, _⟩ := t2.1.one
  go_wp2_with fail
  refine (runs_any _).mono ?_
  rintro e w4 ⟨rfl, k4⟩
  go_wp2
  go_ret
  exact ⟨rfl, (t2.go k4).2⟩

set_option maxRecDepth 100000 in
set_option maxHeartbeats 1000000 in
theorem cover_noB (p l u : Int) (w : World) (hs : Plain.spanB p l = true) (hl : ¬ l ≤ 4096) (hu2 : u ≤ 9223372036854775807) :
    Calls Try.prog 9 #[.agg #[.int .i64 p, .int .i64 l], .int .i64 u] w fun e w' => e = .returned (.bool true) ∧ Below w.heap.size w w' := by
  have hv : Plain.partsOf u p l = [] := by rw [Plain.partsOf, if_neg (fun h => hl h.2.1)]
  have HV := Lib.hid hv
  have HS := Lib.hid hs
  clear hv hs
  have t0 : One w p l (w.alloc (.cells #[.int .i64 p, .int .i64 l] 27)) := ⟨BoxAt.new w 27 p l, (Below.refl _ _).alloc (Nat.le_refl _) _⟩
  go_enter Try.func9, Try.ntmps9
  go_wp2_with fail
  refine (parts_any _ _ _ _ hu2).mono ?_
  rintro e w1 ⟨v, rfl, o1, k1⟩
  rw [HV.out] at o1
  obtain ⟨A, c, rfl, s1, l1⟩ := own_spans o1
  have t1 := t0.go k1
  clear t0 k1 o1 s1 l1
  obtain ⟨c0, c1, _, _⟩ := t1.1.one
  go_wp2_with fail
  refine (span_any _ _ _).mono ?_
  rintro e w2 ⟨rfl, k2⟩
  rw [HS.out]
  have t2 := t1.go k2
  clear t1 k2 c0 c1
  obtain ⟨c0, c1, _, _⟩ := t2.1.one
  go_wp2_with fail
  refine (runs_any _).mono ?_
  rintro e w4 ⟨rfl, k4⟩
  go_wp2
  go_ret
  exact ⟨rfl, (t2.go k4).2⟩

set_option maxRecDepth 100000 in
set_option maxHeartbeats 1000000 in
theorem cover_noC (p l u : Int) (w : World) (hs : Plain.spanB p l = true) (hl : l ≤ 4096) (hu : ¬ 1 ≤ u) (hu2 : u ≤ 9223372036854775807) :
    Calls Try.prog 9 #[.agg #[.int .i64 p, .int .i64 l], .int .i64 u] w fun e w' => e = .returned (.bool true) ∧ Below w.heap.size w w' := by
  have hv : Plain.partsOf u p l = [] := by rw [Plain.partsOf, if_neg (fun h => hu h.2.2)]
  have HV := Lib.hid hv
  have HS := Lib.hid hs
  clear hv hs
  have t0 : One w p l (w.alloc (.cells #[.int .i64 p, .int .i64 l] 27)) := ⟨BoxAt.new w 27 p l, (Below.refl _ _).alloc (Nat.le_refl _) _⟩
  go_enter Try.func9, Try.ntmps9
  go_wp2_with fail
  refine (parts_any _ _ _ _ hu2).mono ?_
  rintro e w1 ⟨v, rfl, o1, k1⟩
  rw [HV.out] at o1
  obtain ⟨A, c, rfl, s1, l1⟩ := own_spans o1
  have t1 := t0.go k1
  clear t0 k1 o1 s1 l1
  obtain ⟨c0, c1, _, _⟩ := t1.1.one
  go_wp2_with fail
  refine (span_any _ _ _).mono ?_
  rintro e w2 ⟨rfl, k2⟩
  rw [HS.out]
  have t2 := t1.go k2
  clear t1 k2 c0 c1
  obtain ⟨c0, c1, _, _⟩ := t2.1.one
  go_wp2_with fail
  refine (runs_any _).mono ?_
  rintro e w4 ⟨rfl, k4⟩
  go_wp2
  go_ret
  exact ⟨rfl, (t2.go k4).2⟩

theorem cover_walk (p l u : Int) (w : World) (_h1 : (Lit.int .i64 p).wf = true) (_h2 : (Lit.int .i64 l).wf = true) (hu : (Lit.int .i64 u).wf = true) :
    Calls Try.prog 9 #[.agg #[.int .i64 p, .int .i64 l], .int .i64 u] w fun e w' => e = .returned (.bool true) ∧ Below w.heap.size w w' := by
  have hu2 := (i64_bounds hu).2
  cases hs : Plain.spanB p l
  · exact cover_noA p l u w hs hu2
  · by_cases hl : l ≤ 4096
    · by_cases h1 : 1 ≤ u
      · exact cover_yes p l u w hs hl h1 hu2
      · exact cover_noC p l u w hs hl h1 hu2
    · exact cover_noB p l u w hs hl hu2

end Go.Proofs.Ytamignakfliocaa
