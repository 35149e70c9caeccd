/- Contracts of Within, of off and of the reference. -/
import Derived.Test.YtamignakfliocaaRows
import Derived.Test.YtamignakfliocaaPlain
import Derived.Test.YtamignakfliocaaWalksF
import Derived.WalkKit
import Derived.WalkSpells
import Derived.WalkLawsBesides
import Derived.Lib.Hide
import Derived.Deep.QuietTactic
import Derived.BigQuiet
import Derived.Deep.RegionHeld3
namespace Go.Proofs.Ytamignakfliocaa
open Go.RowKit

theorem eql_span (w : World) (a b c d : Int) : (binOp .eql 27 (.agg #[.int .i64 a, .int .i64 b]) (.agg #[.int .i64 c, .int .i64 d])).run Try.prog w = .ok (.bool (a == c && b == d)) w := by
  rw [run_eql_struct, run_equalIn_agg _ _ _ _ _ (by kernel_rfl) (by kernel_rfl)]
  by_cases h1 : a = c <;> by_cases h2 : b = d <;> simp [go_sem, Try.underlying27, h1, h2]

set_option maxHeartbeats 400000 in
theorem within_yes (ap al bp bl : Int) (w : World) (ha : Plain.spanB ap al = true) (hb : Plain.spanB bp bl = true) (h : al ≠ 0) :
    Calls Try.prog 26 #[.agg #[.int .i64 ap, .int .i64 al], .agg #[.int .i64 bp, .int .i64 bl]] w fun e w' => e = .returned (.bool (Plain.withinB ap al bp bl)) ∧ Below w.heap.size w w' := by
  have hv := Plain.within_is ap al bp bl ha hb h
  have HV := Lib.hid hv; clear hv
  have HA := Lib.hid ha; clear ha
  have HB := Lib.hid hb; clear hb
  have hz : (al == 0) = false := by simpa using h
  have he := eql_span
  go_enter Try.func26, Try.ntmps26
  go_wp2_with fail
  refine (span_any _ _ _).mono ?_
  rintro e w1 ⟨rfl, k1⟩
  rw [HA.out]
  have s1 : w.heap.size + 2 ≤ w1.heap.size := by have := k1.size; simp at this; omega
  have c2 : w1.cell? ⟨w.heap.size + 1, 0, none⟩ = some (.int .i64 bp) := bcell k1 (by simp) (by simp [go_sem])
  have c3 : w1.cell? ⟨w.heap.size + 1, 1, none⟩ = some (.int .i64 bl) := bcell k1 (by simp) (by simp [go_sem])
  go_wp2_with fail
  refine (span_any _ _ _).mono ?_
  rintro e w2 ⟨rfl, k2⟩
  rw [HB.out]
  have k3 := below2 k1 k2 (by simp; omega)
  clear c2 c3
  have c0 : w2.cell? ⟨w.heap.size, 0, none⟩ = some (.int .i64 ap) := bcell k3 (by simp; omega) (by simp [go_sem])
  have c1 : w2.cell? ⟨w.heap.size, 1, none⟩ = some (.int .i64 al) := bcell k3 (by simp; omega) (by simp [go_sem])
  have c2 : w2.cell? ⟨w.heap.size + 1, 0, none⟩ = some (.int .i64 bp) := bcell k3 (by simp) (by simp [go_sem])
  have c3 : w2.cell? ⟨w.heap.size + 1, 1, none⟩ = some (.int .i64 bl) := bcell k3 (by simp) (by simp [go_sem])
  have k4 : Below w.heap.size w w2 := (((Below.refl w.heap.size w).alloc (Nat.le_refl _) _).alloc (by simp) _).trans (k3.mono (by simp; omega))
  have s2 : w.heap.size + 2 ≤ w2.heap.size := by have := k2.size; omega
  have HK : Hid (∀ wa wb : World, (wa.cell? ⟨w.heap.size, 0, none⟩ = some (.int .i64 ap) ∧ wa.cell? ⟨w.heap.size, 1, none⟩ = some (.int .i64 al) ∧ wa.cell? ⟨w.heap.size + 1, 0, none⟩ = some (.int .i64 bp) ∧ wa.cell? ⟨w.heap.size + 1, 1, none⟩ = some (.int .i64 bl) ∧ Below w.heap.size w wa ∧ w.heap.size + 2 ≤ wa.heap.size) → Below wa.heap.size wa wb →
      (wb.cell? ⟨w.heap.size, 0, none⟩ = some (.int .i64 ap) ∧ wb.cell? ⟨w.heap.size, 1, none⟩ = some (.int .i64 al) ∧ wb.cell? ⟨w.heap.size + 1, 0, none⟩ = some (.int .i64 bp) ∧ wb.cell? ⟨w.heap.size + 1, 1, none⟩ = some (.int .i64 bl) ∧ Below w.heap.size w wb ∧ w.heap.size + 2 ≤ wb.heap.size)) := by
    rintro wa wb ⟨d0, d1, d2, d3, d4, d5⟩ k
    exact ⟨bcell k (by omega) d0, bcell k (by omega) d1, bcell k (by omega) d2, bcell k (by omega) d3, below2 d4 k (by omega), by have := k.size; omega⟩
  go_wp2
  go_region_held3 (fun w' => w'.cell? ⟨w.heap.size, 0, none⟩ = some (.int .i64 ap) ∧ w'.cell? ⟨w.heap.size, 1, none⟩ = some (.int .i64 al) ∧ w'.cell? ⟨w.heap.size + 1, 0, none⟩ = some (.int .i64 bp) ∧ w'.cell? ⟨w.heap.size + 1, 1, none⟩ = some (.int .i64 bl) ∧ Below w.heap.size w w' ∧ w.heap.size + 2 ≤ w'.heap.size)
    (first | exact ⟨c0, c1, c2, c3, k4, s2⟩ | exact ⟨c0, c1, c2, c3, k4.drew, s2⟩ | exact HK.out w2 _ ⟨c0, c1, c2, c3, k4, s2⟩ k9 | exact HK.out w2.drew _ ⟨c0, c1, c2, c3, k4.drew, s2⟩ k9)
    (first | (go_at_call 24; refine (meet_any _ _ _ _ _).mono ?_; rintro e w' ⟨rfl, k9⟩))
  go_wp2
  go_ret
  exact ⟨by simp [HV.out], below2 k4.drew k9 (by simp; omega)⟩

set_option maxHeartbeats 400000 in
theorem within_noA (ap al bp bl : Int) (w : World) (ha : Plain.spanB ap al = false) :
    Calls Try.prog 26 #[.agg #[.int .i64 ap, .int .i64 al], .agg #[.int .i64 bp, .int .i64 bl]] w fun e w' => e = .returned (.bool (Plain.withinB ap al bp bl)) ∧ Below w.heap.size w w' := by
  have hv : Plain.withinB ap al bp bl = false := by simp [Plain.withinB, ha]
  have HV := Lib.hid hv; clear hv
  have HA := Lib.hid ha; clear ha
  go_enter Try.func26, Try.ntmps26
  go_wp2_with fail
  refine (span_any _ _ _).mono ?_
  rintro e w2 ⟨rfl, k3⟩
  rw [HA.out]
  have k4 : Below w.heap.size w w2 := (((Below.refl w.heap.size w).alloc (Nat.le_refl _) _).alloc (by simp) _).trans (k3.mono (by simp; omega))
  go_wp2
  go_ret
  exact ⟨by simp [HV.out], k4⟩

set_option maxHeartbeats 400000 in
theorem within_noB (ap al bp bl : Int) (w : World) (ha : Plain.spanB ap al = true) (hb : Plain.spanB bp bl = false) :
    Calls Try.prog 26 #[.agg #[.int .i64 ap, .int .i64 al], .agg #[.int .i64 bp, .int .i64 bl]] w fun e w' => e = .returned (.bool (Plain.withinB ap al bp bl)) ∧ Below w.heap.size w w' := by
  have hv : Plain.withinB ap al bp bl = false := by simp [Plain.withinB, hb]
  have HV := Lib.hid hv; clear hv
  have HA := Lib.hid ha; clear ha
  have HB := Lib.hid hb; clear hb
  go_enter Try.func26, Try.ntmps26
  go_wp2_with fail
  refine (span_any _ _ _).mono ?_
  rintro e w1 ⟨rfl, k1⟩
  rw [HA.out]
  have s1 : w.heap.size + 2 ≤ w1.heap.size := by have := k1.size; simp at this; omega
  have c2 : w1.cell? ⟨w.heap.size + 1, 0, none⟩ = some (.int .i64 bp) := bcell k1 (by simp) (by simp [go_sem])
  have c3 : w1.cell? ⟨w.heap.size + 1, 1, none⟩ = some (.int .i64 bl) := bcell k1 (by simp) (by simp [go_sem])
  go_wp2_with fail
  refine (span_any _ _ _).mono ?_
  rintro e w2 ⟨rfl, k2⟩
  rw [HB.out]
  have k3 := below2 k1 k2 (by simp; omega)
  clear c2 c3
  have c0 : w2.cell? ⟨w.heap.size, 0, none⟩ = some (.int .i64 ap) := bcell k3 (by simp; omega) (by simp [go_sem])
  have c1 : w2.cell? ⟨w.heap.size, 1, none⟩ = some (.int .i64 al) := bcell k3 (by simp; omega) (by simp [go_sem])
  have c2 : w2.cell? ⟨w.heap.size + 1, 0, none⟩ = some (.int .i64 bp) := bcell k3 (by simp) (by simp [go_sem])
  have c3 : w2.cell? ⟨w.heap.size + 1, 1, none⟩ = some (.int .i64 bl) := bcell k3 (by simp) (by simp [go_sem])
  have k4 : Below w.heap.size w w2 := (((Below.refl w.heap.size w).alloc (Nat.le_refl _) _).alloc (by simp) _).trans (k3.mono (by simp; omega))
  go_wp2
  go_ret
  exact ⟨by simp [HV.out], k4⟩

set_option maxHeartbeats 400000 in
theorem within_zero (ap al bp bl : Int) (w : World) (ha : Plain.spanB ap al = true) (hb : Plain.spanB bp bl = true) (h : al = 0) :
    Calls Try.prog 26 #[.agg #[.int .i64 ap, .int .i64 al], .agg #[.int .i64 bp, .int .i64 bl]] w fun e w' => e = .returned (.bool (Plain.withinB ap al bp bl)) ∧ Below w.heap.size w w' := by
  have hv : Plain.withinB ap al bp bl = true := by rw [Plain.withinB, ha, hb]; simp [h]
  have hz : (al == 0) = true := by simpa using h
  clear h
  have HV := Lib.hid hv; clear hv
  have HA := Lib.hid ha; clear ha
  have HB := Lib.hid hb; clear hb
  go_enter Try.func26, Try.ntmps26
  go_wp2_with fail
  refine (span_any _ _ _).mono ?_
  rintro e w1 ⟨rfl, k1⟩
  rw [HA.out]
  have s1 : w.heap.size + 2 ≤ w1.heap.size := by have := k1.size; simp at this; omega
  have c2 : w1.cell? ⟨w.heap.size + 1, 0, none⟩ = some (.int .i64 bp) := bcell k1 (by simp) (by simp [go_sem])
  have c3 : w1.cell? ⟨w.heap.size + 1, 1, none⟩ = some (.int .i64 bl) := bcell k1 (by simp) (by simp [go_sem])
  go_wp2_with fail
  refine (span_any _ _ _).mono ?_
  rintro e w2 ⟨rfl, k2⟩
  rw [HB.out]
  have k3 := below2 k1 k2 (by simp; omega)
  clear c2 c3
  have c0 : w2.cell? ⟨w.heap.size, 0, none⟩ = some (.int .i64 ap) := bcell k3 (by simp; omega) (by simp [go_sem])
  have c1 : w2.cell? ⟨w.heap.size, 1, none⟩ = some (.int .i64 al) := bcell k3 (by simp; omega) (by simp [go_sem])
  have c2 : w2.cell? ⟨w.heap.size + 1, 0, none⟩ = some (.int .i64 bp) := bcell k3 (by simp) (by simp [go_sem])
  have c3 : w2.cell? ⟨w.heap.size + 1, 1, none⟩ = some (.int .i64 bl) := bcell k3 (by simp) (by simp [go_sem])
  have k4 : Below w.heap.size w w2 := (((Below.refl w.heap.size w).alloc (Nat.le_refl _) _).alloc (by simp) _).trans (k3.mono (by simp; omega))
  go_wp2
  go_quiet (fail)
  go_wp2
  go_ret
  exact ⟨by simp [HV.out], below_drewN k4 _⟩

theorem within_any (ap al bp bl : Int) (w : World)  :
    Calls Try.prog 26 #[.agg #[.int .i64 ap, .int .i64 al], .agg #[.int .i64 bp, .int .i64 bl]] w fun e w' => e = .returned (.bool (Plain.withinB ap al bp bl)) ∧ Below w.heap.size w w' := by
  cases ha : Plain.spanB ap al
  · exact within_noA ap al bp bl w ha
  · cases hb : Plain.spanB bp bl
    · exact within_noB ap al bp bl w ha hb
    · by_cases h : al = 0
      · exact within_zero ap al bp bl w ha hb h
      · exact within_yes ap al bp bl w ha hb h

set_option maxHeartbeats 400000 in
theorem rwithin_yes (ap al bp bl : Int) (w : World) (ha : Plain.spanB ap al = true) (hb : Plain.spanB bp bl = true) (h : al ≠ 0) :
    Calls Try.prog 27 #[.agg #[.int .i64 ap, .int .i64 al], .agg #[.int .i64 bp, .int .i64 bl]] w fun e w' => e = .returned (.bool (Plain.withinB ap al bp bl)) ∧ Below w.heap.size w w' := by
  have hv : Plain.withinB ap al bp bl = (decide (bp ≤ ap) && decide (ap + al ≤ bp + bl)) := by simp [Plain.withinB, ha, hb, h]
  have HV := Lib.hid hv; clear hv
  have hz : (al == 0) = false := by simpa using h
  have HA := Lib.hid ha
  have HB := Lib.hid hb
  rw [Plain.span_iff] at ha hb
  obtain ⟨ha0, ha1, ha2, ha3⟩ := ha
  obtain ⟨hb0, hb1, hb2, hb3⟩ := hb
  go_enter Try.func27, Try.ntmps27
  go_wp2_with fail
  refine (rspan_any _ _ _).mono ?_
  rintro e w1 ⟨rfl, k1⟩
  rw [HA.out]
  have s1 : w.heap.size + 2 ≤ w1.heap.size := by have := k1.size; simp at this; omega
  have c2 : w1.cell? ⟨w.heap.size + 1, 0, none⟩ = some (.int .i64 bp) := bcell k1 (by simp) (by simp [go_sem])
  have c3 : w1.cell? ⟨w.heap.size + 1, 1, none⟩ = some (.int .i64 bl) := bcell k1 (by simp) (by simp [go_sem])
  go_wp2_with fail
  refine (rspan_any _ _ _).mono ?_
  rintro e w2 ⟨rfl, k2⟩
  rw [HB.out]
  have k3 := below2 k1 k2 (by simp; omega)
  clear c2 c3
  have c0 : w2.cell? ⟨w.heap.size, 0, none⟩ = some (.int .i64 ap) := bcell k3 (by simp; omega) (by simp [go_sem])
  have c1 : w2.cell? ⟨w.heap.size, 1, none⟩ = some (.int .i64 al) := bcell k3 (by simp; omega) (by simp [go_sem])
  have c2 : w2.cell? ⟨w.heap.size + 1, 0, none⟩ = some (.int .i64 bp) := bcell k3 (by simp) (by simp [go_sem])
  have c3 : w2.cell? ⟨w.heap.size + 1, 1, none⟩ = some (.int .i64 bl) := bcell k3 (by simp) (by simp [go_sem])
  have k4 : Below w.heap.size w w2 := (((Below.refl w.heap.size w).alloc (Nat.le_refl _) _).alloc (by simp) _).trans (k3.mono (by simp; omega))
  by_cases hx : bp ≤ ap
  · by_cases hy : ap + al ≤ bp + bl
    · go_wp2
      go_ret
      exact ⟨by simp [HV.out, hx, hy], k4⟩
    · have hy' : decide (ap + al ≤ bp + bl) = false := by simpa using hy
      go_wp2
      go_ret
      exact ⟨by simp [HV.out, hy'], k4⟩
  · have hx' : decide (bp ≤ ap) = false := by simpa using hx
    go_wp2
    go_ret
    exact ⟨by simp [HV.out, hx'], k4⟩

set_option maxHeartbeats 400000 in
theorem rwithin_noA (ap al bp bl : Int) (w : World) (ha : Plain.spanB ap al = false) :
    Calls Try.prog 27 #[.agg #[.int .i64 ap, .int .i64 al], .agg #[.int .i64 bp, .int .i64 bl]] w fun e w' => e = .returned (.bool (Plain.withinB ap al bp bl)) ∧ Below w.heap.size w w' := by
  have hv : Plain.withinB ap al bp bl = false := by simp [Plain.withinB, ha]
  have HV := Lib.hid hv; clear hv
  have HA := Lib.hid ha; clear ha
  go_enter Try.func27, Try.ntmps27
  go_wp2_with fail
  refine (rspan_any _ _ _).mono ?_
  rintro e w2 ⟨rfl, k3⟩
  rw [HA.out]
  have k4 : Below w.heap.size w w2 := (((Below.refl w.heap.size w).alloc (Nat.le_refl _) _).alloc (by simp) _).trans (k3.mono (by simp; omega))
  go_wp2
  go_ret
  exact ⟨by simp [HV.out], k4⟩

set_option maxHeartbeats 400000 in
theorem rwithin_noB (ap al bp bl : Int) (w : World) (ha : Plain.spanB ap al = true) (hb : Plain.spanB bp bl = false) :
    Calls Try.prog 27 #[.agg #[.int .i64 ap, .int .i64 al], .agg #[.int .i64 bp, .int .i64 bl]] w fun e w' => e = .returned (.bool (Plain.withinB ap al bp bl)) ∧ Below w.heap.size w w' := by
  have hv : Plain.withinB ap al bp bl = false := by simp [Plain.withinB, hb]
  have HV := Lib.hid hv; clear hv
  have HA := Lib.hid ha; clear ha
  have HB := Lib.hid hb; clear hb
  go_enter Try.func27, Try.ntmps27
  go_wp2_with fail
  refine (rspan_any _ _ _).mono ?_
  rintro e w1 ⟨rfl, k1⟩
  rw [HA.out]
  have s1 : w.heap.size + 2 ≤ w1.heap.size := by have := k1.size; simp at this; omega
  have c2 : w1.cell? ⟨w.heap.size + 1, 0, none⟩ = some (.int .i64 bp) := bcell k1 (by simp) (by simp [go_sem])
  have c3 : w1.cell? ⟨w.heap.size + 1, 1, none⟩ = some (.int .i64 bl) := bcell k1 (by simp) (by simp [go_sem])
  go_wp2_with fail
  refine (rspan_any _ _ _).mono ?_
  rintro e w2 ⟨rfl, k2⟩
  rw [HB.out]
  have k3 := below2 k1 k2 (by simp; omega)
  clear c2 c3
  have c0 : w2.cell? ⟨w.heap.size, 0, none⟩ = some (.int .i64 ap) := bcell k3 (by simp; omega) (by simp [go_sem])
  have c1 : w2.cell? ⟨w.heap.size, 1, none⟩ = some (.int .i64 al) := bcell k3 (by simp; omega) (by simp [go_sem])
  have c2 : w2.cell? ⟨w.heap.size + 1, 0, none⟩ = some (.int .i64 bp) := bcell k3 (by simp) (by simp [go_sem])
  have c3 : w2.cell? ⟨w.heap.size + 1, 1, none⟩ = some (.int .i64 bl) := bcell k3 (by simp) (by simp [go_sem])
  have k4 : Below w.heap.size w w2 := (((Below.refl w.heap.size w).alloc (Nat.le_refl _) _).alloc (by simp) _).trans (k3.mono (by simp; omega))
  go_wp2
  go_ret
  exact ⟨by simp [HV.out], k4⟩

set_option maxHeartbeats 400000 in
theorem rwithin_zero (ap al bp bl : Int) (w : World) (ha : Plain.spanB ap al = true) (hb : Plain.spanB bp bl = true) (h : al = 0) :
    Calls Try.prog 27 #[.agg #[.int .i64 ap, .int .i64 al], .agg #[.int .i64 bp, .int .i64 bl]] w fun e w' => e = .returned (.bool (Plain.withinB ap al bp bl)) ∧ Below w.heap.size w w' := by
  have hv : Plain.withinB ap al bp bl = true := by rw [Plain.withinB, ha, hb]; simp [h]
  have hz : (al == 0) = true := by simpa using h
  clear h
  have HV := Lib.hid hv; clear hv
  have HA := Lib.hid ha; clear ha
  have HB := Lib.hid hb; clear hb
  go_enter Try.func27, Try.ntmps27
  go_wp2_with fail
  refine (rspan_any _ _ _).mono ?_
  rintro e w1 ⟨rfl, k1⟩
  rw [HA.out]
  have s1 : w.heap.size + 2 ≤ w1.heap.size := by have := k1.size; simp at this; omega
  have c2 : w1.cell? ⟨w.heap.size + 1, 0, none⟩ = some (.int .i64 bp) := bcell k1 (by simp) (by simp [go_sem])
  have c3 : w1.cell? ⟨w.heap.size + 1, 1, none⟩ = some (.int .i64 bl) := bcell k1 (by simp) (by simp [go_sem])
  go_wp2_with fail
  refine (rspan_any _ _ _).mono ?_
  rintro e w2 ⟨rfl, k2⟩
  rw [HB.out]
  have k3 := below2 k1 k2 (by simp; omega)
  clear c2 c3
  have c0 : w2.cell? ⟨w.heap.size, 0, none⟩ = some (.int .i64 ap) := bcell k3 (by simp; omega) (by simp [go_sem])
  have c1 : w2.cell? ⟨w.heap.size, 1, none⟩ = some (.int .i64 al) := bcell k3 (by simp; omega) (by simp [go_sem])
  have c2 : w2.cell? ⟨w.heap.size + 1, 0, none⟩ = some (.int .i64 bp) := bcell k3 (by simp) (by simp [go_sem])
  have c3 : w2.cell? ⟨w.heap.size + 1, 1, none⟩ = some (.int .i64 bl) := bcell k3 (by simp) (by simp [go_sem])
  have k4 : Below w.heap.size w w2 := (((Below.refl w.heap.size w).alloc (Nat.le_refl _) _).alloc (by simp) _).trans (k3.mono (by simp; omega))
  go_wp2
  go_ret
  exact ⟨by simp [HV.out], k4⟩

theorem rwithin_any (ap al bp bl : Int) (w : World)  :
    Calls Try.prog 27 #[.agg #[.int .i64 ap, .int .i64 al], .agg #[.int .i64 bp, .int .i64 bl]] w fun e w' => e = .returned (.bool (Plain.withinB ap al bp bl)) ∧ Below w.heap.size w w' := by
  cases ha : Plain.spanB ap al
  · exact rwithin_noA ap al bp bl w ha
  · cases hb : Plain.spanB bp bl
    · exact rwithin_noB ap al bp bl w ha hb
    · by_cases h : al = 0
      · exact rwithin_zero ap al bp bl w ha hb h
      · exact rwithin_yes ap al bp bl w ha hb h

end Go.Proofs.Ytamignakfliocaa
