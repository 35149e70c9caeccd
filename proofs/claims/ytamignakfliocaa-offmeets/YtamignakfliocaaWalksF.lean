/- Contracts of Meet and Within, of off and of the reference. -/
import Derived.Test.YtamignakfliocaaRows
import Derived.Test.YtamignakfliocaaPlain
import Derived.Test.YtamignakfliocaaWalksE
import Derived.WalkKit
import Derived.WalkSpells
import Derived.WalkLawsBesides
import Derived.Lib.Hide
import Derived.Deep.QuietTactic
import Derived.BigQuiet
namespace Go.Proofs.Ytamignakfliocaa
open Go.RowKit

theorem bcell {W w1 : World} (hb : Below W.heap.size W w1) {b o : Nat} {v : Value} (h : b < W.heap.size) (hv : W.cell? ⟨b, o, none⟩ = some v) : w1.cell? ⟨b, o, none⟩ = some v :=
  (hb.cell (p := ⟨b, o, none⟩) h).trans hv
theorem bfrozen {W w1 : World} (hb : Below W.heap.size W w1) {b o : Nat} (h : b < W.heap.size) (hv : W.frozen? ⟨b, o, none⟩ = false) : w1.frozen? ⟨b, o, none⟩ = false :=
  (hb.frozen (p := ⟨b, o, none⟩) h).trans hv
theorem below2 {B : Nat} {W w1 w2 : World} (h1 : Below B W w1) (h2 : Below w1.heap.size w1 w2) (hB : B ≤ w1.heap.size) : Below B W w2 := h1.trans (h2.mono hB)

theorem set_same {w : World} {b o : Nat} {u x : Value} (h : w.cell? ⟨b, o, none⟩ = some u) : (w.setCell ⟨b, o, none⟩ x).cell? ⟨b, o, none⟩ = some x := World.cell?_setCell_same _ _ _ h
theorem set_other {w : World} {b : Nat} {u x : Value} (h : w.cell? ⟨b, 1, none⟩ = some u) : (w.setCell ⟨b, 0, none⟩ x).cell? ⟨b, 1, none⟩ = some u := by
  exact (World.cell?_setCell_other w ⟨b, 0, none⟩ ⟨b, 1, none⟩ x (by simp)).trans h
theorem below_set2 {B b : Nat} {w w' : World} (h : Below B w w') (hb : B ≤ b) (x y : Value) : Below B w ((w'.setCell ⟨b, 0, none⟩ x).setCell ⟨b, 1, none⟩ y) :=
  (h.setCell (p := ⟨b, 0, none⟩) hb x).setCell (p := ⟨b, 1, none⟩) hb y

set_option maxHeartbeats 400000 in
theorem meet_yes (ap al bp bl : Int) (w : World) (ha : Plain.spanB ap al = true) (hb : Plain.spanB bp bl = true) :
    Calls Try.prog 24 #[.agg #[.int .i64 ap, .int .i64 al], .agg #[.int .i64 bp, .int .i64 bl]] w fun e w' => e = .returned (.agg #[.int .i64 (Plain.meetP ap al bp bl).1, .int .i64 (Plain.meetP ap al bp bl).2]) ∧ Below w.heap.size w w' := by
  have HA := Lib.hid ha
  have HB := Lib.hid hb
  have hm : Plain.meetP ap al bp bl = (if (if bp + bl < ap + al then bp + bl else ap + al) ≤ (if ap < bp then bp else ap) then (0, 0) else ((if ap < bp then bp else ap), (if bp + bl < ap + al then bp + bl else ap + al) - (if ap < bp then bp else ap))) := by
    rw [Plain.meetP, if_pos ⟨ha, hb⟩]
  have HM := Lib.hid hm; clear hm
  rw [Plain.span_iff] at ha hb
  obtain ⟨ha0, ha1, ha2, ha3⟩ := ha
  obtain ⟨hb0, hb1, hb2, hb3⟩ := hb
  go_enter Try.func24, Try.ntmps24
  go_wp2_with fail
  refine (span_any _ _ _).mono ?_
  rintro e w1 ⟨rfl, k1⟩
  rw [HA.out]
  have s1 : w.heap.size + 3 ≤ w1.heap.size := by have := k1.size; simp at this; omega
  have c2 : w1.cell? ⟨w.heap.size + 1, 0, none⟩ = some (.int .i64 bp) := bcell k1 (by simp) (by simp [go_sem])
  have c3 : w1.cell? ⟨w.heap.size + 1, 1, none⟩ = some (.int .i64 bl) := bcell k1 (by simp) (by simp [go_sem])
  go_wp2_with fail
  refine (span_any _ _ _).mono ?_
  rintro e w2 ⟨rfl, k2⟩
  rw [HB.out]
  have k3 := below2 k1 k2 (by simp; omega)
  clear c2 c3
  have c0 : w2.cell? ⟨w.heap.size, 0, none⟩ = some (.int .i64 ap) := bcell k3 (by simp; omega) (by simp [go_sem])
  have c1 : w2.cell? ⟨w.heap.size, 1, none⟩ = some (.int .i64 al) := bcell k3 (by simp; omega) (by simp [go_sem])
  have c2 : w2.cell? ⟨w.heap.size + 1, 0, none⟩ = some (.int .i64 bp) := bcell k3 (by simp) (by simp [go_sem])
  have c3 : w2.cell? ⟨w.heap.size + 1, 1, none⟩ = some (.int .i64 bl) := bcell k3 (by simp) (by simp [go_sem])
  have c4 : w2.cell? ⟨w.heap.size + 1 + 1, 0, none⟩ = some (.int .i64 0) := bcell k3 (by simp) (by simp [go_sem])
  have c5 : w2.cell? ⟨w.heap.size + 1 + 1, 1, none⟩ = some (.int .i64 0) := bcell k3 (by simp) (by simp [go_sem])
  have f4 : w2.frozen? ⟨w.heap.size + 1 + 1, 0, none⟩ = false := bfrozen k3 (by simp) (by simp [go_sem])
  have f5 : w2.frozen? ⟨w.heap.size + 1 + 1, 1, none⟩ = false := bfrozen k3 (by simp) (by simp [go_sem])
  have k4 : Below w.heap.size w w2 := ((((Below.refl w.heap.size w).alloc (Nat.le_refl _) _).alloc (by simp) _).alloc (by simp; omega) _).trans (k3.mono (by simp; omega))
  rcases Int.lt_or_le ap bp with hx | hx <;> rcases Int.lt_or_le (bp + bl) (ap + al) with hy | hy
  all_goals
    go_wp2
    · rw [HM.out.trans (if_pos (by split <;> first | omega | (split <;> omega)))]
      exact bodyPost_ret (by simp [results, Try.results24, go_sem, set_same c4, set_same (set_other c5)]) rfl ⟨rfl, below_set2 k4 (by omega) _ _⟩
    · rw [HM.out.trans (if_neg (by split <;> first | omega | (split <;> omega)))]
      exact bodyPost_ret (by simp [results, Try.results24, go_sem, set_same c4, set_same (set_other c5)] <;> omega) rfl ⟨rfl, below_set2 k4 (by omega) _ _⟩

set_option maxHeartbeats 400000 in
theorem meet_noA (ap al bp bl : Int) (w : World) (ha : Plain.spanB ap al = false) :
    Calls Try.prog 24 #[.agg #[.int .i64 ap, .int .i64 al], .agg #[.int .i64 bp, .int .i64 bl]] w fun e w' => e = .returned (.agg #[.int .i64 (Plain.meetP ap al bp bl).1, .int .i64 (Plain.meetP ap al bp bl).2]) ∧ Below w.heap.size w w' := by
  have hm : Plain.meetP ap al bp bl = (0, 0) := by rw [Plain.meetP, if_neg (by simp [ha])]
  have HM := Lib.hid hm; clear hm
  have HA := Lib.hid ha; clear ha
  go_enter Try.func24, Try.ntmps24
  go_wp2_with fail
  refine (span_any _ _ _).mono ?_
  rintro e w2 ⟨rfl, k3⟩
  rw [HA.out]
  have c4 : w2.cell? ⟨w.heap.size + 1 + 1, 0, none⟩ = some (.int .i64 0) := bcell k3 (by simp) (by simp [go_sem])
  have c5 : w2.cell? ⟨w.heap.size + 1 + 1, 1, none⟩ = some (.int .i64 0) := bcell k3 (by simp) (by simp [go_sem])
  have f4 : w2.frozen? ⟨w.heap.size + 1 + 1, 0, none⟩ = false := bfrozen k3 (by simp) (by simp [go_sem])
  have f5 : w2.frozen? ⟨w.heap.size + 1 + 1, 1, none⟩ = false := bfrozen k3 (by simp) (by simp [go_sem])
  have k4 : Below w.heap.size w w2 := ((((Below.refl w.heap.size w).alloc (Nat.le_refl _) _).alloc (by simp) _).alloc (by simp; omega) _).trans (k3.mono (by simp; omega))
  go_wp2
  rw [HM.out]
  exact bodyPost_ret (by simp [results, Try.results24, go_sem, set_same c4, set_same (set_other c5)]) rfl ⟨rfl, below_set2 k4 (by omega) _ _⟩

set_option maxHeartbeats 400000 in
theorem meet_noB (ap al bp bl : Int) (w : World) (ha : Plain.spanB ap al = true) (hb : Plain.spanB bp bl = false) :
    Calls Try.prog 24 #[.agg #[.int .i64 ap, .int .i64 al], .agg #[.int .i64 bp, .int .i64 bl]] w fun e w' => e = .returned (.agg #[.int .i64 (Plain.meetP ap al bp bl).1, .int .i64 (Plain.meetP ap al bp bl).2]) ∧ Below w.heap.size w w' := by
  have hm : Plain.meetP ap al bp bl = (0, 0) := by rw [Plain.meetP, if_neg (by simp [hb])]
  have HM := Lib.hid hm; clear hm
  have HA := Lib.hid ha; clear ha
  have HB := Lib.hid hb; clear hb
  go_enter Try.func24, Try.ntmps24
  go_wp2_with fail
  refine (span_any _ _ _).mono ?_
  rintro e w1 ⟨rfl, k1⟩
  rw [HA.out]
  have s1 : w.heap.size + 3 ≤ w1.heap.size := by have := k1.size; simp at this; omega
  have c2 : w1.cell? ⟨w.heap.size + 1, 0, none⟩ = some (.int .i64 bp) := bcell k1 (by simp) (by simp [go_sem])
  have c3 : w1.cell? ⟨w.heap.size + 1, 1, none⟩ = some (.int .i64 bl) := bcell k1 (by simp) (by simp [go_sem])
  go_wp2_with fail
  refine (span_any _ _ _).mono ?_
  rintro e w2 ⟨rfl, k2⟩
  rw [HB.out]
  have k3 := below2 k1 k2 (by simp; omega)
  have c4 : w2.cell? ⟨w.heap.size + 1 + 1, 0, none⟩ = some (.int .i64 0) := bcell k3 (by simp) (by simp [go_sem])
  have c5 : w2.cell? ⟨w.heap.size + 1 + 1, 1, none⟩ = some (.int .i64 0) := bcell k3 (by simp) (by simp [go_sem])
  have f4 : w2.frozen? ⟨w.heap.size + 1 + 1, 0, none⟩ = false := bfrozen k3 (by simp) (by simp [go_sem])
  have f5 : w2.frozen? ⟨w.heap.size + 1 + 1, 1, none⟩ = false := bfrozen k3 (by simp) (by simp [go_sem])
  have k4 : Below w.heap.size w w2 := ((((Below.refl w.heap.size w).alloc (Nat.le_refl _) _).alloc (by simp) _).alloc (by simp; omega) _).trans (k3.mono (by simp; omega))
  go_wp2
  rw [HM.out]
  exact bodyPost_ret (by simp [results, Try.results24, go_sem, set_same c4, set_same (set_other c5)]) rfl ⟨rfl, below_set2 k4 (by omega) _ _⟩

theorem meet_any (ap al bp bl : Int) (w : World)  :
    Calls Try.prog 24 #[.agg #[.int .i64 ap, .int .i64 al], .agg #[.int .i64 bp, .int .i64 bl]] w fun e w' => e = .returned (.agg #[.int .i64 (Plain.meetP ap al bp bl).1, .int .i64 (Plain.meetP ap al bp bl).2]) ∧ Below w.heap.size w w' := by
  cases ha : Plain.spanB ap al
  · exact meet_noA ap al bp bl w ha
  · cases hb : Plain.spanB bp bl
    · exact meet_noB ap al bp bl w ha hb
    · exact meet_yes ap al bp bl w ha hb

end Go.Proofs.Ytamignakfliocaa
