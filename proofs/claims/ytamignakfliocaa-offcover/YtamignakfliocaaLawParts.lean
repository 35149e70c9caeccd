/- The walk of the law OffParts. -/
import Derived.Test.YtamignakfliocaaRead
import Derived.Test.YtamignakfliocaaWalksQ
import Derived.Test.YtamignakfliocaaWalksR
import Derived.Test.YtamignakfliocaaWalksS
import Derived.WalkKit
import Derived.WalkSpells
import Derived.WalkLawsBesides
import Derived.Lib.Hide
import Derived.Deep.RegionHeld3
namespace Go.Proofs.Ytamignakfliocaa
open Go.RowKit

theorem Plain.partsFrom_le (u : Int) : ∀ (f : Nat) (p l : Int), (Plain.partsFrom u f p l).length ≤ f
  | 0, _, _ => by simp [Plain.partsFrom]
  | f + 1, p, l => by
    rw [Plain.partsFrom]
    split
    · have := Plain.partsFrom_le u f (p + Plain.partLen u p l) (l - Plain.partLen u p l)
      simpa using this
    · simp
theorem Plain.partsOf_le (u p l : Int) : (Plain.partsOf u p l).length ≤ 4096 := by
  unfold Plain.partsOf
  split
  · rename_i h
    have := Plain.partsFrom_le u l.toNat p l
    omega
  · simp
theorem Spans.below {w w' : World} {A : Option Addr} {n : Nat} {xs : List (Int × Int)} (h : Spans w A n xs) (hl : ∀ b o, A = some ⟨b, o, none⟩ → b < w.heap.size) (k : Below w.heap.size w w') : Spans w' A n xs := by
  refine ⟨h.1, fun hn => ?_⟩
  obtain ⟨b, rfl, hc⟩ := h.2 hn
  have hb := hl b 0 rfl
  exact ⟨b, rfl, fun j hj => ⟨(k.cell (p := ⟨b, j * 2, none⟩) hb).trans (hc j hj).1, (k.cell (p := ⟨b, j * 2 + 1, none⟩) hb).trans (hc j hj).2⟩⟩

/-- One span lies in a variable, and nothing older has turned. -/
def One (w : World) (p l : Int) (w' : World) : Prop := BoxAt w' w.heap.size 27 p l ∧ Below w.heap.size w w'
theorem One.go {w w1 w2 : World} {p l : Int} (h : One w p l w1) (k : Below w1.heap.size w1 w2) : One w p l w2 :=
  ⟨h.1.below k h.1.lt, below2 h.2 k (by have := h.1.lt; omega)⟩
theorem One.drew {w w1 : World} {p l : Int} (h : One w p l w1) : One w p l w1.drew := ⟨h.1, h.2.drew⟩
theorem One.drewN {w w1 : World} {p l : Int} (h : One w p l w1) (m : Nat) : One w p l (w1.drewN m) := ⟨h.1, below_drewN h.2 m⟩
abbrev HeldOne (w : World) (p l : Int) (w' : World) : Prop :=
  w'.cell? ⟨w.heap.size, 0, none⟩ = some (.int .i64 p) ∧ w'.cell? ⟨w.heap.size, 1, none⟩ = some (.int .i64 l) ∧ One w p l w'
theorem One.all {w w1 : World} {p l : Int} (h : One w p l w1) : HeldOne w p l w1 := ⟨h.1.one.1, h.1.one.2.1, h⟩
theorem one_next {w w1 w2 : World} {p l : Int} (h : HeldOne w p l w1) (k : Below w1.heap.size w1 w2) : HeldOne w p l w2 := (h.2.2.go k).all
theorem one_draw {w w1 : World} {p l : Int} {m : Nat} (h : HeldOne w p l w1) : HeldOne w p l (w1.drewN m) := (h.2.2.drewN m).all

set_option maxHeartbeats 1000000 in
theorem parts_walk (p l u : Int) (w : World) (_h1 : (Lit.int .i64 p).wf = true) (_h2 : (Lit.int .i64 l).wf = true) (hu : (Lit.int .i64 u).wf = true) :
    Calls Try.prog 6 #[.agg #[.int .i64 p, .int .i64 l], .int .i64 u] w fun e w' => e = .returned (.bool true) ∧ Below w.heap.size w w' := by
  have hu2 := (i64_bounds hu).2
  have hlen := Plain.partsOf_le u p l
  clear hu _h1 _h2
  have t0 : One w p l (w.alloc (.cells #[.int .i64 p, .int .i64 l] 27)) := ⟨BoxAt.new w 27 p l, (Below.refl _ _).alloc (Nat.le_refl _) _⟩
  go_enter Try.func6, Try.ntmps6
  go_wp2
  go_region_held3 (fun w' => w'.cell? ⟨w.heap.size, 0, none⟩ = some (.int .i64 p) ∧ w'.cell? ⟨w.heap.size, 1, none⟩ = some (.int .i64 l) ∧ One w p l w')
    (first | assumption | exact One.all t0 | exact One.all t0.drew | exact one_next (by assumption) k9 | exact one_draw (by assumption))
    (first | (go_at_call 13; refine (parts_any _ _ _ _ hu2).mono ?_; rintro e w1 ⟨v1, rfl, o1, k9⟩; obtain ⟨A, c, rfl, s1, l1⟩ := own_spans o1) | (go_at_call 29; refine (rparts_any _ _ _ _ hu2).mono ?_; rintro e w2 ⟨v2, rfl, o2, k9⟩; have s3 := s1.below (fun b o h => (l1 b o h).2) k9; obtain ⟨B, d, rfl, s2, l2⟩ := own_spans o2) | (go_at_call 28; refine (same_any _ _ _ _ _ _ _ hlen s3 s2).mono ?_; rintro e w3 ⟨rfl, m, rfl⟩) | (go_at_call 3; refine (runs_any _).mono ?_; rintro e w4 ⟨rfl, k9⟩))
  rename_i hH
  have K := Lib.hid hH.2.2.2
  go_wp2
  go_ret
  exact ⟨rfl, K.out⟩

end Go.Proofs.Ytamignakfliocaa
