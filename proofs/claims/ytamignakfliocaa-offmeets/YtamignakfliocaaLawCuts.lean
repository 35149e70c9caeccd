/- The walk of the law OffCuts. -/
import Derived.Test.YtamignakfliocaaRead
import Derived.Test.YtamignakfliocaaWalksG
import Derived.Test.YtamignakfliocaaWalksR
import Derived.WalkKit
import Derived.WalkSpells
import Derived.WalkLawsBesides
import Derived.Lib.Hide
import Derived.Deep.RegionHeld3
namespace Go.Proofs.Ytamignakfliocaa
open Go.RowKit

/-- Two spans lie in two variables, and nothing older has turned. -/
def Two (w : World) (ap al bp bl : Int) (w' : World) : Prop := BoxAt w' w.heap.size 27 ap al ∧ BoxAt w' (w.heap.size + 1) 27 bp bl ∧ Below w.heap.size w w'
theorem Two.go {w w1 w2 : World} {ap al bp bl : Int} (h : Two w ap al bp bl w1) (k : Below w1.heap.size w1 w2) : Two w ap al bp bl w2 :=
  ⟨h.1.below k h.1.lt, h.2.1.below k h.2.1.lt, below2 h.2.2 k (by have := h.1.lt; omega)⟩

theorem Two.drew {w w1 : World} {ap al bp bl : Int} (h : Two w ap al bp bl w1) : Two w ap al bp bl w1.drew := ⟨h.1, h.2.1, h.2.2.drew⟩
/-- What a region that loads both spans is told of the world. -/
abbrev Held (w : World) (ap al bp bl : Int) (w' : World) : Prop :=
  w'.cell? ⟨w.heap.size, 0, none⟩ = some (.int .i64 ap) ∧ w'.cell? ⟨w.heap.size, 1, none⟩ = some (.int .i64 al) ∧ w'.cell? ⟨w.heap.size + 1, 0, none⟩ = some (.int .i64 bp) ∧ w'.cell? ⟨w.heap.size + 1, 1, none⟩ = some (.int .i64 bl) ∧ Two w ap al bp bl w'
theorem Two.all {w w1 : World} {ap al bp bl : Int} (h : Two w ap al bp bl w1) : Held w ap al bp bl w1 :=
  ⟨h.1.one.1, h.1.one.2.1, h.2.1.one.1, h.2.1.one.2.1, h⟩
theorem held_next {w w1 w2 : World} {ap al bp bl : Int} (h : Held w ap al bp bl w1) (k : Below w1.heap.size w1 w2) : Held w ap al bp bl w2 := (h.2.2.2.2.go k).all

set_option maxHeartbeats 1000000 in
theorem cuts_walk (n u ap al bp bl : Int) (w : World) (_hn : (Lit.int .i64 n).wf = true) (hu : (Lit.int .i64 u).wf = true) (_h1 : (Lit.int .i64 ap).wf = true) (_h2 : (Lit.int .i64 al).wf = true) (_h3 : (Lit.int .i64 bp).wf = true) (_h4 : (Lit.int .i64 bl).wf = true) :
    Calls Try.prog 5 #[.int .i64 n, .int .i64 u, .agg #[.int .i64 ap, .int .i64 al], .agg #[.int .i64 bp, .int .i64 bl]] w fun e w' => e = .returned (.bool true) ∧ Below w.heap.size w w' := by
  have hu2 := (i64_bounds hu).2
  clear hu _hn _h1 _h2 _h3 _h4
  have he := eql_span
  go_enter Try.func5, Try.ntmps5
  go_wp2_with fail
  refine (up_any _ _ _ hu2).mono ?_
  rintro e w1 ⟨rfl, k1⟩
  have t0 : Two w ap al bp bl ((w.alloc (.cells #[.int .i64 ap, .int .i64 al] 27)).alloc (.cells #[.int .i64 bp, .int .i64 bl] 27)) :=
    ⟨(BoxAt.new w 27 ap al).below (Below.alloc (Below.refl _ _) (Nat.le_refl _) _) (by simp), by simpa using BoxAt.new (w.alloc (.cells #[.int .i64 ap, .int .i64 al] 27)) 27 bp bl, ((Below.refl _ _).alloc (Nat.le_refl _) _).alloc (by simp) _⟩
  have t1 := t0.go k1
  clear t0 k1
  go_wp2_with fail
  refine (rup_any _ _ _ hu2).mono ?_
  rintro e w2 ⟨rfl, k2⟩
  have t2 := t1.go k2
  clear t1 k2
  obtain ⟨c0, c1, f0, f1⟩ := t2.1.one
  obtain ⟨c2, c3, f2, f3⟩ := t2.2.1.one
  clear f0 f1 f2 f3
  go_wp2
  go_region_held3 (fun w' => w'.cell? ⟨w.heap.size, 0, none⟩ = some (.int .i64 ap) ∧ w'.cell? ⟨w.heap.size, 1, none⟩ = some (.int .i64 al) ∧ w'.cell? ⟨w.heap.size + 1, 0, none⟩ = some (.int .i64 bp) ∧ w'.cell? ⟨w.heap.size + 1, 1, none⟩ = some (.int .i64 bl) ∧ Two w ap al bp bl w')
    (first | assumption | exact Two.all t2 | exact Two.all t2.drew | exact held_next (by assumption) k9)
    (first | (go_at_call 20; refine (down_any _ _ _ hu2).mono ?_; rintro e w' ⟨rfl, rfl⟩) | (go_at_call 21; refine (rdown_any _ _ _ hu2).mono ?_; rintro e w' ⟨rfl, rfl⟩) | (go_at_call 22; refine (span_any _ _ _).mono ?_; rintro e w' ⟨rfl, k9⟩) | (go_at_call 23; refine (rspan_any _ _ _).mono ?_; rintro e w' ⟨rfl, k9⟩) | (go_at_call 24; refine (meet_any _ _ _ _ _).mono ?_; rintro e w' ⟨rfl, k9⟩) | (go_at_call 25; refine (rmeet_any _ _ _ _ _).mono ?_; rintro e w' ⟨rfl, k9⟩) | (go_at_call 26; refine (within_any _ _ _ _ _).mono ?_; rintro e w' ⟨rfl, k9⟩) | (go_at_call 27; refine (rwithin_any _ _ _ _ _).mono ?_; rintro e w' ⟨rfl, k9⟩) | (go_at_call 3; refine (runs_any _).mono ?_; rintro e w' ⟨rfl, k9⟩))
  rename_i hH
  have K := Lib.hid hH.2.2.2.2.2.2
  go_wp2
  go_ret
  exact ⟨by simp, K.out⟩

end Go.Proofs.Ytamignakfliocaa
