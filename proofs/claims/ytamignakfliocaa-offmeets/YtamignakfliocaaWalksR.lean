/- Contract of the law OffRuns itself, which the other laws call. -/
import Derived.Test.YtamignakfliocaaRows
import Derived.Test.YtamignakfliocaaPlainP
import Derived.Test.YtamignakfliocaaWalksC
import Derived.Test.YtamignakfliocaaWalksH
import Derived.Test.YtamignakfliocaaWalksP
import Derived.WalkKit
import Derived.WalkSpells
import Derived.WalkLawsBesides
import Derived.Lib.Hide
namespace Go.Proofs.Ytamignakfliocaa
open Go.RowKit

theorem ints_three (w : World) (a b c : Int) (t : TypeId) : Ints (w.alloc (.cells #[.int .i64 a, .int .i64 b, .int .i64 c] t)) (some ⟨w.heap.size, 0, none⟩) 3 [a, b, c] := by
  refine ⟨rfl, fun _ => ⟨_, _, rfl, fun k hk => ?_⟩⟩
  match k, hk with
  | 0, _ => simp [go_sem]
  | 1, _ => simp [go_sem]
  | 2, _ => simp [go_sem]
theorem ints_nil (w : World) : Ints w none 0 [] := ⟨rfl, fun h => absurd h (by omega)⟩
/-- A row of two spans: where it lies and what its cells hold. -/
theorem two_spans {w : World} {base : Nat} {e : TypeId} {v : Value} {a b c d : Int} (h : w.ownsRow base e 2 v 2 [.int .i64 a, .int .i64 b, .int .i64 c, .int .i64 d]) :
    ∃ g cap, v = .slice (some ⟨g, 0, none⟩) 2 cap ∧ w.cell? ⟨g, 0, none⟩ = some (.int .i64 a) ∧ w.cell? ⟨g, 1, none⟩ = some (.int .i64 b) ∧ w.cell? ⟨g, 2, none⟩ = some (.int .i64 c) ∧ w.cell? ⟨g, 3, none⟩ = some (.int .i64 d) := by
  have h2 := h
  rcases h.2 with ⟨_, h0⟩ | ⟨g, cap, cur, rfl, _⟩
  · omega
  · have hc := h2.cells (g := g) rfl
    exact ⟨g, cap, rfl, by simpa [Addr.add] using hc 0 _ rfl, by simpa [Addr.add] using hc 1 _ rfl, by simpa [Addr.add] using hc 2 _ rfl, by simpa [Addr.add] using hc 3 _ rfl⟩

set_option maxHeartbeats 1000000 in
theorem runs_any (w : World) : Calls Try.prog 3 #[] w fun e w' => e = .returned (.bool true) ∧ Below w.heap.size w w' := by
  have a1 : Plain.addV [1, 2, 3] = 6 := by decide
  have a2 : Plain.addOk [1, 2, 3] = true := by decide
  have m1 : Plain.mulV [] = 1 := by decide
  have m2 : Plain.mulOk [] = true := by decide
  have p1 : Plain.partsOf 8 5 6 = [(5, 3), (8, 3)] := by decide
  have A1 := Lib.hid a1; have A2 := Lib.hid a2; have M1 := Lib.hid m1; have M2 := Lib.hid m2; have P1 := Lib.hid p1
  clear a1 a2 m1 m2 p1
  have he := eql_span
  go_enter Try.func3, Try.ntmps3
  go_wp2_with fail
  refine (add_any _ _ _ [1, 2, 3] _ (by decide) (ints_three _ _ _ _ _)).mono ?_
  rintro e w1 ⟨rfl, rfl⟩
  rw [A1.out, A2.out]
  go_wp2_with fail
  refine (mul_any _ _ _ [] _ (by decide) (ints_nil _)).mono ?_
  rintro e w1 ⟨rfl, rfl⟩
  rw [M1.out, M2.out]
  go_wp2_with fail
  refine (parts_any _ _ _ _ (by omega)).mono ?_
  rintro e w2 ⟨v, rfl, hown, k⟩
  rw [P1.out] at hown
  obtain ⟨g, cap, rfl, c0, c1, c2, c3⟩ := two_spans hown
  clear hown
  have kk : Below w.heap.size w w2 := ((Below.refl w.heap.size w).alloc (Nat.le_refl _) _).trans (k.mono (by simp))
  clear k
  go_wp2_with fail
  refine (may_yes _ _ (by omega) (by omega)).mono ?_
  rintro e w3 ⟨rfl, rfl⟩
  go_wp2_with fail
  refine (may_no _ _ (by omega)).mono ?_
  rintro e w3 ⟨rfl, rfl⟩
  go_wp2
  go_ret
  exact ⟨rfl, kk⟩

end Go.Proofs.Ytamignakfliocaa
