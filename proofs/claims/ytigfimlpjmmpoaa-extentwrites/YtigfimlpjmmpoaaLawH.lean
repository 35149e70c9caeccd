/- Contract of the law ExtentWrites. -/
import Derived.Test.YtigfimlpjmmpoaaLawR
import Derived.Test.YtigfimlpjmmpoaaRefF
import Derived.Test.YtigfimlpjmmpoaaRefW
import Derived.Test.YtigfimlpjmmpoaaWalksH
import Derived.Test.YtigfimlpjmmpoaaWalksC
import Derived.Test.YtigfimlpjmmpoaaReadE
import Derived.WalkKit
import Derived.WalkSpells
import Derived.WalkLawsBesides
import Derived.Lib.Hide
import Derived.BigQuiet
import Derived.OpenShut
namespace Go.Proofs.Ytigfimlpjmmpoaa
open Go.RowKit

theorem wr_one {L M M' : List Ex} {p : Int} {bs : List Int} {z : Bool} (h : if z = true then WR L p bs M else M = []) (h' : if z = true then WR L p bs M' else M' = []) : M = M' := by
  cases z with
  | true =>
    simp only [if_true] at h h'
    exact look_ext h.1 h'.1 (fun k => (h.2 k).trans (h'.2 k).symm)
  | false =>
    simp only [Bool.false_eq_true, if_false] at h h'
    rw [h, h']

set_option maxRecDepth 100000 in
set_option maxHeartbeats 8000000 in
theorem writes_any (s : Int) (A : Option Addr) (n c : Nat) (L : List Ex) (p : Int) (BA : Option Addr) (nb cb : Nat) (bs : List Int) (w : World) (h : Exts w A n c L) (_ : (Lit.int .i64 s).wf = true) (hp : (Lit.int .i64 p).wf = true) (hb : Nums .u8 w BA nb cb bs) (hb8 : ∀ x ∈ bs, 0 ≤ x ∧ x ≤ 255) :
    Calls Try.prog 5 #[ct s A n c, .int .i64 p, .slice BA nb cb] w (TruthPost true w) := by
  have bp := bounds_i64 hp
  clear hp
  have hbm : nb ≤ 9223372036854775807 := by have := hb.le; have := hb.mx; unfold maxLen at this; omega
  have K0 := Lib.hid (show Below w.heap.size w (w.alloc (.cells #[.int .i64 s, .slice A n c] 24)) from (Below.refl _ _).alloc (Nat.le_refl _) _)
  have B0 := Lib.hid (box_new w s A n c)
  have X0 := Lib.hid (h.on K0.out); have Q0 := Lib.hid (hb.on K0.out); have HB8 := Lib.hid hb8
  have b0 := B0.out.c0; have b1 := B0.out.c1
  clear h hb hb8
  show Calls Try.prog 5 #[.agg #[.int .i64 s, .slice A n c], .int .i64 p, .slice BA nb cb] w _
  go_enter Try.func5, Try.ntmps5
  go_wp2_with fail
  refine (few_any s A n c _).mono ?_
  rintro e w1 ⟨rfl, k1⟩
  have K1 := Lib.hid (K0.out.trans (k1.mono K0.out.size)); have B1 := Lib.hid (B0.out.on k1); have X1 := Lib.hid (X0.out.on k1); have Q1 := Lib.hid (Q0.out.on k1)
  clear k1 b0 b1
  have b0 := B1.out.c0; have b1 := B1.out.c1
  by_cases g : n ≤ 60
  · rw [show decide (n ≤ 60) = true from decide_eq_true g]
    by_cases g4 : (300 : Int) < (nb : Int) ∧ (nb : Int) ≠ 4097
    · obtain ⟨g5, g6⟩ := g4
      go_wp2_with fail
      refine (law_runs _).mono ?_
      rintro e w9 ⟨rfl, k9⟩
      have K9 := Lib.hid (K1.out.trans (k9.mono K1.out.size))
      go_wp2
      go_ret
      exact ⟨rfl, K9.out⟩
    · have hw : (nb : Int) ≤ 300 ∨ ((300 : Int) < (nb : Int) ∧ (nb : Int) = 4097) := by omega
      clear g4
      obtain ⟨z1, hz1⟩ : ∃ z, ((eo p (nb : Int)).isSome && decide (nb ≤ 4096) && may s L) = z := ⟨_, rfl⟩
      obtain ⟨s1, hs1⟩ : ∃ v, (if z1 = true then wsz s p nb else 0) = v := ⟨_, rfl⟩
      have Z1 := Lib.hid hz1; have S1 := Lib.hid hs1
      clear hz1 hs1
      rcases hw with hw | ⟨hw, hw'⟩
      all_goals
        go_wp2_with fail
        refine (write_any s A n c L p BA nb cb bs w1 X1.out (by omega) Q1.out HB8.out z1 Z1.out).mono ?_
        rintro e v1 ⟨A1, n1, c1, M1, rfl, hM1, x1, k1⟩
        rw [S1.out]
        have HM1 := Lib.hid hM1
        obtain ⟨W1, hW1⟩ : ∃ W, v1.alloc (.cells #[.int .i64 s1, .slice A1 n1 c1] 24) = W := ⟨_, rfl⟩
        have KW1 := Lib.hid (show Below v1.heap.size v1 W1 by rw [← hW1]; exact (Below.refl _ _).alloc (Nat.le_refl _) _)
        have KK1 := Lib.hid (k1.trans (KW1.out.mono k1.size))
        have Kn1 := Lib.hid (K1.out.trans (KK1.out.mono K1.out.size))
        have Bn1 := Lib.hid (B1.out.on KK1.out); have Xn1 := Lib.hid (X1.out.on KK1.out)
        have Qn1 := Lib.hid (Q1.out.on KK1.out)
        have D1 := Lib.hid (show Box W1 v1.heap.size s1 A1 n1 c1 by rw [← hW1]; exact box_new v1 s1 A1 n1 c1)
        have Y1 := Lib.hid (x1.on KW1.out)
        have HW1 := Lib.hid hW1
        clear hM1 x1 k1 hW1 b0 b1
        have b0 := Bn1.out.c0; have b1 := Bn1.out.c1
        have d10 := D1.out.c0; have d11 := D1.out.c1
        rw [← HW1.out] at b0 b1 d10 d11
        unfold ct
        go_wp2_with fail
        rw [HW1.out]
        refine (rwrite_any s A n c L p BA nb cb bs W1 Xn1.out (by omega) bp Qn1.out HB8.out z1 Z1.out).mono ?_
        rintro e v2 ⟨A2, n2, c2, M2, rfl, hM2, x2, k2⟩
        rw [S1.out]
        have HM2 := Lib.hid hM2
        obtain ⟨W2, hW2⟩ : ∃ W, v2.alloc (.cells #[.int .i64 s1, .slice A2 n2 c2] 24) = W := ⟨_, rfl⟩
        have KW2 := Lib.hid (show Below v2.heap.size v2 W2 by rw [← hW2]; exact (Below.refl _ _).alloc (Nat.le_refl _) _)
        have KK2 := Lib.hid (k2.trans (KW2.out.mono k2.size))
        have Kn2 := Lib.hid (Kn1.out.trans (KK2.out.mono Kn1.out.size))
        have Bn2 := Lib.hid (Bn1.out.on KK2.out); have Xn2 := Lib.hid (Xn1.out.on KK2.out)
        have Qn2 := Lib.hid (Qn1.out.on KK2.out)
        have D1 := Lib.hid (D1.out.on KK2.out); have Y1 := Lib.hid (Y1.out.on KK2.out)
        have D2 := Lib.hid (show Box W2 v2.heap.size s1 A2 n2 c2 by rw [← hW2]; exact box_new v2 s1 A2 n2 c2)
        have Y2 := Lib.hid (x2.on KW2.out)
        have HW2 := Lib.hid hW2
        clear hM2 x2 k2 hW2 b0 b1 d10 d11
        have b0 := Bn2.out.c0; have b1 := Bn2.out.c1
        have d10 := D1.out.c0; have d11 := D1.out.c1
        have d20 := D2.out.c0; have d21 := D2.out.c1
        rw [← HW2.out] at b0 b1 d10 d11 d20 d21
        unfold ct
        go_wp2_with fail
        rw [HW2.out]
        refine (rsame_any s1 A1 n1 c1 M1 s1 A2 n2 c2 M2 W2 Y1.out Y2.out true (by rw [wr_one HM1.out HM2.out]; simp)).mono ?_
        rintro e u0 ⟨rfl, j0⟩
        have J0 := Lib.hid (Kn2.out.trans (j0.mono Kn2.out.size))
        clear j0 b0 b1 d10 d11 d20 d21
        go_wp2_with fail
        refine (law_runs _).mono ?_
        rintro e w9 ⟨rfl, k9⟩
        have K9 := Lib.hid (J0.out.trans (k9.mono J0.out.size))
        go_wp2
        go_ret
        exact ⟨rfl, K9.out⟩
  · rw [show decide (n ≤ 60) = false from decide_eq_false g]
    go_wp2_with fail
    refine (law_runs _).mono ?_
    rintro e w9 ⟨rfl, k9⟩
    have K9 := Lib.hid (K1.out.trans (k9.mono K1.out.size))
    go_wp2
    go_ret
    exact ⟨rfl, K9.out⟩
theorem law_writes (s : Int) (A : Option Addr) (n c : Nat) (L : List Ex) (p : Int) (BA : Option Addr) (nb cb : Nat) (zs : List Int) (w : World) (h : Exts w A n c L) (hs : (Lit.int .i64 s).wf = true) (hp : (Lit.int .i64 p).wf = true) (hb : IsRow .u8 w BA nb cb zs) :
    Calls Try.prog 5 #[ct s A n c, .int .i64 p, .slice BA nb cb] w (TruthPost true w) :=
  writes_any s A n c L p BA nb cb (zs.take nb) w h hs hp hb.bytes.1 hb.bytes.2
end Go.Proofs.Ytigfimlpjmmpoaa
