/- Contract of the law ExtentChanges. -/
import Derived.Test.YtigfimlpjmmpoaaLawR
import Derived.Test.YtigfimlpjmmpoaaRefF
import Derived.Test.YtigfimlpjmmpoaaRefW
import Derived.Test.YtigfimlpjmmpoaaWalksH
import Derived.Test.YtigfimlpjmmpoaaWalksC
import Derived.WalkKit
import Derived.WalkSpells
import Derived.WalkLawsBesides
import Derived.Lib.Hide
import Derived.BigQuiet
import Derived.OpenShut
namespace Go.Proofs.Ytigfimlpjmmpoaa
open Go.RowKit

set_option maxRecDepth 100000 in
set_option maxHeartbeats 8000000 in
theorem law_changes (s : Int) (A : Option Addr) (n c : Nat) (L : List Ex) (p m t : Int) (keep : Bool) (w : World) (h : Exts w A n c L) (_ : (Lit.int .i64 s).wf = true) (hp : (Lit.int .i64 p).wf = true) (hm : (Lit.int .i64 m).wf = true) (_ : (Lit.int .i64 t).wf = true) :
    Calls Try.prog 6 #[ct s A n c, .int .i64 p, .int .i64 m, .int .i64 t, .bool keep] w (TruthPost true w) := by
  have bp := bounds_i64 hp
  have bm := bounds_i64 hm
  clear hp hm
  have K0 := Lib.hid (show Below w.heap.size w (w.alloc (.cells #[.int .i64 s, .slice A n c] 24)) from (Below.refl _ _).alloc (Nat.le_refl _) _)
  have B0 := Lib.hid (box_new w s A n c)
  have X0 := Lib.hid (h.on K0.out)
  have b0 := B0.out.c0; have b1 := B0.out.c1
  clear h
  show Calls Try.prog 6 #[.agg #[.int .i64 s, .slice A n c], .int .i64 p, .int .i64 m, .int .i64 t, .bool keep] w _
  go_enter Try.func6, Try.ntmps6
  go_wp2_with fail
  refine (few_any s A n c _).mono ?_
  rintro e w1 ⟨rfl, k1⟩
  have K1 := Lib.hid (K0.out.trans (k1.mono K0.out.size)); have B1 := Lib.hid (B0.out.on k1); have X1 := Lib.hid (X0.out.on k1)
  clear k1 b0 b1
  have b0 := B1.out.c0; have b1 := B1.out.c1
  by_cases g : n ≤ 60
  · rw [show decide (n ≤ 60) = true from decide_eq_true g]
    by_cases g4 : 400 < m ∧ m ≤ 32768
    · obtain ⟨g5, g6⟩ := g4
      go_wp2_with fail
      refine (law_runs _).mono ?_
      rintro e w9 ⟨rfl, k9⟩
      have K9 := Lib.hid (K1.out.trans (k9.mono K1.out.size))
      go_wp2
      go_ret
      exact ⟨rfl, K9.out⟩
    · have hw : m ≤ 400 ∨ (400 < m ∧ 32768 < m) := by omega
      clear g4
      obtain ⟨z1, hz1⟩ : ∃ z, (decide (0 ≤ t) && decide (t ≤ 1099511627776) && may s L) = z := ⟨_, rfl⟩
      obtain ⟨s1, hs1⟩ : ∃ v, (if z1 = true then t else 0) = v := ⟨_, rfl⟩
      obtain ⟨z2, hz2⟩ : ∃ z, ((eo p m).isSome && decide (1 ≤ m) && decide (m ≤ 32768) && may s L) = z := ⟨_, rfl⟩
      obtain ⟨s2, hs2⟩ : ∃ v, (if z2 = true then asz s p m keep else 0) = v := ⟨_, rfl⟩
      obtain ⟨z3, hz3⟩ : ∃ z, ((eo p m).isSome && decide (1 ≤ m) && may s L) = z := ⟨_, rfl⟩
      obtain ⟨s3, hs3⟩ : ∃ v, (if z3 = true then s else 0) = v := ⟨_, rfl⟩
      have Z1 := Lib.hid hz1; have Z2 := Lib.hid hz2; have Z3 := Lib.hid hz3; have S1 := Lib.hid hs1; have S2 := Lib.hid hs2; have S3 := Lib.hid hs3
      clear hz1 hz2 hz3 hs1 hs2 hs3
      rcases hw with hw | ⟨hw, hw'⟩
      all_goals
        go_wp2_with fail
        refine (trunc_any s A n c L t w1 X1.out (by omega) z1 Z1.out).mono ?_
        rintro e v1 ⟨A1, n1, c1, M1, rfl, hM1, x1, k1⟩
        rw [S1.out]
        have HM1 := Lib.hid hM1
        obtain ⟨W1, hW1⟩ : ∃ W, v1.alloc (.cells #[.int .i64 s1, .slice A1 n1 c1] 24) = W := ⟨_, rfl⟩
        have KW1 := Lib.hid (show Below v1.heap.size v1 W1 by rw [← hW1]; exact (Below.refl _ _).alloc (Nat.le_refl _) _)
        have KK1 := Lib.hid (k1.trans (KW1.out.mono k1.size))
        have Kn1 := Lib.hid (K1.out.trans (KK1.out.mono K1.out.size))
        have Bn1 := Lib.hid (B1.out.on KK1.out); have Xn1 := Lib.hid (X1.out.on KK1.out)
        have D1 := Lib.hid (show Box W1 v1.heap.size s1 A1 n1 c1 by rw [← hW1]; exact box_new v1 s1 A1 n1 c1)
        have Y1 := Lib.hid (x1.on KW1.out)
        have HW1 := Lib.hid hW1
        clear hM1 x1 k1 hW1 b0 b1
        have b0 := Bn1.out.c0; have b1 := Bn1.out.c1
        have d10 := D1.out.c0; have d11 := D1.out.c1
        rw [← HW1.out] at b0 b1 d10 d11
        unfold ct
        go_wp2_with fail
        rw [HW1.out]
        refine (rtrunc_any s A n c L t W1 Xn1.out (by omega) z1 Z1.out).mono ?_
        rintro e v2 ⟨A2, n2, c2, M2, rfl, hM2, x2, k2⟩
        rw [S1.out]
        have HM2 := Lib.hid hM2
        obtain ⟨W2, hW2⟩ : ∃ W, v2.alloc (.cells #[.int .i64 s1, .slice A2 n2 c2] 24) = W := ⟨_, rfl⟩
        have KW2 := Lib.hid (show Below v2.heap.size v2 W2 by rw [← hW2]; exact (Below.refl _ _).alloc (Nat.le_refl _) _)
        have KK2 := Lib.hid (k2.trans (KW2.out.mono k2.size))
        have Kn2 := Lib.hid (Kn1.out.trans (KK2.out.mono Kn1.out.size))
        have Bn2 := Lib.hid (Bn1.out.on KK2.out); have Xn2 := Lib.hid (Xn1.out.on KK2.out)
        have D1 := Lib.hid (D1.out.on KK2.out); have Y1 := Lib.hid (Y1.out.on KK2.out)
        have D2 := Lib.hid (show Box W2 v2.heap.size s1 A2 n2 c2 by rw [← hW2]; exact box_new v2 s1 A2 n2 c2)
        have Y2 := Lib.hid (x2.on KW2.out)
        have HW2 := Lib.hid hW2
        clear hM2 x2 k2 hW2 b0 b1 d10 d11
        have b0 := Bn2.out.c0; have b1 := Bn2.out.c1
        have d10 := D1.out.c0; have d11 := D1.out.c1
        have d20 := D2.out.c0; have d21 := D2.out.c1
        rw [← HW2.out] at b0 b1 d10 d11 d20 d21
        unfold ct
        go_wp2_with fail
        rw [HW2.out]
        refine (alloc_any s A n c L p m keep W2 Xn2.out (by omega) z2 Z2.out).mono ?_
        rintro e v3 ⟨A3, n3, c3, M3, rfl, hM3, x3, k3⟩
        rw [S2.out]
        have HM3 := Lib.hid hM3
        obtain ⟨W3, hW3⟩ : ∃ W, v3.alloc (.cells #[.int .i64 s2, .slice A3 n3 c3] 24) = W := ⟨_, rfl⟩
        have KW3 := Lib.hid (show Below v3.heap.size v3 W3 by rw [← hW3]; exact (Below.refl _ _).alloc (Nat.le_refl _) _)
        have KK3 := Lib.hid (k3.trans (KW3.out.mono k3.size))
        have Kn3 := Lib.hid (Kn2.out.trans (KK3.out.mono Kn2.out.size))
        have Bn3 := Lib.hid (Bn2.out.on KK3.out); have Xn3 := Lib.hid (Xn2.out.on KK3.out)
        have D1 := Lib.hid (D1.out.on KK3.out); have Y1 := Lib.hid (Y1.out.on KK3.out)
        have D2 := Lib.hid (D2.out.on KK3.out); have Y2 := Lib.hid (Y2.out.on KK3.out)
        have D3 := Lib.hid (show Box W3 v3.heap.size s2 A3 n3 c3 by rw [← hW3]; exact box_new v3 s2 A3 n3 c3)
        have Y3 := Lib.hid (x3.on KW3.out)
        have HW3 := Lib.hid hW3
        clear hM3 x3 k3 hW3 b0 b1 d10 d11 d20 d21
        have b0 := Bn3.out.c0; have b1 := Bn3.out.c1
        have d10 := D1.out.c0; have d11 := D1.out.c1
        have d20 := D2.out.c0; have d21 := D2.out.c1
        have d30 := D3.out.c0; have d31 := D3.out.c1
        rw [← HW3.out] at b0 b1 d10 d11 d20 d21 d30 d31
        unfold ct
        go_wp2_with fail
        rw [HW3.out]
        refine (ralloc_any s A n c L p m keep W3 Xn3.out (by omega) bp bm z2 Z2.out).mono ?_
        rintro e v4 ⟨A4, n4, c4, M4, rfl, hM4, x4, k4⟩
        rw [S2.out]
        have HM4 := Lib.hid hM4
        obtain ⟨W4, hW4⟩ : ∃ W, v4.alloc (.cells #[.int .i64 s2, .slice A4 n4 c4] 24) = W := ⟨_, rfl⟩
        have KW4 := Lib.hid (show Below v4.heap.size v4 W4 by rw [← hW4]; exact (Below.refl _ _).alloc (Nat.le_refl _) _)
        have KK4 := Lib.hid (k4.trans (KW4.out.mono k4.size))
        have Kn4 := Lib.hid (Kn3.out.trans (KK4.out.mono Kn3.out.size))
        have Bn4 := Lib.hid (Bn3.out.on KK4.out); have Xn4 := Lib.hid (Xn3.out.on KK4.out)
        have D1 := Lib.hid (D1.out.on KK4.out); have Y1 := Lib.hid (Y1.out.on KK4.out)
        have D2 := Lib.hid (D2.out.on KK4.out); have Y2 := Lib.hid (Y2.out.on KK4.out)
        have D3 := Lib.hid (D3.out.on KK4.out); have Y3 := Lib.hid (Y3.out.on KK4.out)
        have D4 := Lib.hid (show Box W4 v4.heap.size s2 A4 n4 c4 by rw [← hW4]; exact box_new v4 s2 A4 n4 c4)
        have Y4 := Lib.hid (x4.on KW4.out)
        have HW4 := Lib.hid hW4
        clear hM4 x4 k4 hW4 b0 b1 d10 d11 d20 d21 d30 d31
        have b0 := Bn4.out.c0; have b1 := Bn4.out.c1
        have d10 := D1.out.c0; have d11 := D1.out.c1
        have d20 := D2.out.c0; have d21 := D2.out.c1
        have d30 := D3.out.c0; have d31 := D3.out.c1
        have d40 := D4.out.c0; have d41 := D4.out.c1
        rw [← HW4.out] at b0 b1 d10 d11 d20 d21 d30 d31 d40 d41
        unfold ct
        go_wp2_with fail
        rw [HW4.out]
        refine (punch_any s A n c L p m W4 Xn4.out (by omega) z3 Z3.out).mono ?_
        rintro e v5 ⟨A5, n5, c5, M5, rfl, hM5, x5, k5⟩
        rw [S3.out]
        have HM5 := Lib.hid hM5
        obtain ⟨W5, hW5⟩ : ∃ W, v5.alloc (.cells #[.int .i64 s3, .slice A5 n5 c5] 24) = W := ⟨_, rfl⟩
        have KW5 := Lib.hid (show Below v5.heap.size v5 W5 by rw [← hW5]; exact (Below.refl _ _).alloc (Nat.le_refl _) _)
        have KK5 := Lib.hid (k5.trans (KW5.out.mono k5.size))
        have Kn5 := Lib.hid (Kn4.out.trans (KK5.out.mono Kn4.out.size))
        have Bn5 := Lib.hid (Bn4.out.on KK5.out); have Xn5 := Lib.hid (Xn4.out.on KK5.out)
        have D1 := Lib.hid (D1.out.on KK5.out); have Y1 := Lib.hid (Y1.out.on KK5.out)
        have D2 := Lib.hid (D2.out.on KK5.out); have Y2 := Lib.hid (Y2.out.on KK5.out)
        have D3 := Lib.hid (D3.out.on KK5.out); have Y3 := Lib.hid (Y3.out.on KK5.out)
        have D4 := Lib.hid (D4.out.on KK5.out); have Y4 := Lib.hid (Y4.out.on KK5.out)
        have D5 := Lib.hid (show Box W5 v5.heap.size s3 A5 n5 c5 by rw [← hW5]; exact box_new v5 s3 A5 n5 c5)
        have Y5 := Lib.hid (x5.on KW5.out)
        have HW5 := Lib.hid hW5
        clear hM5 x5 k5 hW5 b0 b1 d10 d11 d20 d21 d30 d31 d40 d41
        have b0 := Bn5.out.c0; have b1 := Bn5.out.c1
        have d10 := D1.out.c0; have d11 := D1.out.c1
        have d20 := D2.out.c0; have d21 := D2.out.c1
        have d30 := D3.out.c0; have d31 := D3.out.c1
        have d40 := D4.out.c0; have d41 := D4.out.c1
        have d50 := D5.out.c0; have d51 := D5.out.c1
        rw [← HW5.out] at b0 b1 d10 d11 d20 d21 d30 d31 d40 d41 d50 d51
        unfold ct
        go_wp2_with fail
        rw [HW5.out]
        refine (rpunch_any s A n c L p m W5 Xn5.out (by omega) bp bm z3 Z3.out).mono ?_
        rintro e v6 ⟨A6, n6, c6, M6, rfl, hM6, x6, k6⟩
        rw [S3.out]
        have HM6 := Lib.hid hM6
        obtain ⟨W6, hW6⟩ : ∃ W, v6.alloc (.cells #[.int .i64 s3, .slice A6 n6 c6] 24) = W := ⟨_, rfl⟩
        have KW6 := Lib.hid (show Below v6.heap.size v6 W6 by rw [← hW6]; exact (Below.refl _ _).alloc (Nat.le_refl _) _)
        have KK6 := Lib.hid (k6.trans (KW6.out.mono k6.size))
        have Kn6 := Lib.hid (Kn5.out.trans (KK6.out.mono Kn5.out.size))
        have Bn6 := Lib.hid (Bn5.out.on KK6.out); have Xn6 := Lib.hid (Xn5.out.on KK6.out)
        have D1 := Lib.hid (D1.out.on KK6.out); have Y1 := Lib.hid (Y1.out.on KK6.out)
        have D2 := Lib.hid (D2.out.on KK6.out); have Y2 := Lib.hid (Y2.out.on KK6.out)
        have D3 := Lib.hid (D3.out.on KK6.out); have Y3 := Lib.hid (Y3.out.on KK6.out)
        have D4 := Lib.hid (D4.out.on KK6.out); have Y4 := Lib.hid (Y4.out.on KK6.out)
        have D5 := Lib.hid (D5.out.on KK6.out); have Y5 := Lib.hid (Y5.out.on KK6.out)
        have D6 := Lib.hid (show Box W6 v6.heap.size s3 A6 n6 c6 by rw [← hW6]; exact box_new v6 s3 A6 n6 c6)
        have Y6 := Lib.hid (x6.on KW6.out)
        have HW6 := Lib.hid hW6
        clear hM6 x6 k6 hW6 b0 b1 d10 d11 d20 d21 d30 d31 d40 d41 d50 d51
        have b0 := Bn6.out.c0; have b1 := Bn6.out.c1
        have d10 := D1.out.c0; have d11 := D1.out.c1
        have d20 := D2.out.c0; have d21 := D2.out.c1
        have d30 := D3.out.c0; have d31 := D3.out.c1
        have d40 := D4.out.c0; have d41 := D4.out.c1
        have d50 := D5.out.c0; have d51 := D5.out.c1
        have d60 := D6.out.c0; have d61 := D6.out.c1
        rw [← HW6.out] at b0 b1 d10 d11 d20 d21 d30 d31 d40 d41 d50 d51 d60 d61
        unfold ct
        go_wp2_with fail
        rw [HW6.out]
        refine (rsame_any s1 A1 n1 c1 M1 s1 A2 n2 c2 M2 W6 Y1.out Y2.out true (by rw [HM1.out, HM2.out]; simp)).mono ?_
        rintro e u0 ⟨rfl, j0⟩
        have J0 := Lib.hid (Kn6.out.trans (j0.mono Kn6.out.size))
        have D3 := Lib.hid (D3.out.on j0); have Y3 := Lib.hid (Y3.out.on j0)
        have D4 := Lib.hid (D4.out.on j0); have Y4 := Lib.hid (Y4.out.on j0)
        have D5 := Lib.hid (D5.out.on j0); have Y5 := Lib.hid (Y5.out.on j0)
        have D6 := Lib.hid (D6.out.on j0); have Y6 := Lib.hid (Y6.out.on j0)
        clear j0 b0 b1 d10 d11 d20 d21 d30 d31 d40 d41 d50 d51 d60 d61
        have d30 := D3.out.c0; have d31 := D3.out.c1
        have d40 := D4.out.c0; have d41 := D4.out.c1
        have d50 := D5.out.c0; have d51 := D5.out.c1
        have d60 := D6.out.c0; have d61 := D6.out.c1
        go_wp2_with fail
        refine (rsame_any s2 A3 n3 c3 M3 s2 A4 n4 c4 M4 u0 Y3.out Y4.out true (by rw [HM3.out, HM4.out]; simp)).mono ?_
        rintro e u1 ⟨rfl, j1⟩
        have J1 := Lib.hid (J0.out.trans (j1.mono J0.out.size))
        have D5 := Lib.hid (D5.out.on j1); have Y5 := Lib.hid (Y5.out.on j1)
        have D6 := Lib.hid (D6.out.on j1); have Y6 := Lib.hid (Y6.out.on j1)
        clear j1 d30 d31 d40 d41 d50 d51 d60 d61
        have d50 := D5.out.c0; have d51 := D5.out.c1
        have d60 := D6.out.c0; have d61 := D6.out.c1
        go_wp2_with fail
        refine (rsame_any s3 A5 n5 c5 M5 s3 A6 n6 c6 M6 u1 Y5.out Y6.out true (by rw [HM5.out, HM6.out]; simp)).mono ?_
        rintro e u2 ⟨rfl, j2⟩
        have J2 := Lib.hid (J1.out.trans (j2.mono J1.out.size))
        clear j2 d50 d51 d60 d61
        go_wp2_with fail
        refine (law_runs _).mono ?_
        rintro e w9 ⟨rfl, k9⟩
        have K9 := Lib.hid (J2.out.trans (k9.mono J2.out.size))
        go_wp2
        go_ret
        exact ⟨rfl, K9.out⟩
  · rw [show decide (n ≤ 60) = false from decide_eq_false g]
    go_wp2_with fail
    refine (law_runs _).mono ?_
    rintro e w9 ⟨rfl, k9⟩
    have K9 := Lib.hid (K1.out.trans (k9.mono K1.out.size))
    go_wp2
    go_ret
    exact ⟨rfl, K9.out⟩
end Go.Proofs.Ytigfimlpjmmpoaa
