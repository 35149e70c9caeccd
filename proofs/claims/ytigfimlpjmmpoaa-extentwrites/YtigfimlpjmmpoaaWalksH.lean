/- Contract of extent's Punch. -/
import Derived.Test.YtigfimlpjmmpoaaWalksG
import Derived.WalkKit
import Derived.WalkSpells
import Derived.WalkLawsBesides
import Derived.Lib.Hide
import Derived.BigQuiet
import Derived.Deep.RegionWith
namespace Go.Proofs.Ytigfimlpjmmpoaa
open Go.RowKit

set_option maxRecDepth 100000 in
set_option maxHeartbeats 800000 in
theorem punch_any (s : Int) (A : Option Addr) (n c : Nat) (L : List Ex) (p k : Int) (w : World) (h : Exts w A n c L) (hn : n ≤ 1000000) (z : Bool) (hz : ((eo p k).isSome && decide (1 ≤ k) && may s L) = z) :
    Calls Try.prog 29 #[ct s A n c, .int .i64 p, .int .i64 k] w (CtPost z (if z = true then s else 0) (fun M => M = if z = true then wo L p (p + k) else []) w) := by
  have D0 := Lib.hid (duo_new w s A n c)
  have H := Lib.hid h
  have HZ := Lib.hid hz
  clear h hz
  show Calls Try.prog 29 #[.agg #[.int .i64 s, .slice A n c], .int .i64 p, .int .i64 k] w _
  go_enter Try.func29, Try.ntmps29
  go_wp2_with fail
  obtain ⟨d, hd⟩ : ∃ d, eo p k = d := ⟨_, rfl⟩
  have HD := Lib.hid hd
  clear hd
  refine (end_any p k _ d HD.out).mono ?_
  rintro e w1 ⟨rfl, k1⟩
  have D1 := Lib.hid (D0.out.on k1)
  clear k1 D0
  have c0 := D1.out.b0.c0; have c1 := D1.out.b0.c1; have d0 := D1.out.b1.c0; have d1 := D1.out.b1.c1; have f0 := D1.out.b1.f0; have f1 := D1.out.b1.f1
  cases d with
  | none =>
    have hzy : false = z := by rw [← HZ.out, HD.out]; rfl
    subst hzy
    simp only [Option.getD_none, Option.isSome_none]
    go_wp2
    refine res_box2 rfl (w.heap.size + 1) 0 none 0 0 rfl D1.out.none.1 rfl ?_
    exact ⟨none, 0, 0, [], rfl, rfl, D1.out.none.2.1, D1.out.none.2.2⟩
  | some t =>
    obtain ⟨p0, k0, rfl, t1⟩ := eo_some HD.out
    simp only [Option.getD_some, Option.isSome_some]
    by_cases q1 : 1 ≤ k
    · go_wp2_with fail
      obtain ⟨y, hy⟩ : ∃ y, may s L = y := ⟨_, rfl⟩
      have HY := Lib.hid hy
      have HZY := Lib.hid (show y = z by rw [← HZ.out, HD.out, hy]; simp [q1])
      clear hy
      refine (may_any s A n c L _ (H.out.on D1.out.below) y HY.out).mono ?_
      rintro e w2 ⟨rfl, k2⟩
      have D2 := Lib.hid (D1.out.on k2)
      clear k2 c0 c1 d0 d1 f0 f1 D1
      have c0 := D2.out.b0.c0; have c1 := D2.out.b0.c1; have d0 := D2.out.b1.c0; have d1 := D2.out.b1.c1; have f0 := D2.out.b1.f0; have f1 := D2.out.b1.f1
      have hzy := HZY.out
      subst hzy
      cases y with
      | false =>
        go_wp2
        refine res_box2 rfl (w.heap.size + 1) 0 none 0 0 rfl D2.out.none.1 rfl ?_
        exact ⟨none, 0, 0, [], rfl, rfl, D2.out.none.2.1, D2.out.none.2.2⟩
      | true =>
        have HG := Lib.hid ((may_iff s L).1 HY.out)
        go_wp2
        have hpk : p ≤ p + k := by omega
        have DD := Lib.hid (D2.out.on (Below.refl _ _).drew)
        go_region_with (go_at_call 43; refine (without_any A n c L p (p + k) _ (H.out.on DD.out.below) hn HG.out.rng p0 hpk t1).mono ?_; rintro e w3 ⟨A', c', rfl, hm, k3⟩; have D3 := Lib.hid (DD.out.on k3); have HM := Lib.hid hm; have g0 := D3.out.b0.c0; have g1 := D3.out.b0.c1; have i0 := D3.out.b1.c0; have i1 := D3.out.b1.c1; have j0 := D3.out.b1.f0; have j1 := D3.out.b1.f1; clear k3 hm)
        all_goals
          go_wp2
          have X := D3.out.done s HM.out DD.out.size
          refine res_box2 rfl (w.heap.size + 1) s A' _ c' rfl X.1 rfl ?_
          exact ⟨A', _, c', wo L p (p + k), rfl, rfl, X.2.1, X.2.2⟩
    · have hzy : false = z := by rw [← HZ.out]; simp [q1]
      subst hzy
      go_wp2
      refine res_box2 rfl (w.heap.size + 1) 0 none 0 0 rfl D1.out.none.1 rfl ?_
      exact ⟨none, 0, 0, [], rfl, rfl, D1.out.none.2.1, D1.out.none.2.2⟩
end Go.Proofs.Ytigfimlpjmmpoaa
