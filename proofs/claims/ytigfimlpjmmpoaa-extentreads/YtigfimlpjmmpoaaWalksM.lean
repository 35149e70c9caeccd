/- Contract of extent's Allocate. -/
import Derived.Test.YtigfimlpjmmpoaaWalksL
import Derived.Test.YtigfimlpjmmpoaaWalksG
import Derived.WalkKit
import Derived.WalkSpells
import Derived.WalkLawsBesides
import Derived.Lib.Hide
import Derived.BigQuiet
namespace Go.Proofs.Ytigfimlpjmmpoaa
open Go.RowKit

def asz (s : Int) (p k : Int) (keep : Bool) : Int := if keep = true then s else max s (p + k)
def alo (L : List Ex) (p k : Int) : List Ex := fil L (p / 8) ((p + k - 1) / 8) ((p + k - 1) / 8 - p / 8 + 1).toNat

set_option maxRecDepth 100000 in
set_option maxHeartbeats 4000000 in
theorem alloc_any (s : Int) (A : Option Addr) (n c : Nat) (L : List Ex) (p k : Int) (keep : Bool) (w : World) (h : Exts w A n c L) (hn : n ≤ 10000) (z : Bool) (hz : ((eo p k).isSome && decide (1 ≤ k) && decide (k ≤ 32768) && may s L) = z) :
    Calls Try.prog 27 #[ct s A n c, .int .i64 p, .int .i64 k, .bool keep] w (CtPost z (if z = true then asz s p k keep else 0) (fun M => M = if z = true then alo L p k else []) w) := by
  have D0 := Lib.hid (duo_new w s A n c)
  have H := Lib.hid h
  have HZ := Lib.hid hz
  clear h hz
  show Calls Try.prog 27 #[.agg #[.int .i64 s, .slice A n c], .int .i64 p, .int .i64 k, .bool keep] w _
  go_enter Try.func27, Try.ntmps27
  go_wp2_with fail
  obtain ⟨d, hd⟩ : ∃ d, eo p k = d := ⟨_, rfl⟩
  have HD := Lib.hid hd
  clear hd
  refine (end_any p k _ d HD.out).mono ?_
  rintro e w1 ⟨rfl, k1⟩
  have D1 := Lib.hid (D0.out.on k1)
  clear k1 D0
  have c0 := D1.out.b0.c0; have c1 := D1.out.b0.c1; have d0 := D1.out.b1.c0; have d1 := D1.out.b1.c1; have f0 := D1.out.b1.f0; have f1 := D1.out.b1.f1
  cases d with
  | none =>
    have hzy : false = z := by rw [← HZ.out, HD.out]; rfl
    subst hzy
    simp only [Option.getD_none, Option.isSome_none]
    go_wp2
    refine res_box2 rfl (w.heap.size + 1) 0 none 0 0 rfl D1.out.none.1 rfl ?_
    exact ⟨none, 0, 0, [], rfl, rfl, D1.out.none.2.1, D1.out.none.2.2⟩
  | some t =>
    obtain ⟨p0, k0, rfl, t1⟩ := eo_some HD.out
    simp only [Option.getD_some, Option.isSome_some]
    by_cases q1 : 1 ≤ k
    · by_cases q2 : k ≤ 32768
      · go_wp2_with fail
        obtain ⟨y, hy⟩ : ∃ y, may s L = y := ⟨_, rfl⟩
        have HY := Lib.hid hy
        have HZY := Lib.hid (show y = z by rw [← HZ.out, HD.out, hy]; simp [q1, q2])
        clear hy
        refine (may_any s A n c L _ (H.out.on D1.out.below) y HY.out).mono ?_
        rintro e w2 ⟨rfl, k2⟩
        have D2 := Lib.hid (D1.out.on k2)
        clear k2 c0 c1 d0 d1 f0 f1 D1
        have c0 := D2.out.b0.c0; have c1 := D2.out.b0.c1; have d0 := D2.out.b1.c0; have d1 := D2.out.b1.c1; have f0 := D2.out.b1.f0; have f1 := D2.out.b1.f1
        have hzy := HZY.out
        subst hzy
        cases y with
        | false =>
          go_wp2
          refine res_box2 rfl (w.heap.size + 1) 0 none 0 0 rfl D2.out.none.1 rfl ?_
          exact ⟨none, 0, 0, [], rfl, rfl, D2.out.none.2.1, D2.out.none.2.2⟩
        | true =>
          have HG := Lib.hid ((may_iff s L).1 HY.out)
          obtain ⟨M, hM⟩ : ∃ M, alo L p k = M := ⟨_, rfl⟩
          have HMM := Lib.hid hM
          have CF := Lib.hid (fun W hW => filled_any A n c L p (p + k) W (H.out.on hW) HG.out.up hn p0 (by omega) t1 (p / 8) ((p + k - 1) / 8) ((p + k - 1) / 8 - p / 8 + 1).toNat rfl rfl (by omega) (by omega) M hM)
          clear hM
          have hs0 := HG.out.s0; have hs1 := HG.out.s1
          cases keep with
          | true =>
            have HV := Lib.hid (show asz s p k true = s by simp [asz])
            by_cases g : s < p + k
            · go_wp2_with fail
              refine (CF.out _ D2.out.below).mono ?_
              rintro e w3 ⟨A', c', rfl, hm, k3⟩
              have D3 := Lib.hid (D2.out.on k3); have HM3 := Lib.hid hm
              clear k3 hm c0 c1 d0 d1 f0 f1
              have c0 := D3.out.b0.c0; have c1 := D3.out.b0.c1; have d0 := D3.out.b1.c0; have d1 := D3.out.b1.c1; have f0 := D3.out.b1.f0; have f1 := D3.out.b1.f1
              go_wp2
              all_goals
                have X := D3.out.done s HM3.out D2.out.size
                refine res_box2 rfl (w.heap.size + 1) s A' _ c' rfl X.1 rfl ?_
                exact ⟨A', _, c', M, by rw [HV.out]; rfl, by first | (rw [HMM.out]; done) | (rw [HMM.out]; rfl), X.2.1, X.2.2⟩
            · have g' : p + k ≤ s := by omega
              go_wp2_with fail
              refine (CF.out _ D2.out.below).mono ?_
              rintro e w3 ⟨A', c', rfl, hm, k3⟩
              have D3 := Lib.hid (D2.out.on k3); have HM3 := Lib.hid hm
              clear k3 hm c0 c1 d0 d1 f0 f1
              have c0 := D3.out.b0.c0; have c1 := D3.out.b0.c1; have d0 := D3.out.b1.c0; have d1 := D3.out.b1.c1; have f0 := D3.out.b1.f0; have f1 := D3.out.b1.f1
              go_wp2
              all_goals
                have X := D3.out.done s HM3.out D2.out.size
                refine res_box2 rfl (w.heap.size + 1) s A' _ c' rfl X.1 rfl ?_
                exact ⟨A', _, c', M, by rw [HV.out]; rfl, by first | (rw [HMM.out]; done) | (rw [HMM.out]; rfl), X.2.1, X.2.2⟩
          | false =>
            by_cases g : s < p + k
            · have HV := Lib.hid (show asz s p k false = p + k by simp [asz]; omega)
              go_wp2_with fail
              refine (CF.out _ D2.out.below).mono ?_
              rintro e w3 ⟨A', c', rfl, hm, k3⟩
              have D3 := Lib.hid (D2.out.on k3); have HM3 := Lib.hid hm
              clear k3 hm c0 c1 d0 d1 f0 f1
              have c0 := D3.out.b0.c0; have c1 := D3.out.b0.c1; have d0 := D3.out.b1.c0; have d1 := D3.out.b1.c1; have f0 := D3.out.b1.f0; have f1 := D3.out.b1.f1
              go_wp2
              all_goals
                have X := D3.out.done (p + k) HM3.out D2.out.size
                refine res_box2 rfl (w.heap.size + 1) (p + k) A' _ c' rfl X.1 rfl ?_
                exact ⟨A', _, c', M, by rw [HV.out]; rfl, by first | (rw [HMM.out]; done) | (rw [HMM.out]; rfl), X.2.1, X.2.2⟩
            · have g' : p + k ≤ s := by omega
              have HV := Lib.hid (show asz s p k false = s by simp [asz]; omega)
              go_wp2_with fail
              refine (CF.out _ D2.out.below).mono ?_
              rintro e w3 ⟨A', c', rfl, hm, k3⟩
              have D3 := Lib.hid (D2.out.on k3); have HM3 := Lib.hid hm
              clear k3 hm c0 c1 d0 d1 f0 f1
              have c0 := D3.out.b0.c0; have c1 := D3.out.b0.c1; have d0 := D3.out.b1.c0; have d1 := D3.out.b1.c1; have f0 := D3.out.b1.f0; have f1 := D3.out.b1.f1
              go_wp2
              all_goals
                have X := D3.out.done s HM3.out D2.out.size
                refine res_box2 rfl (w.heap.size + 1) s A' _ c' rfl X.1 rfl ?_
                exact ⟨A', _, c', M, by rw [HV.out]; rfl, by first | (rw [HMM.out]; done) | (rw [HMM.out]; rfl), X.2.1, X.2.2⟩
      · have hzy : false = z := by rw [← HZ.out]; simp [q2]
        subst hzy
        go_wp2
        refine res_box2 rfl (w.heap.size + 1) 0 none 0 0 rfl D1.out.none.1 rfl ?_
        exact ⟨none, 0, 0, [], rfl, rfl, D1.out.none.2.1, D1.out.none.2.2⟩
    · have hzy : false = z := by rw [← HZ.out]; simp [q1]
      subst hzy
      go_wp2
      refine res_box2 rfl (w.heap.size + 1) 0 none 0 0 rfl D1.out.none.1 rfl ?_
      exact ⟨none, 0, 0, [], rfl, rfl, D1.out.none.2.1, D1.out.none.2.2⟩
end Go.Proofs.Ytigfimlpjmmpoaa
