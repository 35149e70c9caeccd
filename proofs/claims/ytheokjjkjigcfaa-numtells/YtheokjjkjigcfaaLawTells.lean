/- The walk of the law NumTells. -/
import Derived.Test.YtheokjjkjigcfaaRead
import Derived.Test.YtheokjjkjigcfaaWalksJ
import Derived.Test.YtheokjjkjigcfaaWalksR
import Derived.WalkKit
import Derived.WalkSpells
import Derived.WalkLawsBesides
import Derived.Lib.Hide
namespace Go.Proofs.Ytheokjjkjigcfaa
open Go.RowKit

set_option maxRecDepth 100000 in
set_option maxHeartbeats 4000000 in
theorem tells_walk (n : Int) (s : ByteArray) (w : World) (wn : (Lit.int .i64 n).wf = true) (hs : s.size ≤ maxLen) :
    Calls Try.prog 4 #[.int .i64 n, .string s] w fun e w' => e = .returned (.bool true) ∧ Below w.heap.size w w' := by
  obtain ⟨n0, n1⟩ := i64_bounds wn
  clear wn
  have HS := Lib.hid hs
  unfold maxLen at hs
  by_cases h2 : s.size ≤ 200
  · go_enter Try.func4, Try.ntmps4
    go_wp2_with fail
    refine (getDec_any s _ HS.out).mono ?_
    rintro e w1 ⟨rfl, rfl⟩
    go_wp2_with fail
    refine (rgetDec_any s _ HS.out).mono ?_
    rintro e w1 ⟨rfl, rfl⟩
    generalize Plain.getDecS s.data.toList = o1
    go_wp2_with fail
    refine (getHex_any s _ HS.out).mono ?_
    rintro e w1 ⟨rfl, rfl⟩
    go_wp2_with fail
    refine (rgetHex_any s _ HS.out).mono ?_
    rintro e w1 ⟨rfl, rfl⟩
    generalize Plain.getHexS s.data.toList = o2
    go_wp2_with fail
    refine (get_any s _ (by omega)).mono ?_
    rintro e w1 ⟨rfl, k1⟩
    go_wp2_with fail
    refine (rget_any s _ (by omega)).mono ?_
    rintro e w2 ⟨rfl, k2⟩
    have k2 := k1.trans (k2.mono k1.size)
    clear k1
    generalize Plain.getS s.data.toList = o3
    go_wp2_with fail
    refine (dec_any n _ n0 n1).mono ?_
    rintro e w3 ⟨rfl, k3⟩
    have k3 := k2.trans (k3.mono k2.size)
    clear k2
    go_wp2_with fail
    refine (rdec_any n _ n0 n1).mono ?_
    rintro e w4 ⟨rfl, rfl⟩
    generalize Plain.bs (Plain.decL n) = t1
    go_wp2_with fail
    refine (hex_any n _ n1).mono ?_
    rintro e w4 ⟨rfl, k4⟩
    have k4 := k3.trans (k4.mono k3.size)
    clear k3
    go_wp2_with fail
    refine (rhex_any n _ n1).mono ?_
    rintro e w5 ⟨rfl, rfl⟩
    generalize Plain.bs (Plain.hexL n) = t2
    go_wp2_with fail
    refine (runs_any _).mono ?_
    rintro e w5 ⟨rfl, k5⟩
    have k5 := k4.trans (k5.mono k4.size)
    clear k4
    go_wp2
    go_ret
    exact ⟨by simp, k5⟩
  · go_enter Try.func4, Try.ntmps4
    go_wp2_with fail
    refine (runs_any _).mono ?_
    rintro e w5 ⟨rfl, k5⟩
    go_wp2
    go_ret
    exact ⟨rfl, k5⟩

end Go.Proofs.Ytheokjjkjigcfaa
