/- The walk of the law NumBack. -/
import Derived.Test.YtheokjjkjigcfaaRead
import Derived.Test.YtheokjjkjigcfaaPlainB
import Derived.Test.YtheokjjkjigcfaaWalksR
import Derived.WalkKit
import Derived.WalkSpells
import Derived.WalkLawsBesides
import Derived.Lib.Hide
namespace Go.Proofs.Ytheokjjkjigcfaa
open Go.RowKit

set_option maxRecDepth 100000 in
set_option maxHeartbeats 4000000 in
theorem back_walk (n : Int) (w : World) (wn : (Lit.int .i64 n).wf = true) :
    Calls Try.prog 5 #[.int .i64 n] w fun e w' => e = .returned (.bool true) ∧ Below w.heap.size w w' := by
  obtain ⟨n0, n1⟩ := i64_bounds wn
  clear wn
  have B1 := Lib.hid (Plain.getDec_back n n1)
  have B2 := Lib.hid (Plain.getHex_back n n1)
  have B3 := Lib.hid (Plain.get_back n n1)
  have L1 := Lib.hid (show (Plain.bs (Plain.decL n)).size ≤ 21 by rw [Plain.bs_size]; exact (Plain.decL_len n n0 n1).2)
  have L2 := Lib.hid (show (Plain.bs (Plain.hexL n)).size ≤ 21 by rw [Plain.bs_size]; exact (Plain.hexL_len n n1).1)
  have L3 := Lib.hid (show 0 ≤ n → 10 ≤ (Plain.bs (Plain.hexL n)).size by rw [Plain.bs_size]; exact (Plain.hexL_len n n1).2)
  by_cases hm : 0 ≤ n ∧ n ≤ 4611686018427387904
  · have E1 := Lib.hid (show Plain.back n = some n.toNat by rw [Plain.back, if_pos hm])
    have E2 := Lib.hid (show Plain.backI n = some n by rw [Plain.backI, if_pos hm])
    obtain ⟨m0, m1⟩ := hm
    have hval : ((n.toNat : Nat) : Int) = n := by omega
    have HN := Lib.hid hval; clear hval
    go_enter Try.func5, Try.ntmps5
    go_wp2_with fail
    refine (dec_any n _ n0 n1).mono ?_
    rintro e w1 ⟨rfl, k1⟩
    go_wp2_with fail
    refine (getDec_at (Plain.bs (Plain.decL n)) (Plain.decL n) (some n.toNat) _ rfl (B1.out.trans E1.out) (by have := L1.out; unfold maxLen; omega)).mono ?_
    rw [Option.isSome_some, show Plain.natV (some n.toNat) = n from HN.out]
    rintro e w2 ⟨rfl, rfl⟩
    go_wp2_with fail
    refine (hex_any n _ n1).mono ?_
    rintro e w2 ⟨rfl, k2⟩
    have k2 := k1.trans (k2.mono k1.size)
    clear k1
    go_wp2_with fail
    refine (getHex_at (Plain.bs (Plain.hexL n)) (Plain.hexL n) (some n.toNat) _ rfl (B2.out.trans E1.out) (by have := L2.out; unfold maxLen; omega)).mono ?_
    rw [Option.isSome_some, show Plain.natV (some n.toNat) = n from HN.out]
    rintro e w3 ⟨rfl, rfl⟩
    go_wp2_with fail
    refine (dec_any n _ n0 n1).mono ?_
    rintro e w3 ⟨rfl, k3⟩
    have k3 := k2.trans (k3.mono k2.size)
    clear k2
    go_wp2_with fail
    refine (get_at (Plain.bs (Plain.decL n)) (Plain.decL n) (some n) _ rfl (B3.out.trans E2.out) (by have := L1.out; omega)).mono ?_
    rw [Option.isSome_some, show Plain.intV (some n) = n from rfl]
    rintro e w4 ⟨rfl, k4⟩
    have k4 := k3.trans (k4.mono k3.size)
    clear k3
    go_wp2_with fail
    refine (may_yes n _ m0 m1).mono ?_
    rintro e w5 ⟨rfl, rfl⟩
    go_wp2_with fail
    refine (hex_any n _ n1).mono ?_
    rintro e w5 ⟨rfl, k5⟩
    have k5 := k4.trans (k5.mono k4.size)
    clear k4
    have hlen := L3.out m0
    have hlen2 := L2.out
    clear B1 B2 B3 L1 L2 L3
    generalize Plain.bs (Plain.hexL n) = t at *
    go_wp2_with fail
    refine (runs_any _).mono ?_
    rintro e w6 ⟨rfl, k6⟩
    have k6 := k5.trans (k6.mono k5.size)
    clear k5
    go_wp2
    go_ret
    exact ⟨by simp, k6⟩
  · have E1 := Lib.hid (show Plain.back n = none by rw [Plain.back, if_neg hm])
    have E2 := Lib.hid (show Plain.backI n = none by rw [Plain.backI, if_neg hm])
    have HM := Lib.hid hm; clear hm
    go_enter Try.func5, Try.ntmps5
    go_wp2_with fail
    refine (dec_any n _ n0 n1).mono ?_
    rintro e w1 ⟨rfl, k1⟩
    go_wp2_with fail
    refine (getDec_at (Plain.bs (Plain.decL n)) (Plain.decL n) none _ rfl (B1.out.trans E1.out) (by have := L1.out; unfold maxLen; omega)).mono ?_
    rw [Option.isSome_none, show Plain.natV none = 0 from rfl]
    rintro e w2 ⟨rfl, rfl⟩
    go_wp2_with fail
    refine (hex_any n _ n1).mono ?_
    rintro e w2 ⟨rfl, k2⟩
    have k2 := k1.trans (k2.mono k1.size)
    clear k1
    go_wp2_with fail
    refine (getHex_at (Plain.bs (Plain.hexL n)) (Plain.hexL n) none _ rfl (B2.out.trans E1.out) (by have := L2.out; unfold maxLen; omega)).mono ?_
    rw [Option.isSome_none, show Plain.natV none = 0 from rfl]
    rintro e w3 ⟨rfl, rfl⟩
    go_wp2_with fail
    refine (dec_any n _ n0 n1).mono ?_
    rintro e w3 ⟨rfl, k3⟩
    have k3 := k2.trans (k3.mono k2.size)
    clear k2
    go_wp2_with fail
    refine (get_at (Plain.bs (Plain.decL n)) (Plain.decL n) none _ rfl (B3.out.trans E2.out) (by have := L1.out; omega)).mono ?_
    rw [Option.isSome_none, show Plain.intV none = 0 from rfl]
    rintro e w4 ⟨rfl, k4⟩
    have k4 := k3.trans (k4.mono k3.size)
    clear k3
    go_wp2_with fail
    refine (may_no n _ HM.out).mono ?_
    rintro e w5 ⟨rfl, rfl⟩
    go_wp2_with fail
    refine (runs_any _).mono ?_
    rintro e w6 ⟨rfl, k6⟩
    have k6 := k4.trans (k6.mono k4.size)
    clear k4
    go_wp2
    go_ret
    exact ⟨by simp, k6⟩

end Go.Proofs.Ytheokjjkjigcfaa
