/- The walk of the law RunsTell. -/
import Derived.Test.YtjmgdnkfhfbbiaaRead
import Derived.Test.YtjmgdnkfhfbbiaaWalksE
import Derived.Test.YtjmgdnkfhfbbiaaWalksF
import Derived.WalkKit
import Derived.WalkSpells
import Derived.WalkLawsBesides
import Derived.Lib.Hide
namespace Go.Proofs.Ytjmgdnkfhfbbiaa
open Go.RowKit

theorem Plain.runsGo_len (U : Nat) : ∀ (f pos : Nat) (rest : List Int) (acc : List Plain.Run), (Plain.runsGo U f pos rest acc).length ≤ acc.length + f
  | 0, _, _, acc => by simp [Plain.runsGo]
  | f + 1, pos, rest, acc => by
    rw [Plain.runsGo]
    split
    · omega
    · have h1 := Plain.runsGo_len U f (pos + min U rest.length) (rest.drop U) (Plain.joinS acc ⟨(pos : Int), ((min U rest.length : Nat) : Int), Plain.zeros (rest.take U)⟩)
      have h2 := Plain.joinS_len acc ⟨(pos : Int), ((min U rest.length : Nat) : Int), Plain.zeros (rest.take U)⟩
      omega
theorem Plain.runsOf_len (u : Int) (zs : List Int) : (Plain.runsOf u zs).length ≤ zs.length := by
  unfold Plain.runsOf
  split
  · simp
  · have := Plain.runsGo_len u.toNat zs.length 0 zs []
    simpa using this

set_option maxHeartbeats 1000000 in
theorem tell_walk (A : Option Addr) (n c : Nat) (ys : List Int) (u : Int) (w : World) (hr : IsRow .u8 w A n c ys) (hu : (Lit.int .i64 u).wf = true) :
    Calls Try.prog 4 #[.slice A n c, .int .i64 u] w fun e w' => e = .returned (.bool true) ∧ Below w.heap.size w w' := by
  have hu2 := (i64_bounds hu).2
  have hb := hr.bytes.1
  clear hr hu
  generalize ys.take n = zs at hb
  have hnm : n ≤ 9223372036854775807 := by have h1 := hb.2.1; have h2 := hb.2.2.1; unfold maxLen at h2; omega
  by_cases hn : n ≤ 2000
  · have hlen := Plain.runsOf_len u zs
    rw [hb.1] at hlen
    have HB := Lib.hid hb
    clear hb
    go_enter Try.func4, Try.ntmps4
    go_wp2_with fail
    refine (runs_any _ _ _ zs _ _ HB.out hn hu2).mono ?_
    rintro e w1 ⟨v1, rfl, o1, k1⟩
    obtain ⟨A1, c1, rfl, s1⟩ := own_runs o1
    have S1 := Lib.hid s1; have K1 := Lib.hid k1
    clear s1 k1 o1
    go_wp2_with fail
    refine (rruns_any _ _ _ zs _ _ (HB.out.on K1.out) hn hu2).mono ?_
    rintro e w2 ⟨v2, rfl, o2, k2⟩
    obtain ⟨A2, c2, rfl, s2⟩ := own_runs o2
    have S2 := Lib.hid s2; have S3 := Lib.hid (S1.out.on k2); have K2 := Lib.hid (K1.out.trans (k2.mono K1.out.size))
    clear s2 k2 o2 S1 K1
    generalize Plain.runsOf u zs = xs at *
    generalize xs.length = m at *
    go_wp2_with fail
    refine (same_any _ _ _ _ _ xs _ (by omega) S3.out S2.out).mono ?_
    rintro e w3 ⟨rfl, q, rfl⟩
    have K3 := Lib.hid (below_drewN K2.out q)
    have B3 := Lib.hid (HB.out.on K3.out)
    clear S2 S3 K2 HB
    generalize w2.drewN q = w3 at *
    go_wp2_with fail
    refine (lead_any _ _ _ zs _ B3.out).mono ?_
    rintro e w4 ⟨rfl, rfl⟩
    go_wp2_with fail
    refine (rlead_any _ _ _ zs _ B3.out).mono ?_
    rintro e w4 ⟨rfl, rfl⟩
    go_wp2_with fail
    refine (trail_any _ _ _ zs _ B3.out).mono ?_
    rintro e w4 ⟨rfl, rfl⟩
    go_wp2_with fail
    refine (rtrail_any _ _ _ zs _ B3.out).mono ?_
    rintro e w4 ⟨rfl, rfl⟩
    go_wp2_with fail
    refine (zero_one _ _ _ zs _ _ (by simp) B3.out).mono ?_
    rintro e w4 ⟨rfl, rfl⟩
    have K4 := Lib.hid (K3.out.alloc K3.out.size (.cells #[.slice A n c] 24))
    have B4 := Lib.hid (B3.out.on ((Below.refl _ _).alloc (Nat.le_refl _) (.cells #[.slice A n c] 24)))
    go_wp2_with fail
    refine (rzero_any _ _ _ zs _ B4.out).mono ?_
    rintro e w5 ⟨rfl, rfl⟩
    go_wp2_with fail
    refine (law_runs _).mono ?_
    rintro e w6 ⟨rfl, k6⟩
    go_wp2
    go_ret
    exact ⟨by first | rfl | simp, K4.out.trans (k6.mono K4.out.size)⟩
  · clear hb
    go_enter Try.func4, Try.ntmps4
    go_wp2_with fail
    refine (law_runs _).mono ?_
    rintro e w1 ⟨rfl, k1⟩
    go_wp2
    go_ret
    exact ⟨rfl, k1⟩

end Go.Proofs.Ytjmgdnkfhfbbiaa
