/- The walk of the law OffNear. -/
import Derived.Test.YtamignakfliocaaRead
import Derived.Test.YtamignakfliocaaWalksR
import Derived.WalkKit
import Derived.WalkSpells
import Derived.WalkLawsBesides
import Derived.Lib.Hide
namespace Go.Proofs.Ytamignakfliocaa
open Go.RowKit

set_option maxHeartbeats 1000000 in
theorem near_walk (n u : Int) (w : World) (_hn : (Lit.int .i64 n).wf = true) (hu : (Lit.int .i64 u).wf = true) :
    Calls Try.prog 10 #[.int .i64 n, .int .i64 u] w fun e w' => e = .returned (.bool true) ∧ Below w.heap.size w w' := by
  have hu2 := (i64_bounds hu).2
  clear hu _hn
  by_cases hm : 0 ≤ n ∧ n ≤ 4611686018427387904
  · by_cases h1 : 1 ≤ u
    · obtain ⟨r0, r1, r2⟩ := Plain.rem_bounds n u hm.1 h1
      have hd : Plain.downV n u = n - n % u := by rw [Plain.downV, if_pos ⟨hm, h1⟩]
      have HD := Lib.hid hd; clear hd
      have hz : (n - n % u) % u = 0 := by rw [Int.sub_emod]; simp
      by_cases hr : n % u = 0
      · have hv : Plain.upS n u = some n := by rw [Plain.upS, if_pos ⟨hm, h1⟩, if_pos hr]
        have HV := Lib.hid hv; clear hv
        obtain ⟨hm0, hm1⟩ := hm
        go_enter Try.func10, Try.ntmps10
        go_wp2_with fail
        refine (down_any _ _ _ hu2).mono ?_
        rintro e w1 ⟨rfl, rfl⟩
        rw [HD.out, hr]
        go_wp2_with fail
        refine (up_any _ _ _ hu2).mono ?_
        rintro e w1 ⟨rfl, k1⟩
        rw [show Plain.upV n u = n by simp [Plain.upV, HV.out], show Plain.upOk n u = true by simp [Plain.upOk, HV.out]]
        go_wp2_with fail
        refine (may_yes _ _ hm0 hm1).mono ?_
        rintro e w2 ⟨rfl, rfl⟩
        go_wp2_with fail
        refine (runs_any _).mono ?_
        rintro e w2 ⟨rfl, k2⟩
        go_wp2
        go_ret
        exact ⟨rfl, below2 k1 k2 k1.size⟩
      · have hzb : ((n - n % u) % u != 0) = false := by simp [hz]
        have hrp : 0 < n % u := by omega
        by_cases hs : u - n % u ≤ 4611686018427387904 - n
        · have hv : Plain.upS n u = some (n + (u - n % u)) := by rw [Plain.upS, if_pos ⟨hm, h1⟩, if_neg hr, if_pos hs]
          have HV := Lib.hid hv; clear hv
          have hy : (n + (u - n % u)) % u = 0 := by
            rw [show n + (u - n % u) = (n - n % u) + u by omega, Int.add_emod_right]
            exact hz
          have hyb : ((n + (u - n % u)) % u == 0) = true := by simp [hy]
          obtain ⟨hm0, hm1⟩ := hm
          clear hz hy hr
          go_enter Try.func10, Try.ntmps10
          go_wp2_with fail
          refine (down_any _ _ _ hu2).mono ?_
          rintro e w1 ⟨rfl, rfl⟩
          rw [HD.out]
          go_wp2_with fail
          refine (up_any _ _ _ hu2).mono ?_
          rintro e w1 ⟨rfl, k1⟩
          rw [show Plain.upV n u = n + (u - n % u) by simp [Plain.upV, HV.out], show Plain.upOk n u = true by simp [Plain.upOk, HV.out]]
          go_wp2_with fail
          refine (may_yes _ _ hm0 hm1).mono ?_
          rintro e w2 ⟨rfl, rfl⟩
          go_wp2_with fail
          refine (runs_any _).mono ?_
          rintro e w2 ⟨rfl, k2⟩
          go_wp2
          go_ret
          exact ⟨rfl, below2 k1 k2 k1.size⟩
        · have hv : Plain.upS n u = none := by rw [Plain.upS, if_pos ⟨hm, h1⟩, if_neg hr, if_neg hs]
          have HV := Lib.hid hv; clear hv
          obtain ⟨hm0, hm1⟩ := hm
          clear hz hr
          go_enter Try.func10, Try.ntmps10
          go_wp2_with fail
          refine (down_any _ _ _ hu2).mono ?_
          rintro e w1 ⟨rfl, rfl⟩
          rw [HD.out]
          go_wp2_with fail
          refine (up_any _ _ _ hu2).mono ?_
          rintro e w1 ⟨rfl, k1⟩
          rw [show Plain.upV n u = 0 by simp [Plain.upV, HV.out], show Plain.upOk n u = false by simp [Plain.upOk, HV.out]]
          go_wp2_with fail
          refine (may_yes _ _ hm0 hm1).mono ?_
          rintro e w2 ⟨rfl, rfl⟩
          go_wp2_with fail
          refine (runs_any _).mono ?_
          rintro e w2 ⟨rfl, k2⟩
          go_wp2
          go_ret
          exact ⟨rfl, below2 k1 k2 k1.size⟩
    · have hd : Plain.downV n u = 0 := by rw [Plain.downV, if_neg (fun h => h1 h.2)]
      have HD := Lib.hid hd; clear hd
      have hv : Plain.upS n u = none := by rw [Plain.upS, if_neg (fun h => h1 h.2)]
      have HV := Lib.hid hv; clear hv
      obtain ⟨hm0, hm1⟩ := hm
      go_enter Try.func10, Try.ntmps10
      go_wp2_with fail
      refine (down_any _ _ _ hu2).mono ?_
      rintro e w1 ⟨rfl, rfl⟩
      rw [HD.out]
      go_wp2_with fail
      refine (up_any _ _ _ hu2).mono ?_
      rintro e w1 ⟨rfl, k1⟩
      rw [show Plain.upV n u = 0 by simp [Plain.upV, HV.out], show Plain.upOk n u = false by simp [Plain.upOk, HV.out]]
      go_wp2_with fail
      refine (may_yes _ _ hm0 hm1).mono ?_
      rintro e w2 ⟨rfl, rfl⟩
      go_wp2_with fail
      refine (runs_any _).mono ?_
      rintro e w2 ⟨rfl, k2⟩
      go_wp2
      go_ret
      exact ⟨rfl, below2 k1 k2 k1.size⟩
  · have hd : Plain.downV n u = 0 := by rw [Plain.downV, if_neg (fun h => hm h.1)]
    have HD := Lib.hid hd; clear hd
    have hv : Plain.upS n u = none := by rw [Plain.upS, if_neg (fun h => hm h.1)]
    have HV := Lib.hid hv; clear hv
    go_enter Try.func10, Try.ntmps10
    go_wp2_with fail
    refine (down_any _ _ _ hu2).mono ?_
    rintro e w1 ⟨rfl, rfl⟩
    rw [HD.out]
    go_wp2_with fail
    refine (up_any _ _ _ hu2).mono ?_
    rintro e w1 ⟨rfl, k1⟩
    rw [show Plain.upV n u = 0 by simp [Plain.upV, HV.out], show Plain.upOk n u = false by simp [Plain.upOk, HV.out]]
    go_wp2_with fail
    refine (may_no _ _ hm).mono ?_
    rintro e w2 ⟨rfl, rfl⟩
    go_wp2_with fail
    refine (runs_any _).mono ?_
    rintro e w2 ⟨rfl, k2⟩
    go_wp2
    go_ret
    exact ⟨rfl, below2 k1 k2 k1.size⟩

end Go.Proofs.Ytamignakfliocaa
