/- Contracts of num.unit and of the reference times. -/
import Derived.Test.YtheokjjkjigcfaaRows
import Derived.Test.YtheokjjkjigcfaaWalksD
import Derived.WalkKit
import Derived.WalkSpells
import Derived.WalkLawsBesides
import Derived.Lib.Hide
namespace Go.Proofs.Ytheokjjkjigcfaa
open Go.RowKit

theorem list_no {s : ByteArray} {c : List UInt8} (h : s.data.toList ≠ c) : (s.toList == c) = false := by
  apply beq_false_of_ne
  rw [Lib.toList_data]
  exact h
theorem list_yes {s : ByteArray} {c : List UInt8} (h : s.data.toList = c) : (s.toList == c) = true := by
  rw [Lib.toList_data, h]
  exact beq_self_eq_true c
theorem empty_no {s : ByteArray} (h : s.data.toList ≠ []) : s.toList.isEmpty = false := by
  rw [Lib.toList_data]
  cases hl : s.data.toList
  · exact absurd hl h
  · rfl
theorem empty_yes {s : ByteArray} (h : s.data.toList = []) : s.toList.isEmpty = true := by
  rw [Lib.toList_data, h]; rfl
theorem opt_some {o : Option Nat} {n : Nat} (h : o = some n) : (n : Int) = Plain.natV o ∧ true = o.isSome := by subst h; exact ⟨rfl, rfl⟩

set_option maxHeartbeats 2000000 in
theorem unit_any (s : ByteArray) (w : World) :
    Calls Try.prog 31 #[.string s] w fun e w' => e = .returned (.tuple #[.int .i64 (Plain.natV (Plain.unitS s.data.toList)), .bool (Plain.unitS s.data.toList).isSome]) ∧ w = w' := by
  by_cases h0 : s.data.toList = []
  · have hv : Plain.unitS s.data.toList = some 1 := by rw [Plain.unitS, if_pos h0]
    have HV := Lib.hid hv; clear hv
    have f0 := empty_yes h0
    have g0 := list_yes h0
    clear h0
    go_enter Try.func31, Try.ntmps31
    go_wp2
    go_ret2
    exact ⟨ret_opt (opt_some HV.out), rfl⟩
  by_cases h1 : s.data.toList = [99]
  · have hv : Plain.unitS s.data.toList = some 1 := by rw [Plain.unitS, if_neg h0, if_pos h1]
    have HV := Lib.hid hv; clear hv
    have f0 := empty_no h0
    have g0 := list_no h0
    have g1 := list_yes h1
    clear h0 h1
    go_enter Try.func31, Try.ntmps31
    go_wp2
    go_ret2
    exact ⟨ret_opt (opt_some HV.out), rfl⟩
  by_cases h2 : s.data.toList = [119]
  · have hv : Plain.unitS s.data.toList = some 2 := by rw [Plain.unitS, if_neg h0, if_neg h1, if_pos h2]
    have HV := Lib.hid hv; clear hv
    have f0 := empty_no h0
    have g0 := list_no h0
    have g1 := list_no h1
    have g2 := list_yes h2
    clear h0 h1 h2
    go_enter Try.func31, Try.ntmps31
    go_wp2
    go_ret2
    exact ⟨ret_opt (opt_some HV.out), rfl⟩
  by_cases h3 : s.data.toList = [98]
  · have hv : Plain.unitS s.data.toList = some 512 := by rw [Plain.unitS, if_neg h0, if_neg h1, if_neg h2, if_pos h3]
    have HV := Lib.hid hv; clear hv
    have f0 := empty_no h0
    have g0 := list_no h0
    have g1 := list_no h1
    have g2 := list_no h2
    have g3 := list_yes h3
    clear h0 h1 h2 h3
    go_enter Try.func31, Try.ntmps31
    go_wp2
    go_ret2
    exact ⟨ret_opt (opt_some HV.out), rfl⟩
  by_cases h4 : s.data.toList = [107, 66]
  · have hv : Plain.unitS s.data.toList = some 1000 := by rw [Plain.unitS, if_neg h0, if_neg h1, if_neg h2, if_neg h3, if_pos h4]
    have HV := Lib.hid hv; clear hv
    have f0 := empty_no h0
    have g0 := list_no h0
    have g1 := list_no h1
    have g2 := list_no h2
    have g3 := list_no h3
    have g4 := list_yes h4
    clear h0 h1 h2 h3 h4
    go_enter Try.func31, Try.ntmps31
    go_wp2
    go_ret2
    exact ⟨ret_opt (opt_some HV.out), rfl⟩
  by_cases h5 : s.data.toList = [107]
  · have hv : Plain.unitS s.data.toList = some 1024 := by rw [Plain.unitS, if_neg h0, if_neg h1, if_neg h2, if_neg h3, if_neg h4, if_pos h5]
    have HV := Lib.hid hv; clear hv
    have f0 := empty_no h0
    have g0 := list_no h0
    have g1 := list_no h1
    have g2 := list_no h2
    have g3 := list_no h3
    have g4 := list_no h4
    have g5 := list_yes h5
    clear h0 h1 h2 h3 h4 h5
    go_enter Try.func31, Try.ntmps31
    go_wp2
    go_ret2
    exact ⟨ret_opt (opt_some HV.out), rfl⟩
  by_cases h6 : s.data.toList = [75]
  · have hv : Plain.unitS s.data.toList = some 1024 := by rw [Plain.unitS, if_neg h0, if_neg h1, if_neg h2, if_neg h3, if_neg h4, if_neg h5, if_pos h6]
    have HV := Lib.hid hv; clear hv
    have f0 := empty_no h0
    have g0 := list_no h0
    have g1 := list_no h1
    have g2 := list_no h2
    have g3 := list_no h3
    have g4 := list_no h4
    have g5 := list_no h5
    have g6 := list_yes h6
    clear h0 h1 h2 h3 h4 h5 h6
    go_enter Try.func31, Try.ntmps31
    go_wp2
    go_ret2
    exact ⟨ret_opt (opt_some HV.out), rfl⟩
  by_cases h7 : s.data.toList = [77, 66]
  · have hv : Plain.unitS s.data.toList = some 1000000 := by rw [Plain.unitS, if_neg h0, if_neg h1, if_neg h2, if_neg h3, if_neg h4, if_neg h5, if_neg h6, if_pos h7]
    have HV := Lib.hid hv; clear hv
    have f0 := empty_no h0
    have g0 := list_no h0
    have g1 := list_no h1
    have g2 := list_no h2
    have g3 := list_no h3
    have g4 := list_no h4
    have g5 := list_no h5
    have g6 := list_no h6
    have g7 := list_yes h7
    clear h0 h1 h2 h3 h4 h5 h6 h7
    go_enter Try.func31, Try.ntmps31
    go_wp2
    go_ret2
    exact ⟨ret_opt (opt_some HV.out), rfl⟩
  by_cases h8 : s.data.toList = [77]
  · have hv : Plain.unitS s.data.toList = some 1048576 := by rw [Plain.unitS, if_neg h0, if_neg h1, if_neg h2, if_neg h3, if_neg h4, if_neg h5, if_neg h6, if_neg h7, if_pos h8]
    have HV := Lib.hid hv; clear hv
    have f0 := empty_no h0
    have g0 := list_no h0
    have g1 := list_no h1
    have g2 := list_no h2
    have g3 := list_no h3
    have g4 := list_no h4
    have g5 := list_no h5
    have g6 := list_no h6
    have g7 := list_no h7
    have g8 := list_yes h8
    clear h0 h1 h2 h3 h4 h5 h6 h7 h8
    go_enter Try.func31, Try.ntmps31
    go_wp2
    go_ret2
    exact ⟨ret_opt (opt_some HV.out), rfl⟩
  by_cases h9 : s.data.toList = [71, 66]
  · have hv : Plain.unitS s.data.toList = some 1000000000 := by rw [Plain.unitS, if_neg h0, if_neg h1, if_neg h2, if_neg h3, if_neg h4, if_neg h5, if_neg h6, if_neg h7, if_neg h8, if_pos h9]
    have HV := Lib.hid hv; clear hv
    have f0 := empty_no h0
    have g0 := list_no h0
    have g1 := list_no h1
    have g2 := list_no h2
    have g3 := list_no h3
    have g4 := list_no h4
    have g5 := list_no h5
    have g6 := list_no h6
    have g7 := list_no h7
    have g8 := list_no h8
    have g9 := list_yes h9
    clear h0 h1 h2 h3 h4 h5 h6 h7 h8 h9
    go_enter Try.func31, Try.ntmps31
    go_wp2
    go_ret2
    exact ⟨ret_opt (opt_some HV.out), rfl⟩
  by_cases h10 : s.data.toList = [71]
  · have hv : Plain.unitS s.data.toList = some 1073741824 := by rw [Plain.unitS, if_neg h0, if_neg h1, if_neg h2, if_neg h3, if_neg h4, if_neg h5, if_neg h6, if_neg h7, if_neg h8, if_neg h9, if_pos h10]
    have HV := Lib.hid hv; clear hv
    have f0 := empty_no h0
    have g0 := list_no h0
    have g1 := list_no h1
    have g2 := list_no h2
    have g3 := list_no h3
    have g4 := list_no h4
    have g5 := list_no h5
    have g6 := list_no h6
    have g7 := list_no h7
    have g8 := list_no h8
    have g9 := list_no h9
    have g10 := list_yes h10
    clear h0 h1 h2 h3 h4 h5 h6 h7 h8 h9 h10
    go_enter Try.func31, Try.ntmps31
    go_wp2
    go_ret2
    exact ⟨ret_opt (opt_some HV.out), rfl⟩
  have hv : Plain.unitS s.data.toList = none := by rw [Plain.unitS, if_neg h0, if_neg h1, if_neg h2, if_neg h3, if_neg h4, if_neg h5, if_neg h6, if_neg h7, if_neg h8, if_neg h9, if_neg h10]
  have HV := Lib.hid hv; clear hv
  have f0 := empty_no h0
  have g0 := list_no h0
  have g1 := list_no h1
  have g2 := list_no h2
  have g3 := list_no h3
  have g4 := list_no h4
  have g5 := list_no h5
  have g6 := list_no h6
  have g7 := list_no h7
  have g8 := list_no h8
  have g9 := list_no h9
  have g10 := list_no h10
  clear h0 h1 h2 h3 h4 h5 h6 h7 h8 h9 h10
  go_enter Try.func31, Try.ntmps31
  go_wp2
  go_ret2
  exact ⟨ret_opt (opt_none HV.out), rfl⟩

set_option maxHeartbeats 2000000 in
theorem times_any (s : ByteArray) (w : World) :
    Calls Try.prog 26 #[.string s] w fun e w' => e = .returned (.int .i64 (Plain.natV (Plain.unitS s.data.toList))) ∧ w = w' := by
  by_cases h0 : s.data.toList = []
  · have hv : Plain.unitS s.data.toList = some 1 := by rw [Plain.unitS, if_pos h0]
    have HV := Lib.hid hv; clear hv
    have f0 := empty_yes h0
    have g0 := list_yes h0
    clear h0
    go_enter Try.func26, Try.ntmps26
    go_wp2
    go_ret
    exact ⟨ret_int (opt_some HV.out).1, rfl⟩
  by_cases h1 : s.data.toList = [99]
  · have hv : Plain.unitS s.data.toList = some 1 := by rw [Plain.unitS, if_neg h0, if_pos h1]
    have HV := Lib.hid hv; clear hv
    have f0 := empty_no h0
    have g0 := list_no h0
    have g1 := list_yes h1
    clear h0 h1
    go_enter Try.func26, Try.ntmps26
    go_wp2
    go_ret
    exact ⟨ret_int (opt_some HV.out).1, rfl⟩
  by_cases h2 : s.data.toList = [119]
  · have hv : Plain.unitS s.data.toList = some 2 := by rw [Plain.unitS, if_neg h0, if_neg h1, if_pos h2]
    have HV := Lib.hid hv; clear hv
    have f0 := empty_no h0
    have g0 := list_no h0
    have g1 := list_no h1
    have g2 := list_yes h2
    clear h0 h1 h2
    go_enter Try.func26, Try.ntmps26
    go_wp2
    go_ret
    exact ⟨ret_int (opt_some HV.out).1, rfl⟩
  by_cases h3 : s.data.toList = [98]
  · have hv : Plain.unitS s.data.toList = some 512 := by rw [Plain.unitS, if_neg h0, if_neg h1, if_neg h2, if_pos h3]
    have HV := Lib.hid hv; clear hv
    have f0 := empty_no h0
    have g0 := list_no h0
    have g1 := list_no h1
    have g2 := list_no h2
    have g3 := list_yes h3
    clear h0 h1 h2 h3
    go_enter Try.func26, Try.ntmps26
    go_wp2
    go_ret
    exact ⟨ret_int (opt_some HV.out).1, rfl⟩
  by_cases h4 : s.data.toList = [107, 66]
  · have hv : Plain.unitS s.data.toList = some 1000 := by rw [Plain.unitS, if_neg h0, if_neg h1, if_neg h2, if_neg h3, if_pos h4]
    have HV := Lib.hid hv; clear hv
    have f0 := empty_no h0
    have g0 := list_no h0
    have g1 := list_no h1
    have g2 := list_no h2
    have g3 := list_no h3
    have g4 := list_yes h4
    clear h0 h1 h2 h3 h4
    go_enter Try.func26, Try.ntmps26
    go_wp2
    go_ret
    exact ⟨ret_int (opt_some HV.out).1, rfl⟩
  by_cases h5 : s.data.toList = [107]
  · have hv : Plain.unitS s.data.toList = some 1024 := by rw [Plain.unitS, if_neg h0, if_neg h1, if_neg h2, if_neg h3, if_neg h4, if_pos h5]
    have HV := Lib.hid hv; clear hv
    have f0 := empty_no h0
    have g0 := list_no h0
    have g1 := list_no h1
    have g2 := list_no h2
    have g3 := list_no h3
    have g4 := list_no h4
    have g5 := list_yes h5
    clear h0 h1 h2 h3 h4 h5
    go_enter Try.func26, Try.ntmps26
    go_wp2
    go_ret
    exact ⟨ret_int (opt_some HV.out).1, rfl⟩
  by_cases h6 : s.data.toList = [75]
  · have hv : Plain.unitS s.data.toList = some 1024 := by rw [Plain.unitS, if_neg h0, if_neg h1, if_neg h2, if_neg h3, if_neg h4, if_neg h5, if_pos h6]
    have HV := Lib.hid hv; clear hv
    have f0 := empty_no h0
    have g0 := list_no h0
    have g1 := list_no h1
    have g2 := list_no h2
    have g3 := list_no h3
    have g4 := list_no h4
    have g5 := list_no h5
    have g6 := list_yes h6
    clear h0 h1 h2 h3 h4 h5 h6
    go_enter Try.func26, Try.ntmps26
    go_wp2
    go_ret
    exact ⟨ret_int (opt_some HV.out).1, rfl⟩
  by_cases h7 : s.data.toList = [77, 66]
  · have hv : Plain.unitS s.data.toList = some 1000000 := by rw [Plain.unitS, if_neg h0, if_neg h1, if_neg h2, if_neg h3, if_neg h4, if_neg h5, if_neg h6, if_pos h7]
    have HV := Lib.hid hv; clear hv
    have f0 := empty_no h0
    have g0 := list_no h0
    have g1 := list_no h1
    have g2 := list_no h2
    have g3 := list_no h3
    have g4 := list_no h4
    have g5 := list_no h5
    have g6 := list_no h6
    have g7 := list_yes h7
    clear h0 h1 h2 h3 h4 h5 h6 h7
    go_enter Try.func26, Try.ntmps26
    go_wp2
    go_ret
    exact ⟨ret_int (opt_some HV.out).1, rfl⟩
  by_cases h8 : s.data.toList = [77]
  · have hv : Plain.unitS s.data.toList = some 1048576 := by rw [Plain.unitS, if_neg h0, if_neg h1, if_neg h2, if_neg h3, if_neg h4, if_neg h5, if_neg h6, if_neg h7, if_pos h8]
    have HV := Lib.hid hv; clear hv
    have f0 := empty_no h0
    have g0 := list_no h0
    have g1 := list_no h1
    have g2 := list_no h2
    have g3 := list_no h3
    have g4 := list_no h4
    have g5 := list_no h5
    have g6 := list_no h6
    have g7 := list_no h7
    have g8 := list_yes h8
    clear h0 h1 h2 h3 h4 h5 h6 h7 h8
    go_enter Try.func26, Try.ntmps26
    go_wp2
    go_ret
    exact ⟨ret_int (opt_some HV.out).1, rfl⟩
  by_cases h9 : s.data.toList = [71, 66]
  · have hv : Plain.unitS s.data.toList = some 1000000000 := by rw [Plain.unitS, if_neg h0, if_neg h1, if_neg h2, if_neg h3, if_neg h4, if_neg h5, if_neg h6, if_neg h7, if_neg h8, if_pos h9]
    have HV := Lib.hid hv; clear hv
    have f0 := empty_no h0
    have g0 := list_no h0
    have g1 := list_no h1
    have g2 := list_no h2
    have g3 := list_no h3
    have g4 := list_no h4
    have g5 := list_no h5
    have g6 := list_no h6
    have g7 := list_no h7
    have g8 := list_no h8
    have g9 := list_yes h9
    clear h0 h1 h2 h3 h4 h5 h6 h7 h8 h9
    go_enter Try.func26, Try.ntmps26
    go_wp2
    go_ret
    exact ⟨ret_int (opt_some HV.out).1, rfl⟩
  by_cases h10 : s.data.toList = [71]
  · have hv : Plain.unitS s.data.toList = some 1073741824 := by rw [Plain.unitS, if_neg h0, if_neg h1, if_neg h2, if_neg h3, if_neg h4, if_neg h5, if_neg h6, if_neg h7, if_neg h8, if_neg h9, if_pos h10]
    have HV := Lib.hid hv; clear hv
    have f0 := empty_no h0
    have g0 := list_no h0
    have g1 := list_no h1
    have g2 := list_no h2
    have g3 := list_no h3
    have g4 := list_no h4
    have g5 := list_no h5
    have g6 := list_no h6
    have g7 := list_no h7
    have g8 := list_no h8
    have g9 := list_no h9
    have g10 := list_yes h10
    clear h0 h1 h2 h3 h4 h5 h6 h7 h8 h9 h10
    go_enter Try.func26, Try.ntmps26
    go_wp2
    go_ret
    exact ⟨ret_int (opt_some HV.out).1, rfl⟩
  have hv : Plain.unitS s.data.toList = none := by rw [Plain.unitS, if_neg h0, if_neg h1, if_neg h2, if_neg h3, if_neg h4, if_neg h5, if_neg h6, if_neg h7, if_neg h8, if_neg h9, if_neg h10]
  have HV := Lib.hid hv; clear hv
  have f0 := empty_no h0
  have g0 := list_no h0
  have g1 := list_no h1
  have g2 := list_no h2
  have g3 := list_no h3
  have g4 := list_no h4
  have g5 := list_no h5
  have g6 := list_no h6
  have g7 := list_no h7
  have g8 := list_no h8
  have g9 := list_no h9
  have g10 := list_no h10
  clear h0 h1 h2 h3 h4 h5 h6 h7 h8 h9 h10
  go_enter Try.func26, Try.ntmps26
  go_wp2
  go_ret
  exact ⟨ret_int (opt_none HV.out).1, rfl⟩

end Go.Proofs.Ytheokjjkjigcfaa
