/- Contract of the law TabAll. -/
import Derived.Test.YtoccnhajfmkpoaaWalksM
import Derived.Test.YtoccnhajfmkpoaaLawCase
import Derived.WalkKit
import Derived.WalkSpells
import Derived.WalkLawsBesides
import Derived.Lib.Hide
namespace Go.Proofs.Ytoccnhajfmkpoaa
open Go.RowKit

set_option maxRecDepth 100000 in
set_option maxHeartbeats 4000000 in
theorem law_all (w : World) : Calls Try.prog 4 #[] w fun e w' => e = .returned (.bool true) ∧ Below w.heap.size w w' := by
  have C1 := Lib.hid lower_any; have C2 := Lib.hid upper_any; have C3 := Lib.hid ebcdic_any; have C4 := Lib.hid ibm_any; have C5 := Lib.hid ascii_any
  have D1 := Lib.hid rlower_any; have D2 := Lib.hid rupper_any; have D3 := Lib.hid rebcdic_any; have D4 := Lib.hid ribm_any; have D5 := Lib.hid rascii_any
  have CR := Lib.hid law_runs
  have X0 : ∀ w, (binOp .eql 24 (tv lower) (tv lower)).run Try.prog w = .ok (.bool true) w := fun w => eql_tab w lower len_lower
  have Y0 : ∀ w x y, (eqGuard .eql 24 x y (tv lower) (tv lower)).run Try.prog w = .ok () w := fun w x y => eqg_tab w x y lower lower
  generalize lower = T0 at *
  have X1 : ∀ w, (binOp .eql 24 (tv upper) (tv upper)).run Try.prog w = .ok (.bool true) w := fun w => eql_tab w upper len_upper
  have Y1 : ∀ w x y, (eqGuard .eql 24 x y (tv upper) (tv upper)).run Try.prog w = .ok () w := fun w x y => eqg_tab w x y upper upper
  generalize upper = T1 at *
  have X2 : ∀ w, (binOp .eql 24 (tv tbE) (tv tbE)).run Try.prog w = .ok (.bool true) w := fun w => eql_tab w tbE (len_tb false)
  have Y2 : ∀ w x y, (eqGuard .eql 24 x y (tv tbE) (tv tbE)).run Try.prog w = .ok () w := fun w x y => eqg_tab w x y tbE tbE
  generalize tbE = T2 at *
  have X3 : ∀ w, (binOp .eql 24 (tv tbI) (tv tbI)).run Try.prog w = .ok (.bool true) w := fun w => eql_tab w tbI (len_tb true)
  have Y3 : ∀ w x y, (eqGuard .eql 24 x y (tv tbI) (tv tbI)).run Try.prog w = .ok () w := fun w x y => eqg_tab w x y tbI tbI
  generalize tbI = T3 at *
  have X4 : ∀ w, (binOp .eql 24 (tv tbA) (tv tbA)).run Try.prog w = .ok (.bool true) w := fun w => eql_tab w tbA len_asc
  have Y4 : ∀ w x y, (eqGuard .eql 24 x y (tv tbA) (tv tbA)).run Try.prog w = .ok () w := fun w x y => eqg_tab w x y tbA tbA
  generalize tbA = T4 at *
  go_enter Try.func4, Try.ntmps4
  go_wp2_with fail
  refine (C1.out _).mono ?_
  rintro e w1 ⟨rfl, k1⟩
  have K1 := Lib.hid (k1)
  clear k1
  go_wp2_with fail
  refine (D1.out _).mono ?_
  rintro e w2 ⟨rfl, k1⟩
  have K2 := Lib.hid (below_next K1.out k1)
  clear k1 K1
  go_wp2_with fail
  refine (C2.out _).mono ?_
  rintro e w3 ⟨rfl, k1⟩
  have K3 := Lib.hid (below_next K2.out k1)
  clear k1 K2
  go_wp2_with fail
  refine (D2.out _).mono ?_
  rintro e w4 ⟨rfl, k1⟩
  have K4 := Lib.hid (below_next K3.out k1)
  clear k1 K3
  go_wp2_with fail
  refine (C3.out _).mono ?_
  rintro e w5 ⟨rfl, k1⟩
  have K5 := Lib.hid (below_next K4.out k1)
  clear k1 K4
  go_wp2_with fail
  refine (D3.out _).mono ?_
  rintro e w6 ⟨rfl, k1⟩
  have K6 := Lib.hid (below_next K5.out k1)
  clear k1 K5
  go_wp2_with fail
  refine (C4.out _).mono ?_
  rintro e w7 ⟨rfl, k1⟩
  have K7 := Lib.hid (below_next K6.out k1)
  clear k1 K6
  go_wp2_with fail
  refine (D4.out _).mono ?_
  rintro e w8 ⟨rfl, k1⟩
  have K8 := Lib.hid (below_next K7.out k1)
  clear k1 K7
  go_wp2_with fail
  refine (C5.out _).mono ?_
  rintro e w9 ⟨rfl, k1⟩
  have K9 := Lib.hid (below_next K8.out k1)
  clear k1 K8
  go_wp2_with fail
  refine (D5.out _).mono ?_
  rintro e w10 ⟨rfl, k1⟩
  have K10 := Lib.hid (below_next K9.out k1)
  clear k1 K9
  go_wp2_with fail
  refine (CR.out _).mono ?_
  rintro e w11 ⟨rfl, k1⟩
  have K11 := Lib.hid (below_next K10.out k1)
  clear k1 K10
  go_wp2
  go_ret
  exact ⟨rfl, K11.out⟩

end Go.Proofs.Ytoccnhajfmkpoaa
