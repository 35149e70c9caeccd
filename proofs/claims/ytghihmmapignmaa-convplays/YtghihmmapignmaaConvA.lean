/- Contracts of conv's blocks, unblocks, codes, Pad, and of the reference's one, Blocks, Unblocks, Pad. -/
import Derived.Test.YtghihmmapignmaaPlainC
import Derived.WalkKit
import Derived.WalkSpells
import Derived.WalkLawsBesides
import Derived.Lib.Hide
import Derived.BigQuiet
namespace Go.Proofs.Ytghihmmapignmaa
open Go.RowKit

/-- A truth comes back; what was there is as it was. -/
def TruthPost (t : Bool) (w : World) (e : Ending) (w' : World) : Prop := e = .returned (.bool t) ∧ Below w.heap.size w w'

set_option maxHeartbeats 400000 in
theorem blocks_any (x : Cf) (w : World) : Calls Try.prog 31 #[x.val] w (TruthPost x.blocks w) := by
  obtain ⟨sw, bl, ub, lc, uc, ac, eb, ib, cb⟩ := x
  show Calls Try.prog 31 #[.agg #[.bool sw, .bool bl, .bool ub, .bool lc, .bool uc, .bool ac, .bool eb, .bool ib, .int .i64 cb]] w (TruthPost (bl || eb || ib) w)
  go_enter Try.func31, Try.ntmps31
  cases bl <;> cases eb <;> cases ib
  all_goals
    go_wp2
    go_ret
    exact ⟨rfl, (Below.refl _ _).alloc (Nat.le_refl _) _⟩

set_option maxHeartbeats 400000 in
theorem unblocks_any (x : Cf) (w : World) : Calls Try.prog 32 #[x.val] w (TruthPost x.unblocks w) := by
  obtain ⟨sw, bl, ub, lc, uc, ac, eb, ib, cb⟩ := x
  show Calls Try.prog 32 #[.agg #[.bool sw, .bool bl, .bool ub, .bool lc, .bool uc, .bool ac, .bool eb, .bool ib, .int .i64 cb]] w (TruthPost (ub || ac) w)
  go_enter Try.func32, Try.ntmps32
  cases ub <;> cases ac
  all_goals
    go_wp2
    go_ret
    exact ⟨rfl, (Below.refl _ _).alloc (Nat.le_refl _) _⟩

set_option maxHeartbeats 400000 in
theorem rblocks_any (x : Cf) (w : World) : Calls Try.prog 34 #[x.val] w (TruthPost x.blocks w) := by
  obtain ⟨sw, bl, ub, lc, uc, ac, eb, ib, cb⟩ := x
  show Calls Try.prog 34 #[.agg #[.bool sw, .bool bl, .bool ub, .bool lc, .bool uc, .bool ac, .bool eb, .bool ib, .int .i64 cb]] w (TruthPost (bl || eb || ib) w)
  go_enter Try.func34, Try.ntmps34
  cases bl <;> cases eb <;> cases ib
  all_goals
    go_wp2
    go_ret
    exact ⟨rfl, (Below.refl _ _).alloc (Nat.le_refl _) _⟩

set_option maxHeartbeats 400000 in
theorem runblocks_any (x : Cf) (w : World) : Calls Try.prog 35 #[x.val] w (TruthPost x.unblocks w) := by
  obtain ⟨sw, bl, ub, lc, uc, ac, eb, ib, cb⟩ := x
  show Calls Try.prog 35 #[.agg #[.bool sw, .bool bl, .bool ub, .bool lc, .bool uc, .bool ac, .bool eb, .bool ib, .int .i64 cb]] w (TruthPost (ub || ac) w)
  go_enter Try.func35, Try.ntmps35
  cases ub <;> cases ac
  all_goals
    go_wp2
    go_ret
    exact ⟨rfl, (Below.refl _ _).alloc (Nat.le_refl _) _⟩

set_option maxHeartbeats 400000 in
theorem rone_any (t : Bool) (w : World) : Calls Try.prog 33 #[.bool t] w fun e w' => e = .returned (.int .i64 (bit t : Nat)) ∧ w = w' := by
  go_enter Try.func33, Try.ntmps33
  cases t
  all_goals
    go_wp2
    go_ret
    exact ⟨rfl, by simp⟩

def cnt (ac eb ib : Bool) : Nat → Nat
  | 0 => 0
  | 1 => bit ac
  | 2 => bit ac + bit eb
  | _ => bit ac + bit eb + bit ib
theorem cnt_le (ac eb ib : Bool) (j : Nat) : cnt ac eb ib j ≤ 3 := by
  have h1 := bit_le ac; have h2 := bit_le eb; have h3 := bit_le ib
  unfold cnt
  split <;> omega
theorem cnt_next (ac eb ib : Bool) (j : Nat) (h : j < 3) : cnt ac eb ib (j + 1) = cnt ac eb ib j + bit ([ac, eb, ib].getD j false) := by
  match j, h with
  | 0, _ => simp [cnt]
  | 1, _ => simp [cnt]
  | 2, _ => simp [cnt]

/-- One of three truths. -/
theorem run_index_three (w : World) (a b c : Bool) (n : Int) (k : Nat) (hn : n = k) (hk : k < 3) : (Instr.index 70 (.agg #[.bool a, .bool b, .bool c]) (.int .i64 n)).run Try.prog w = .ok (.bool ([a, b, c].getD k false)) w := by
  subst hn
  have h3 : (part 4 #[.bool a, .bool b, .bool c] k).run Try.prog w = .ok (.bool ([a, b, c].getD k false)) w := by
    match k, hk with
    | 0, _ => simp [part, Try.isAgg4]
    | 1, _ => simp [part, Try.isAgg4]
    | 2, _ => simp [part, Try.isAgg4]
  simp [Instr.index, asIntOf, run_underlying Try.underlying70, Try.sizeOf4, h3]
  intro h; omega
theorem st_three {ops : Array Oper} {rest : List Oper} {o : Oper} {a : Act} {w : World} {Q : Exit → Act → World → Prop} (hgd : o.guard = none) (x ix : Operand) (ho : o.op = .index 70 x ix) (p q r : Bool) (hx : a.eval x = .agg #[.bool p, .bool q, .bool r]) (n : Int) (hi : a.eval ix = .int .i64 n) (k : Nat) (hn : n = k) (hk : k < 3)
    (h : wpList Try.prog ops Q rest (a.put o.dst (.bool ([p, q, r].getD k false))) w) : wpList Try.prog ops Q (o :: rest) a w := by
  refine wpList_plain hgd fun K hK => ?_
  unfold Oper.wp execOp
  simp only [ho, hx, hi, run_index_three w p q r n k hn hk, Sem.run_bind, Sem.run_pure, Result.andThen_ok]
  exact hK _ _ h

def CodesPost (n : Nat) (w : World) (e : Ending) (w' : World) : Prop := e = .returned (.int .i64 n) ∧ Below w.heap.size w w'
set_option maxHeartbeats 1000000 in
set_option maxRecDepth 100000 in
theorem codes_any (x : Cf) (w : World) : Calls Try.prog 30 #[x.val] w (CodesPost x.codes w) := by
  obtain ⟨sw, bl, ub, lc, uc, ac, eb, ib, cb⟩ := x
  show Calls Try.prog 30 #[.agg #[.bool sw, .bool bl, .bool ub, .bool lc, .bool uc, .bool ac, .bool eb, .bool ib, .int .i64 cb]] w (CodesPost (bit ac + bit eb + bit ib) w)
  go_enter Try.func30, Try.ntmps30
  go_wp2
  obtain ⟨W, hW⟩ : ∃ W, w.alloc (.cells #[.bool sw, .bool bl, .bool ub, .bool lc, .bool uc, .bool ac, .bool eb, .bool ib, .int .i64 cb] 23) = W := ⟨_, rfl⟩
  have K := Lib.hid (show Below w.heap.size w W by rw [← hW]; exact (Below.refl _ _).alloc (Nat.le_refl _) _)
  rw [hW]
  clear hW
  go_loopw [3, 13] (fun vn i wr => ∃ (j n : Nat), j ≤ 3 ∧ i = .int .i64 j ∧ vn = .int .i64 n ∧ Hid (n = cnt ac eb ib j) ∧ n ≤ 3 ∧ W = wr) (fun _ i _ => 3 - (intOf i).toNat)
  case atStart => exact ⟨0, 0, by omega, rfl, rfl, rfl, by omega, rfl⟩
  case round =>
    obtain ⟨j, n, hj, rfl, rfl, EN, hn, rfl⟩ := hrel
    by_cases hlt : j < 3
    · have EX := Lib.hid (cnt_next ac eb ib j hlt)
      rw [← EN.out] at EX
      have hb := bit_le ([ac, eb, ib].getD j false)
      have HL := Lib.hid (cnt_le ac eb ib (j + 1))
      generalize hv : [ac, eb, ib].getD j false = v at *
      have HV := Lib.hid hv
      clear hv
      cases v
      · have EY := Lib.hid (show n = cnt ac eb ib (j + 1) from EX.out.symm)
        go_wp2_with (refine st_three rfl _ _ rfl ac eb ib rfl _ rfl j rfl hlt ?_; rw [HV.out])
        go_roundw
        case rel => exact ⟨j + 1, n, by omega, by go_num, rfl, EY.out, hn, by simp⟩
        case measure => simp [intOf]; omega
      · have EY := Lib.hid (show n + 1 = cnt ac eb ib (j + 1) from EX.out.symm)
        have hn2 : n + 1 ≤ 3 := by rw [EY.out]; exact HL.out
        go_wp2_with (refine st_three rfl _ _ rfl ac eb ib rfl _ rfl j rfl hlt ?_; rw [HV.out])
        go_roundw
        case rel => exact ⟨j + 1, n + 1, by omega, by go_num, by go_num, EY.out, hn2, by simp⟩
        case measure => simp [intOf]; omega
    · obtain rfl : j = 3 := by omega
      go_wp2
      go_ret
      exact ⟨by rw [EN.out]; rfl, K.out⟩

end Go.Proofs.Ytghihmmapignmaa
