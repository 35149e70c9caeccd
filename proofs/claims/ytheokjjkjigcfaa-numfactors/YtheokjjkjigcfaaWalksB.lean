/- Contract of num.read. -/
import Derived.Test.YtheokjjkjigcfaaRows
import Derived.Test.YtheokjjkjigcfaaWalksA
import Derived.WalkKit
import Derived.WalkSpells
import Derived.WalkLawsBesides
import Derived.Lib.Hide
namespace Go.Proofs.Ytheokjjkjigcfaa
open Go.RowKit

theorem pow_step {base k u d most : Nat} (hb : 2 ≤ base) (hu : u < base ^ k) (hd : d < base) (hk : k + 1 ≤ most) (hm : base ^ most ≤ 18446744073709551616) :
    u * base + d < base ^ (k + 1) ∧ u * base + d ≤ 18446744073709551615 := by
  have h1 : u * base + d < base ^ (k + 1) := by
    rw [Nat.pow_succ]
    have : (u + 1) * base ≤ base ^ k * base := Nat.mul_le_mul_right _ hu
    rw [Nat.add_mul] at this
    omega
  have h2 : base ^ (k + 1) ≤ base ^ most := Nat.pow_le_pow_right (by omega) hk
  exact ⟨h1, by omega⟩
theorem wraps {base u d : Nat} (h : u * base + d ≤ 18446744073709551615) : IntKind.u64.wrap ((u : Int) * (base : Int)) = (u : Int) * (base : Int) ∧ IntKind.u64.wrap ((u : Int) * (base : Int) + (d : Int)) = (u : Int) * (base : Int) + (d : Int) := by
  have e : (u : Int) * (base : Int) = ((u * base : Nat) : Int) := by simp
  rw [e]
  exact ⟨IntWalk.u64_in _ (by omega), IntWalk.u64_in _ (by omega)⟩
theorem readV_none {base most : Nat} {l : List UInt8} (h : Plain.readS base most l = none) : (0 : Int) = Plain.readV base most l ∧ false = Plain.readOk base most l := by simp [Plain.readV, Plain.readOk, h]
theorem readV_some {base most u : Nat} {l : List UInt8} (h : Plain.readS base most l = some u) : (u : Int) = Plain.readV base most l ∧ true = Plain.readOk base most l := by simp [Plain.readV, Plain.readOk, h]
theorem ret_read {a b : Int} {p q : Bool} (h : a = b ∧ p = q) : Ending.returned (.tuple #[.int .i64 a, .bool p]) = .returned (.tuple #[.int .i64 b, .bool q]) := by rw [h.1, h.2]
theorem num_step (u base d : Nat) : Value.int .u64 ((u : Int) * (base : Int) + (d : Int)) = .int .u64 ((u * base + d : Nat) : Int) := by simp

set_option maxHeartbeats 1000000 in
theorem read_any (s : ByteArray) (base most : Nat) (w : World) (hs : s.size ≤ maxLen) (hb : 2 ≤ base) (_hb2 : base ≤ 16) (hm2 : most ≤ 20) (hm : base ^ most ≤ 18446744073709551616) :
    Calls Try.prog 23 #[.string s, .int .u64 (base : Int), .int .i64 (most : Int)] w fun e w' => e = .returned (.tuple #[.int .i64 (Plain.readV base most s.data.toList), .bool (Plain.readOk base most s.data.toList)]) ∧ w = w' := by
  unfold maxLen at hs
  have HM := Lib.hid hm; clear hm
  have HL := Lib.hid (Plain.len_data s)
  by_cases h1 : 1 ≤ s.size ∧ s.size ≤ most
  · have hv : Plain.readS base most s.data.toList = Plain.most? (Plain.readFrom base 0 s.data.toList) := by rw [Plain.readS, if_pos (by rw [HL.out]; exact h1)]
    have HV := Lib.hid hv; clear hv
    obtain ⟨h1a, h1b⟩ := h1
    have d1 : decide ((s.size : Int) < 1) = false := by simp; omega
    have d2 : decide (most < s.size) = false := by simp; omega
    go_enter Try.func23, Try.ntmps23
    go_wp2
    go_loop [8, 22] (fun n i => ∃ (k u : Nat), k ≤ s.size ∧ i = .int .i64 k ∧ n = .int .u64 u ∧ Hid (u < base ^ k) ∧ Hid (Plain.readFrom base 0 s.data.toList = Plain.readFrom base u (s.data.toList.drop k))) (fun _ i => s.size - (intOf i).toNat)
    case atStart => exact ⟨0, 0, Nat.zero_le _, rfl, rfl, by simp [Hid], by simp [Hid]⟩
    case round =>
      obtain ⟨k, u, hk, rfl, rfl, HU, HE⟩ := hrel
      by_cases hlt : k < s.size
      · have hd := Plain.data_at s k hlt
        have HD := Lib.hid hd; clear hd
        have hc : s[k].toNat ≤ 255 := by have := s[k].toNat_lt; omega
        have hdl := Plain.dg_le s[k].toNat
        by_cases hdb : Plain.dg s[k].toNat < base
        · obtain ⟨p1, p2⟩ := pow_step hb HU.out hdb (show k + 1 ≤ most by omega) HM.out
          obtain ⟨w1, w2⟩ := wraps p2
          have P1 := Lib.hid p1; clear p1 p2
          go_wp2_with (go_at_call 32; refine (digit_any _ _ hc).mono ?_; rintro e w' ⟨rfl, rfl⟩)
          go_round
          case rel => exact ⟨k + 1, u * base + Plain.dg s[k].toNat, by omega, by go_num, by rw [num_step], P1, by unfold Hid; rw [HE.out, HD.out, Plain.readFrom_yes _ _ _ _ hdb]⟩
          case measure => simp [intOf]; omega
        · have hv : Plain.readS base most s.data.toList = none := by rw [HV.out, HE.out, HD.out, Plain.readFrom_no _ _ _ _ hdb]; rfl
          have HW := Lib.hid hv; clear hv
          go_wp2_with (go_at_call 32; refine (digit_any _ _ hc).mono ?_; rintro e w' ⟨rfl, rfl⟩)
          go_ret2
          exact ⟨ret_read (readV_none HW.out), rfl⟩
      · have hv : Plain.readFrom base 0 s.data.toList = some u := by rw [HE.out, List.drop_of_length_le (by have := HL.out; omega)]; rfl
        have HW := Lib.hid hv; clear hv
        by_cases hu : u ≤ 4611686018427387904
        · have hx : Plain.readS base most s.data.toList = some u := by rw [HV.out, HW.out, Plain.most?, if_pos hu]
          have HX := Lib.hid hx; clear hx
          go_wp2
          go_ret2
          exact ⟨ret_read (readV_some HX.out), rfl⟩
        · have hx : Plain.readS base most s.data.toList = none := by rw [HV.out, HW.out, Plain.most?, if_neg hu]
          have HX := Lib.hid hx; clear hx
          go_wp2
          go_ret2
          exact ⟨ret_read (readV_none HX.out), rfl⟩
  · have hv : Plain.readS base most s.data.toList = none := by rw [Plain.readS, if_neg (by rw [HL.out]; exact h1)]
    have HV := Lib.hid hv; clear hv
    by_cases h2 : 1 ≤ s.size
    · have h3 : ¬ s.size ≤ most := fun h => h1 ⟨h2, h⟩
      clear h1
      go_enter Try.func23, Try.ntmps23
      go_wp2
      go_ret2
      exact ⟨ret_read (readV_none HV.out), rfl⟩
    · clear h1
      go_enter Try.func23, Try.ntmps23
      go_wp2
      go_ret2
      exact ⟨ret_read (readV_none HV.out), rfl⟩

end Go.Proofs.Ytheokjjkjigcfaa
