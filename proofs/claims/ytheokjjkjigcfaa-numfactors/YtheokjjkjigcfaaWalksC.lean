/- Contract of the reference number. -/
import Derived.Test.YtheokjjkjigcfaaRows
import Derived.Test.YtheokjjkjigcfaaWalksB
import Derived.WalkKit
import Derived.WalkSpells
import Derived.WalkLawsBesides
import Derived.Lib.Hide
namespace Go.Proofs.Ytheokjjkjigcfaa
open Go.RowKit

theorem wraps2 {base u : Nat} {d : Int} (d0 : 0 ≤ d) (h : u * base + d.toNat ≤ 18446744073709551615) : IntKind.u64.wrap ((u : Int) * (base : Int)) = (u : Int) * (base : Int) ∧ IntKind.u64.wrap ((u : Int) * (base : Int) + d) = (u : Int) * (base : Int) + d := by
  have e : (u : Int) * (base : Int) = ((u * base : Nat) : Int) := by simp
  rw [e]
  exact ⟨IntWalk.u64_in _ (by omega), IntWalk.u64_in _ (by omega)⟩
theorem num_step2 (u base d : Nat) (x : Int) (h : x = d) : Value.int .u64 ((u : Int) * (base : Int) + x) = .int .u64 ((u * base + d : Nat) : Int) := by subst h; simp

set_option maxHeartbeats 2000000 in
theorem number_any (s : ByteArray) (base most : Nat) (w : World) (hs : s.size ≤ maxLen) (hb : 2 ≤ base) (hb2 : base ≤ 16) (hm2 : most ≤ 20) (hm : base ^ most ≤ 18446744073709551616) :
    Calls Try.prog 25 #[.string s, .int .u64 (base : Int), .int .i64 (most : Int)] w fun e w' => e = .returned (.tuple #[.int .i64 (Plain.readV base most s.data.toList), .bool (Plain.readOk base most s.data.toList)]) ∧ w = w' := by
  unfold maxLen at hs
  have HM := Lib.hid hm; clear hm
  have HL := Lib.hid (Plain.len_data s)
  by_cases h1 : 1 ≤ s.size ∧ s.size ≤ most
  · have hv : Plain.readS base most s.data.toList = Plain.most? (Plain.readFrom base 0 s.data.toList) := by rw [Plain.readS, if_pos (by rw [HL.out]; exact h1)]
    have HV := Lib.hid hv; clear hv
    obtain ⟨h1a, h1b⟩ := h1
    have d1 : decide ((s.size : Int) < 1) = false := by simp; omega
    have d2 : decide (most < s.size) = false := by simp; omega
    go_enter Try.func25, Try.ntmps25
    go_wp2
    go_loop [8, 9] (fun n i => ∃ (k u : Nat), k ≤ s.size ∧ i = .int .i64 k ∧ n = .int .u64 u ∧ Hid (u < base ^ k) ∧ Hid (Plain.readFrom base 0 s.data.toList = Plain.readFrom base u (s.data.toList.drop k))) (fun _ i => s.size - (intOf i).toNat)
    case atStart => exact ⟨0, 0, Nat.zero_le _, rfl, rfl, by simp [Hid], by simp [Hid]⟩
    case round =>
      obtain ⟨k, u, hk, rfl, rfl, HU, HE⟩ := hrel
      by_cases hlt : k < s.size
      · have hd := Plain.data_at s k hlt
        have HD := Lib.hid hd; clear hd
        have hc : s[k].toNat ≤ 255 := by have := s[k].toNat_lt; omega
        by_cases c1 : 48 ≤ s[k].toNat ∧ s[k].toNat ≤ 57
        · have hg : Plain.dg s[k].toNat = s[k].toNat - 48 := by rw [Plain.dg, if_pos c1]
          have HG := Lib.hid hg; clear hg
          obtain ⟨c1a, c1b⟩ := c1
          by_cases hdb : s[k].toNat - 48 < base
          · obtain ⟨p1, p2⟩ := pow_step hb HU.out hdb (show k + 1 ≤ most by omega) HM.out
            obtain ⟨w1, w2⟩ := wraps2 (base := base) (u := u) (d := (s[k].toNat : Int) - 48) (by omega) (by omega)
            have P1 := Lib.hid p1; clear p1 p2
            go_wp2
            go_round
            case rel => exact ⟨k + 1, u * base + (s[k].toNat - 48), by omega, by go_num, by rw [num_step2 u base (s[k].toNat - 48) _ (by omega)], P1, by unfold Hid; rw [HE.out, HD.out, Plain.readFrom_yes _ _ _ _ (by rw [HG.out]; exact hdb), HG.out]⟩
            case measure => simp [intOf]; omega
          · have hv : Plain.readS base most s.data.toList = none := by rw [HV.out, HE.out, HD.out, Plain.readFrom_no _ _ _ _ (by rw [HG.out]; exact hdb)]; rfl
            have HW := Lib.hid hv; clear hv
            go_wp2
            go_ret2
            exact ⟨ret_read (readV_none HW.out), rfl⟩
        · by_cases c2 : 97 ≤ s[k].toNat ∧ s[k].toNat ≤ 102
          · have hg : Plain.dg s[k].toNat = s[k].toNat - 87 := by rw [Plain.dg, if_neg c1, if_neg (by omega), if_pos c2]
            have HG := Lib.hid hg; clear hg
            obtain ⟨c2a, c2b⟩ := c2
            clear c1
            by_cases hdb : s[k].toNat - 87 < base
            · obtain ⟨p1, p2⟩ := pow_step hb HU.out hdb (show k + 1 ≤ most by omega) HM.out
              obtain ⟨w1, w2⟩ := wraps2 (base := base) (u := u) (d := (s[k].toNat : Int) - 97 + 10) (by omega) (by omega)
              have P1 := Lib.hid p1; clear p1 p2
              go_wp2
              go_round
              case rel => exact ⟨k + 1, u * base + (s[k].toNat - 87), by omega, by go_num, by rw [num_step2 u base (s[k].toNat - 87) _ (by omega)], P1, by unfold Hid; rw [HE.out, HD.out, Plain.readFrom_yes _ _ _ _ (by rw [HG.out]; exact hdb), HG.out]⟩
              case measure => simp [intOf]; omega
            · have hv : Plain.readS base most s.data.toList = none := by rw [HV.out, HE.out, HD.out, Plain.readFrom_no _ _ _ _ (by rw [HG.out]; exact hdb)]; rfl
              have HW := Lib.hid hv; clear hv
              go_wp2
              go_ret2
              exact ⟨ret_read (readV_none HW.out), rfl⟩
          · by_cases c3 : 65 ≤ s[k].toNat ∧ s[k].toNat ≤ 70
            · have hg : Plain.dg s[k].toNat = s[k].toNat - 55 := by rw [Plain.dg, if_neg c1, if_pos c3]
              have HG := Lib.hid hg; clear hg
              obtain ⟨c3a, c3b⟩ := c3
              clear c1 c2
              by_cases hdb : s[k].toNat - 55 < base
              · obtain ⟨p1, p2⟩ := pow_step hb HU.out hdb (show k + 1 ≤ most by omega) HM.out
                obtain ⟨w1, w2⟩ := wraps2 (base := base) (u := u) (d := (s[k].toNat : Int) - 65 + 10) (by omega) (by omega)
                have P1 := Lib.hid p1; clear p1 p2
                go_wp2
                go_round
                case rel => exact ⟨k + 1, u * base + (s[k].toNat - 55), by omega, by go_num, by rw [num_step2 u base (s[k].toNat - 55) _ (by omega)], P1, by unfold Hid; rw [HE.out, HD.out, Plain.readFrom_yes _ _ _ _ (by rw [HG.out]; exact hdb), HG.out]⟩
                case measure => simp [intOf]; omega
              · have hv : Plain.readS base most s.data.toList = none := by rw [HV.out, HE.out, HD.out, Plain.readFrom_no _ _ _ _ (by rw [HG.out]; exact hdb)]; rfl
                have HW := Lib.hid hv; clear hv
                go_wp2
                go_ret2
                exact ⟨ret_read (readV_none HW.out), rfl⟩
            · have hg : Plain.dg s[k].toNat = 16 := by rw [Plain.dg, if_neg c1, if_neg c3, if_neg c2]
              have hv : Plain.readS base most s.data.toList = none := by rw [HV.out, HE.out, HD.out, Plain.readFrom_no _ _ _ _ (by rw [hg]; omega)]; rfl
              have HW := Lib.hid hv; clear hv hg
              have C1 := Lib.hid c1; have C2 := Lib.hid c2; have C3 := Lib.hid c3; clear c1 c2 c3
              go_wp2
              all_goals first | (exfalso; have := C1.out; have := C2.out; have := C3.out; omega) | (go_ret2; exact ⟨ret_read (readV_none HW.out), rfl⟩)
      · have hv : Plain.readFrom base 0 s.data.toList = some u := by rw [HE.out, List.drop_of_length_le (by have := HL.out; omega)]; rfl
        have HW := Lib.hid hv; clear hv
        by_cases hu : u ≤ 4611686018427387904
        · have hx : Plain.readS base most s.data.toList = some u := by rw [HV.out, HW.out, Plain.most?, if_pos hu]
          have HX := Lib.hid hx; clear hx
          go_wp2
          go_ret2
          exact ⟨ret_read (readV_some HX.out), rfl⟩
        · have hx : Plain.readS base most s.data.toList = none := by rw [HV.out, HW.out, Plain.most?, if_neg hu]
          have HX := Lib.hid hx; clear hx
          go_wp2
          go_ret2
          exact ⟨ret_read (readV_none HX.out), rfl⟩
  · have hv : Plain.readS base most s.data.toList = none := by rw [Plain.readS, if_neg (by rw [HL.out]; exact h1)]
    have HV := Lib.hid hv; clear hv
    by_cases h2 : 1 ≤ s.size
    · have h3 : ¬ s.size ≤ most := fun h => h1 ⟨h2, h⟩
      clear h1
      go_enter Try.func25, Try.ntmps25
      go_wp2
      go_ret2
      exact ⟨ret_read (readV_none HV.out), rfl⟩
    · clear h1
      go_enter Try.func25, Try.ntmps25
      go_wp2
      go_ret2
      exact ⟨ret_read (readV_none HV.out), rfl⟩

end Go.Proofs.Ytheokjjkjigcfaa
