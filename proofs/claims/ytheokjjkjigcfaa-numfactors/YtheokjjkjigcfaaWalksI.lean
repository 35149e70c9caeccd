/- Contracts of the reference digits, and of Dec and Hex, both. -/
import Derived.Test.YtheokjjkjigcfaaRows
import Derived.Test.YtheokjjkjigcfaaWalksH
import Derived.WalkKit
import Derived.WalkSpells
import Derived.WalkLawsBesides
import Derived.Lib.Hide
namespace Go.Proofs.Ytheokjjkjigcfaa
open Go.RowKit

theorem fig_cut (d : Nat) (h : d < 16) : (ByteArray.mk #[48, 49, 50, 51, 52, 53, 54, 55, 56, 57, 65, 66, 67, 68, 69, 70]).extract d (d + 1) = Plain.bs [Plain.fig d] := by
  apply ByteArray.ext
  apply Array.toList_inj.1
  rw [Lib.extract_data, Plain.bs_data]
  match d, h with
  | 0, _ | 1, _ | 2, _ | 3, _ | 4, _ | 5, _ | 6, _ | 7, _ | 8, _ | 9, _ | 10, _ | 11, _ | 12, _ | 13, _ | 14, _ | 15, _ => rfl
  | d + 16, h => omega
theorem ret_txt {b : List UInt8} {t : ByteArray} (h : Plain.bs b = t) : Ending.returned (.string t) = .returned (.string (Plain.bs b)) := by rw [h]
theorem fig_cons (d : Nat) (t : ByteArray) : (Plain.bs [Plain.fig d] ++ t).data.toList = Plain.fig d :: t.data.toList ∧ (Plain.bs [Plain.fig d] ++ t).size = t.size + 1 := by
  have h : Plain.bs [Plain.fig d] ++ t = Plain.bs (Plain.fig d :: t.data.toList) := by
    conv => lhs; rw [← Plain.bs_of t, Plain.bs_append]
    rfl
  rw [h, Plain.bs_data, Plain.bs_size]
  exact ⟨rfl, by simp⟩

set_option maxHeartbeats 2000000 in
theorem digits_any (n base least : Nat) (w : World) (hb : 2 ≤ base) (hb2 : base ≤ 16) (hl : least ≤ 20) (hn : n ≤ 18446744073709551615) (hn2 : n < base ^ 20) :
    Calls Try.prog 28 #[.int .u64 (n : Int), .int .u64 (base : Int), .int .i64 (least : Int)] w fun e w' => e = .returned (.string (Plain.bs (Plain.digits base least n))) ∧ w = w' := by
  have HN := Lib.hid hn2; clear hn2
  go_enter Try.func28, Try.ntmps28
  go_wp2
  go_loop [0, 7] (fun nn st => ∃ (f u : Nat) (t : ByteArray), st = .string t ∧ nn = .int .u64 u ∧ t.size + f = 20 ∧ u ≤ 18446744073709551615 ∧ Hid (u < base ^ f) ∧ Hid (Plain.digits base least n = Plain.wr base least f u t.data.toList)) (fun _ st => 20 - (match st with | .string t => t.size | _ => 0))
  case atStart => exact ⟨20, n, ⟨#[]⟩, rfl, rfl, rfl, hn, HN, rfl⟩
  case round =>
    obtain ⟨f, u, t, rfl, rfl, hacc, hu, HU, HE⟩ := hrel
    have HT := Lib.hid (Plain.len_data t)
    by_cases hgo : 0 < u ∨ t.size < least
    · have hf1 : 1 ≤ f := by
        rcases hgo with h | h
        · have := HU.out
          rcases Nat.eq_zero_or_pos f with h0 | h0
          · rw [h0] at this; simp at this; omega
          · exact h0
        · omega
      obtain ⟨g, rfl⟩ : ∃ g, f = g + 1 := ⟨f - 1, by omega⟩
      obtain ⟨q, hq⟩ : ∃ q, u / base = q := ⟨_, rfl⟩
      obtain ⟨d, hd⟩ : ∃ d, u % base = d := ⟨_, rfl⟩
      have hdb : d < 16 := by rw [← hd]; have := Nat.mod_lt u (show 0 < base by omega); omega
      have hqu : q ≤ u := by rw [← hq]; exact Nat.div_le_self _ _
      have hqi : (u : Int) / (base : Int) = (q : Int) := by rw [← hq]; simp
      have hdi : (u : Int) % (base : Int) = (d : Int) := by rw [← hd]; simp
      have hcut := fig_cut d hdb
      obtain ⟨hdat, hsiz⟩ := fig_cons d t
      have hone : (Plain.bs [Plain.fig d]).size = 1 := rfl
      have Y : Hid (Plain.digits base least n = Plain.wr base least g q (Plain.bs [Plain.fig d] ++ t).data.toList) := by
        unfold Hid
        rw [HE.out, Plain.wr_yes _ _ _ _ _ (by rw [HT.out]; exact hgo), hq, hd, hdat]
      have Z : Hid (q < base ^ g) := by
        unfold Hid
        rw [← hq, Nat.div_lt_iff_lt_mul (by omega)]
        have := HU.out
        rwa [Nat.pow_succ] at this
      clear hq hd hdat
      have HSZ := Lib.hid hsiz; clear hsiz
      by_cases h0 : 0 < u
      · clear hgo
        go_wp2
        go_round
        case rel => exact ⟨g, q, _, rfl, by go_num, by have := HSZ.out; omega, by omega, Z, Y⟩
        case measure => have := HSZ.out; simp only []; omega
      · have hlt : t.size < least := by omega
        clear hgo
        go_wp2
        go_round
        case rel => exact ⟨g, q, _, rfl, by go_num, by have := HSZ.out; omega, by omega, Z, Y⟩
        case measure => have := HSZ.out; simp only []; omega
    · have h0 : ¬ 0 < u := fun h => hgo (.inl h)
      have h1 : ¬ t.size < least := fun h => hgo (.inr h)
      have hv : Plain.bs (Plain.digits base least n) = t := by rw [HE.out, Plain.wr_no _ _ _ _ _ (by rw [HT.out]; exact hgo), Plain.bs_of]
      have HV := Lib.hid hv; clear hv
      clear hgo
      go_wp2
      go_ret
      exact ⟨ret_txt HV.out, rfl⟩


theorem wrap_neg (m : Nat) (h1 : 1 ≤ m) (h2 : m ≤ 18446744073709551615) : IntKind.u64.wrap (-(m : Int)) = 18446744073709551616 - (m : Int) := by
  have : IntKind.u64.wrap (-(m : Int)) = (-(m : Int)) % 18446744073709551616 := by simp [IntKind.wrap, IntKind.signed, IntKind.bits]
  rw [this]; omega
theorem wrap_back (m : Nat) (h2 : m ≤ 18446744073709551615) : IntKind.u64.wrap (-(18446744073709551616 - (m : Int))) = (m : Int) := by
  have : IntKind.u64.wrap (-(18446744073709551616 - (m : Int))) = (-(18446744073709551616 - (m : Int))) % 18446744073709551616 := by simp [IntKind.wrap, IntKind.signed, IntKind.bits]
  rw [this]; omega

set_option maxHeartbeats 1000000 in
theorem dec_any (n : Int) (w : World) (h0 : -9223372036854775808 ≤ n) (h1 : n ≤ 9223372036854775807) :
    Calls Try.prog 12 #[.int .i64 n] w fun e w' => e = .returned (.string (Plain.bs (Plain.decL n))) ∧ Below w.heap.size w w' := by
  by_cases hneg : n < 0
  · obtain ⟨m, rfl⟩ : ∃ m : Nat, n = -(m : Int) := ⟨(-n).toNat, by omega⟩
    have hv : Plain.bs (Plain.decL (-(m : Int))) = ByteArray.mk #[45] ++ Plain.bs (Plain.digits 10 1 m) := by
      rw [Plain.decL, if_pos hneg, show (- -(m : Int)).toNat = m by omega, show ByteArray.mk #[45] = Plain.bs [45] from rfl, Plain.bs_append]; rfl
    have HV := Lib.hid hv; clear hv
    have hm1 : 1 ≤ m := by omega
    have hm2 : m ≤ 9223372036854775808 := by omega
    clear h0 h1
    have hz := Plain.digits_len 10 1 20 m (by omega) (by omega) (by omega)
    have hsz : (Plain.bs (Plain.digits 10 1 m)).size ≤ 20 := by rw [Plain.bs_size]; exact hz
    clear hz
    have w1 : IntKind.u64.wrap (-(m : Int)) = 18446744073709551616 - (m : Int) := wrap_neg m hm1 (by omega)
    have w2 : IntKind.u64.wrap (-(18446744073709551616 - (m : Int))) = (m : Int) := wrap_back m (by omega)
    go_enter Try.func12, Try.ntmps12
    go_wp2_with fail
    refine (write_any m 10 1 _ (by omega) (by omega) (by omega) (by omega) (by omega) (by omega)).mono ?_
    rintro e w1 ⟨rfl, k1⟩
    go_wp2
    go_ret
    exact ⟨ret_txt HV.out, k1⟩
  · obtain ⟨m, rfl⟩ : ∃ m : Nat, n = (m : Int) := ⟨n.toNat, by omega⟩
    have hv : Plain.decL (m : Int) = Plain.digits 10 1 m := by rw [Plain.decL, if_neg hneg, Int.toNat_natCast]
    have HV := Lib.hid hv; clear hv
    clear h0
    go_enter Try.func12, Try.ntmps12
    go_wp2_with fail
    refine (write_any m 10 1 _ (by omega) (by omega) (by omega) (by omega) (by omega) (by omega)).mono ?_
    rintro e w1 ⟨rfl, k1⟩
    go_wp2
    go_ret
    exact ⟨ret_str HV.out, k1⟩

set_option maxHeartbeats 1000000 in
theorem rdec_any (n : Int) (w : World) (h0 : -9223372036854775808 ≤ n) (h1 : n ≤ 9223372036854775807) :
    Calls Try.prog 17 #[.int .i64 n] w fun e w' => e = .returned (.string (Plain.bs (Plain.decL n))) ∧ w = w' := by
  by_cases hneg : n < 0
  · obtain ⟨m, rfl⟩ : ∃ m : Nat, n = -(m : Int) := ⟨(-n).toNat, by omega⟩
    have hv : Plain.bs (Plain.decL (-(m : Int))) = ByteArray.mk #[45] ++ Plain.bs (Plain.digits 10 1 m) := by
      rw [Plain.decL, if_pos hneg, show (- -(m : Int)).toNat = m by omega, show ByteArray.mk #[45] = Plain.bs [45] from rfl, Plain.bs_append]; rfl
    have HV := Lib.hid hv; clear hv
    have hm1 : 1 ≤ m := by omega
    have hm2 : m ≤ 9223372036854775808 := by omega
    clear h0 h1
    have hz := Plain.digits_len 10 1 20 m (by omega) (by omega) (by omega)
    have hsz : (Plain.bs (Plain.digits 10 1 m)).size ≤ 20 := by rw [Plain.bs_size]; exact hz
    clear hz
    have w0 : IntKind.i64.wrap (-(m : Int) + 1) = -(m : Int) + 1 := IntWalk.i64_in _ (by omega)
    have w1 : IntKind.i64.wrap (-(-(m : Int) + 1)) = (m : Int) - 1 := (IntWalk.i64_in _ (by omega)).trans (by omega)
    go_enter Try.func17, Try.ntmps17
    go_wp2_with fail
    refine (digits_any m 10 1 _ (by omega) (by omega) (by omega) (by omega) (by omega)).mono ?_
    rintro e w1 ⟨rfl, rfl⟩
    go_wp2
    go_ret
    exact ⟨ret_txt HV.out, rfl⟩
  · obtain ⟨m, rfl⟩ : ∃ m : Nat, n = (m : Int) := ⟨n.toNat, by omega⟩
    have hv : Plain.decL (m : Int) = Plain.digits 10 1 m := by rw [Plain.decL, if_neg hneg, Int.toNat_natCast]
    have HV := Lib.hid hv; clear hv
    clear h0
    go_enter Try.func17, Try.ntmps17
    go_wp2_with fail
    refine (digits_any m 10 1 _ (by omega) (by omega) (by omega) (by omega) (by omega)).mono ?_
    rintro e w1 ⟨rfl, rfl⟩
    go_wp2
    go_ret
    exact ⟨ret_str HV.out, rfl⟩

set_option maxHeartbeats 1000000 in
theorem hex_any (n : Int) (w : World) (h1 : n ≤ 9223372036854775807) :
    Calls Try.prog 11 #[.int .i64 n] w fun e w' => e = .returned (.string (Plain.bs (Plain.hexL n))) ∧ Below w.heap.size w w' := by
  by_cases hneg : n < 0
  · have hv : Plain.bs (Plain.hexL n) = ByteArray.mk #[] := by rw [Plain.hexL, if_pos hneg]; rfl
    have HV := Lib.hid hv; clear hv
    go_enter Try.func11, Try.ntmps11
    go_wp2
    go_ret
    exact ⟨ret_txt HV.out, Below.refl _ _⟩
  · obtain ⟨m, rfl⟩ : ∃ m : Nat, n = (m : Int) := ⟨n.toNat, by omega⟩
    have hv : Plain.bs (Plain.hexL (m : Int)) = ByteArray.mk #[48, 120] ++ Plain.bs (Plain.digits 16 8 m) := by
      rw [Plain.hexL, if_neg hneg, Int.toNat_natCast, show ByteArray.mk #[48, 120] = Plain.bs [48, 120] from rfl, Plain.bs_append]; rfl
    have HV := Lib.hid hv; clear hv
    have hz := Plain.digits_len 16 8 20 m (by omega) (by omega) (by omega)
    have hsz : (Plain.bs (Plain.digits 16 8 m)).size ≤ 20 := by rw [Plain.bs_size]; exact hz
    clear hz
    go_enter Try.func11, Try.ntmps11
    go_wp2_with fail
    refine (write_any m 16 8 _ (by omega) (by omega) (by omega) (by omega) (by omega) (by omega)).mono ?_
    rintro e w1 ⟨rfl, k1⟩
    go_wp2
    go_ret
    exact ⟨ret_txt HV.out, k1⟩

set_option maxHeartbeats 1000000 in
theorem rhex_any (n : Int) (w : World) (h1 : n ≤ 9223372036854775807) :
    Calls Try.prog 18 #[.int .i64 n] w fun e w' => e = .returned (.string (Plain.bs (Plain.hexL n))) ∧ w = w' := by
  by_cases hneg : n < 0
  · have hv : Plain.bs (Plain.hexL n) = ByteArray.mk #[] := by rw [Plain.hexL, if_pos hneg]; rfl
    have HV := Lib.hid hv; clear hv
    go_enter Try.func18, Try.ntmps18
    go_wp2
    go_ret
    exact ⟨ret_txt HV.out, rfl⟩
  · obtain ⟨m, rfl⟩ : ∃ m : Nat, n = (m : Int) := ⟨n.toNat, by omega⟩
    have hv : Plain.bs (Plain.hexL (m : Int)) = ByteArray.mk #[48, 120] ++ Plain.bs (Plain.digits 16 8 m) := by
      rw [Plain.hexL, if_neg hneg, Int.toNat_natCast, show ByteArray.mk #[48, 120] = Plain.bs [48, 120] from rfl, Plain.bs_append]; rfl
    have HV := Lib.hid hv; clear hv
    have hz := Plain.digits_len 16 8 20 m (by omega) (by omega) (by omega)
    have hsz : (Plain.bs (Plain.digits 16 8 m)).size ≤ 20 := by rw [Plain.bs_size]; exact hz
    clear hz
    go_enter Try.func18, Try.ntmps18
    go_wp2_with fail
    refine (digits_any m 16 8 _ (by omega) (by omega) (by omega) (by omega) (by omega)).mono ?_
    rintro e w1 ⟨rfl, rfl⟩
    go_wp2
    go_ret
    exact ⟨ret_txt HV.out, rfl⟩

end Go.Proofs.Ytheokjjkjigcfaa
