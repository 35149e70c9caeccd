/- The walk of the law NumZeros. -/
import Derived.Test.YtheokjjkjigcfaaRead
import Derived.Test.YtheokjjkjigcfaaPlainB
import Derived.Test.YtheokjjkjigcfaaWalksR
import Derived.WalkKit
import Derived.WalkSpells
import Derived.WalkLawsBesides
import Derived.Lib.Hide
namespace Go.Proofs.Ytheokjjkjigcfaa
open Go.RowKit

theorem cons_data (c : UInt8) (t : ByteArray) : (ByteArray.mk #[c] ++ t).data.toList = c :: t.data.toList := by
  rw [show ByteArray.mk #[c] = Plain.bs [c] from rfl]
  conv => lhs; rw [← Plain.bs_of t, Plain.bs_append, Plain.bs_data]
  rfl
theorem cons2_data (c d : UInt8) (t : ByteArray) : (ByteArray.mk #[c, d] ++ t).data.toList = c :: d :: t.data.toList := by
  rw [show ByteArray.mk #[c, d] = Plain.bs [c, d] from rfl]
  conv => lhs; rw [← Plain.bs_of t, Plain.bs_append, Plain.bs_data]
  rfl
theorem decL_nat (m : Nat) : Plain.decL (m : Int) = Plain.digits 10 1 m := by rw [Plain.decL, if_neg (by omega), Int.toNat_natCast]

set_option maxRecDepth 100000 in
set_option maxHeartbeats 4000000 in
theorem zeros_walk (n k : Int) (w : World) (wn : (Lit.int .u32 n).wf = true) (wk : (Lit.int .u8 k).wf = true) :
    Calls Try.prog 7 #[.int .u32 n, .int .u8 k] w fun e w' => e = .returned (.bool true) ∧ Below w.heap.size w w' := by
  obtain ⟨n0, n1⟩ := bounds_u32 wn
  obtain ⟨k0, k1⟩ := bounds_u8 wk
  clear wn wk
  obtain ⟨m, rfl⟩ : ∃ m : Nat, n = (m : Int) := ⟨n.toNat, by omega⟩
  obtain ⟨K, rfl⟩ : ∃ K : Nat, k = (K : Int) := ⟨k.toNat, by omega⟩
  obtain ⟨r, hr⟩ : ∃ r : Nat, (K : Int) % 6 = (r : Int) := ⟨K % 6, by simp⟩
  have hr5 : r ≤ 5 := by omega
  have hm : m ≤ 4294967295 := by omega
  clear n0 n1 k0
  obtain ⟨v, Z1, Z2, Z3, Z4⟩ := Plain.zeros_all m (r + 1) hm (by omega) (by omega)
  have Z1 := Lib.hid Z1; have Z2 := Lib.hid Z2; have Z3 := Lib.hid Z3; have Z4 := Lib.hid Z4
  have HL := Lib.hid (show (Plain.bs (Plain.decL (m : Int))).size ≤ 21 by rw [Plain.bs_size]; exact (Plain.decL_len m (by omega) (by omega)).2)
  have HD := Lib.hid (decL_nat m)
  go_enter Try.func7, Try.ntmps7
  go_wp2_with fail
  refine (dec_any _ _ (by omega) (by omega)).mono ?_
  rintro e w1 ⟨rfl, b1⟩
  go_wp2
  go_loop [5, 6] (fun st i => ∃ (j : Nat) (t : ByteArray), i = .int .i64 j ∧ st = .string t ∧ j ≤ r + 1 ∧ t.size ≤ 21 + j ∧ Hid (t.data.toList = List.replicate j 48 ++ Plain.digits 10 1 m)) (fun _ i => r + 1 - (intOf i).toNat)
  case atStart => exact ⟨0, Plain.bs (Plain.decL (m : Int)), rfl, rfl, by omega, HL.out, by rw [HD.out]; rfl⟩
  case round =>
    obtain ⟨j, t, rfl, rfl, hj, hsz, HT⟩ := hrel
    by_cases hlt : j ≤ r
    · have X : Hid ((ByteArray.mk #[48] ++ t).data.toList = List.replicate (j + 1) 48 ++ Plain.digits 10 1 m) := by
        unfold Hid
        rw [cons_data, HT.out, List.replicate_succ]; rfl
      have S : Hid ((ByteArray.mk #[48] ++ t).size ≤ 21 + (j + 1)) := by
        unfold Hid
        have : (ByteArray.mk #[48] ++ t).size = t.size + 1 := by rw [← Plain.len_data, cons_data, List.length_cons, Plain.len_data]
        omega
      go_wp2
      go_round
      case rel => exact ⟨j + 1, _, by go_num, rfl, by omega, S.out, X⟩
      case measure => simp [intOf]; omega
    · obtain rfl : r + 1 = j := by omega
      have T2 := Lib.hid (cons2_data 48 120 t)
      have S2 := Lib.hid (show (ByteArray.mk #[48, 120] ++ t).size ≤ 100 by rw [← Plain.len_data, cons2_data, List.length_cons, List.length_cons, Plain.len_data]; omega)
      go_wp2_with fail
      refine (get_at t _ (some (m : Int)) _ HT.out Z1.out (by omega)).mono ?_
      rw [Option.isSome_some, show Plain.intV (some (m : Int)) = (m : Int) from rfl]
      rintro e w2 ⟨rfl, b2⟩
      have b2 := b1.trans (b2.mono b1.size)
      clear b1
      go_wp2_with fail
      refine (getDec_at t _ none _ HT.out Z2.out (by unfold maxLen; omega)).mono ?_
      rw [Option.isSome_none, show Plain.natV none = 0 from rfl]
      rintro e w3 ⟨rfl, rfl⟩
      go_wp2_with fail
      refine (getHex_at _ _ (some v) _ (T2.out.trans (by rw [HT.out])) Z3.out (by have := S2.out; unfold maxLen; omega)).mono ?_
      rw [Option.isSome_some]
      rintro e w3 ⟨rfl, rfl⟩
      clear T2 S2
      have T2 := Lib.hid (cons2_data 48 120 (Plain.bs (Plain.decL (m : Int))))
      have S2 := Lib.hid (show (ByteArray.mk #[48, 120] ++ Plain.bs (Plain.decL (m : Int))).size ≤ 100 by have := HL.out; rw [← Plain.len_data, cons2_data, List.length_cons, List.length_cons, Plain.len_data]; omega)
      have S3 := HL.out
      go_wp2_with fail
      refine (dec_any _ _ (by omega) (by omega)).mono ?_
      rintro e w3 ⟨rfl, b3⟩
      have b3 := b2.trans (b3.mono b2.size)
      clear b2
      go_wp2_with fail
      refine (getHex_at _ _ (some v) _ (T2.out.trans (by rw [Plain.bs_data, HD.out])) Z4.out (by have := S2.out; unfold maxLen; omega)).mono ?_
      rw [Option.isSome_some]
      rintro e w4 ⟨rfl, rfl⟩
      go_wp2_with fail
      refine (runs_any _).mono ?_
      rintro e w5 ⟨rfl, b5⟩
      have b5 := b3.trans (b5.mono b3.size)
      clear b3
      go_wp2
      go_ret
      exact ⟨by simp, b5⟩

end Go.Proofs.Ytheokjjkjigcfaa
