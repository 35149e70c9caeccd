/- Contracts of num.GetDec, num.GetHex and of the reference's. -/
import Derived.Test.YtheokjjkjigcfaaRows
import Derived.Test.YtheokjjkjigcfaaWalksC
import Derived.WalkKit
import Derived.WalkSpells
import Derived.WalkLawsBesides
import Derived.Lib.Hide
namespace Go.Proofs.Ytheokjjkjigcfaa
open Go.RowKit

theorem at_is (s : ByteArray) (k : Nat) (h : k < s.size) (c : UInt8) : s.data.toList.getD k 0 = c ↔ s[k].toNat = c.toNat := by
  have : s.data.toList.getD k 0 = s[k] := by simp [List.getD_eq_getElem?_getD, Lib.data_getElem? s k h]
  rw [this, UInt8.toNat_inj]

theorem ret_opt {o : Option Nat} {a : Int} {p : Bool} (h : a = Plain.natV o ∧ p = o.isSome) : Ending.returned (.tuple #[.int .i64 a, .bool p]) = .returned (.tuple #[.int .i64 (Plain.natV o), .bool o.isSome]) := by rw [h.1, h.2]
theorem opt_none {o : Option Nat} (h : o = none) : (0 : Int) = Plain.natV o ∧ false = o.isSome := by subst h; exact ⟨rfl, rfl⟩
theorem opt_read {o : Option Nat} {base most : Nat} {l : List UInt8} (h : o = Plain.readS base most l) : Plain.readV base most l = Plain.natV o ∧ Plain.readOk base most l = o.isSome := by subst h; exact ⟨rfl, rfl⟩

set_option maxHeartbeats 1000000 in
theorem getDec_any (s : ByteArray) (w : World) (hs : s.size ≤ maxLen) :
    Calls Try.prog 13 #[.string s] w fun e w' => e = .returned (.tuple #[.int .i64 (Plain.natV (Plain.getDecS s.data.toList)), .bool (Plain.getDecS s.data.toList).isSome]) ∧ w = w' := by
  have HS := Lib.hid hs
  unfold maxLen at hs
  have HL := Lib.hid (Plain.len_data s)
  by_cases h1 : 1 < s.size
  · by_cases h2 : s[0].toNat = 48
    · have hv : Plain.getDecS s.data.toList = none := by rw [Plain.getDecS, if_pos ⟨by rw [HL.out]; exact h1, (at_is s 0 (by omega) 48).2 h2⟩]
      have HV := Lib.hid hv; clear hv
      have hz : ((s[0].toNat : Int) == 48) = true := by simp [h2]
      clear h2
      go_enter Try.func13, Try.ntmps13
      go_wp2
      go_ret2
      exact ⟨ret_opt (opt_none HV.out), rfl⟩
    · have hv : Plain.getDecS s.data.toList = Plain.readS 10 19 s.data.toList := by rw [Plain.getDecS, if_neg (fun h => h2 ((at_is s 0 (by omega) 48).1 h.2))]
      have HV := Lib.hid hv; clear hv
      have hz : ((s[0].toNat : Int) == 48) = false := by simp; omega
      clear h2
      go_enter Try.func13, Try.ntmps13
      go_wp2_with fail
      refine (read_any s 10 19 _ HS.out (by omega) (by omega) (by omega) (by decide)).mono ?_
      rintro e w1 ⟨rfl, rfl⟩
      go_wp2
      go_ret2
      exact ⟨ret_opt (opt_read HV.out), rfl⟩
  · have hv : Plain.getDecS s.data.toList = Plain.readS 10 19 s.data.toList := by rw [Plain.getDecS, if_neg (fun h => h1 (by rw [← HL.out]; exact h.1))]
    have HV := Lib.hid hv; clear hv
    go_enter Try.func13, Try.ntmps13
    go_wp2_with fail
    refine (read_any s 10 19 _ HS.out (by omega) (by omega) (by omega) (by decide)).mono ?_
    rintro e w1 ⟨rfl, rfl⟩
    go_wp2
    go_ret2
    exact ⟨ret_opt (opt_read HV.out), rfl⟩

set_option maxHeartbeats 1000000 in
theorem getHex_any (s : ByteArray) (w : World) (hs : s.size ≤ maxLen) :
    Calls Try.prog 10 #[.string s] w fun e w' => e = .returned (.tuple #[.int .i64 (Plain.natV (Plain.getHexS s.data.toList)), .bool (Plain.getHexS s.data.toList).isSome]) ∧ w = w' := by
  have HS := Lib.hid hs
  unfold maxLen at hs
  have HL := Lib.hid (Plain.len_data s)
  by_cases h1 : 2 ≤ s.size
  · by_cases h2 : s[0].toNat = 48
    · by_cases h3 : s[1].toNat = 120
      · have hv : Plain.getHexS s.data.toList = Plain.readS 16 16 (s.extract 2 s.size).data.toList := by rw [Plain.getHexS, if_pos ⟨by rw [HL.out]; exact h1, (at_is s 0 (by omega) 48).2 h2, (at_is s 1 (by omega) 120).2 h3⟩, Lib.extract_to_end]
        have HV := Lib.hid hv; clear hv
        have hz : ((s[0].toNat : Int) != 48) = false := by simp [h2]
        have hz' : ((s[1].toNat : Int) != 120) = false := by simp [h3]
        clear h2 h3
        go_enter Try.func10, Try.ntmps10
        go_wp2_with fail
        refine (read_any (s.extract 2 s.size) 16 16 _ (by have := HS.out; simp; omega) (by omega) (by omega) (by omega) (by decide)).mono ?_
        rw [(opt_read HV.out).1, (opt_read HV.out).2]
        rintro e w1 ⟨rfl, rfl⟩
        go_wp2
        go_ret2
        exact ⟨rfl, rfl⟩
      · have hv : Plain.getHexS s.data.toList = none := by rw [Plain.getHexS, if_neg (fun h => h3 ((at_is s 1 (by omega) 120).1 h.2.2))]
        have HV := Lib.hid hv; clear hv
        have hz : ((s[0].toNat : Int) != 48) = false := by simp [h2]
        have hz' : ((s[1].toNat : Int) != 120) = true := by simp; omega
        clear h2 h3
        go_enter Try.func10, Try.ntmps10
        go_wp2
        go_ret2
        exact ⟨ret_opt (opt_none HV.out), rfl⟩
    · have hv : Plain.getHexS s.data.toList = none := by rw [Plain.getHexS, if_neg (fun h => h2 ((at_is s 0 (by omega) 48).1 h.2.1))]
      have HV := Lib.hid hv; clear hv
      have hz : ((s[0].toNat : Int) != 48) = true := by simp; omega
      clear h2
      go_enter Try.func10, Try.ntmps10
      go_wp2
      go_ret2
      exact ⟨ret_opt (opt_none HV.out), rfl⟩
  · have hv : Plain.getHexS s.data.toList = none := by rw [Plain.getHexS, if_neg (fun h => h1 (by rw [← HL.out]; exact h.1))]
    have HV := Lib.hid hv; clear hv
    go_enter Try.func10, Try.ntmps10
    go_wp2
    go_ret2
    exact ⟨ret_opt (opt_none HV.out), rfl⟩

set_option maxHeartbeats 1000000 in
theorem rgetDec_any (s : ByteArray) (w : World) (hs : s.size ≤ maxLen) :
    Calls Try.prog 14 #[.string s] w fun e w' => e = .returned (.tuple #[.int .i64 (Plain.natV (Plain.getDecS s.data.toList)), .bool (Plain.getDecS s.data.toList).isSome]) ∧ w = w' := by
  have HS := Lib.hid hs
  unfold maxLen at hs
  have HL := Lib.hid (Plain.len_data s)
  by_cases h1 : 1 < s.size
  · by_cases h2 : s[0].toNat = 48
    · have hv : Plain.getDecS s.data.toList = none := by rw [Plain.getDecS, if_pos ⟨by rw [HL.out]; exact h1, (at_is s 0 (by omega) 48).2 h2⟩]
      have HV := Lib.hid hv; clear hv
      have hz : ((s[0].toNat : Int) == 48) = true := by simp [h2]
      clear h2
      go_enter Try.func14, Try.ntmps14
      go_wp2
      go_ret2
      exact ⟨ret_opt (opt_none HV.out), rfl⟩
    · have hv : Plain.getDecS s.data.toList = Plain.readS 10 19 s.data.toList := by rw [Plain.getDecS, if_neg (fun h => h2 ((at_is s 0 (by omega) 48).1 h.2))]
      have HV := Lib.hid hv; clear hv
      have hz : ((s[0].toNat : Int) == 48) = false := by simp; omega
      clear h2
      go_enter Try.func14, Try.ntmps14
      go_wp2_with fail
      refine (number_any s 10 19 _ HS.out (by omega) (by omega) (by omega) (by decide)).mono ?_
      rintro e w1 ⟨rfl, rfl⟩
      go_wp2
      go_ret2
      exact ⟨ret_opt (opt_read HV.out), rfl⟩
  · have hv : Plain.getDecS s.data.toList = Plain.readS 10 19 s.data.toList := by rw [Plain.getDecS, if_neg (fun h => h1 (by rw [← HL.out]; exact h.1))]
    have HV := Lib.hid hv; clear hv
    go_enter Try.func14, Try.ntmps14
    go_wp2_with fail
    refine (number_any s 10 19 _ HS.out (by omega) (by omega) (by omega) (by decide)).mono ?_
    rintro e w1 ⟨rfl, rfl⟩
    go_wp2
    go_ret2
    exact ⟨ret_opt (opt_read HV.out), rfl⟩


theorem two_is (s : ByteArray) (h : 2 ≤ s.size) : (s.extract 0 2).toList = [s[0], s[1]] := by
  rw [Lib.extract_toList]
  have h0 := Plain.data_at s 0 (by omega)
  have h1 := Plain.data_at s 1 (by omega)
  simp only [List.drop_zero] at h0 ⊢
  rw [h0, h1]
  rfl

set_option maxHeartbeats 1000000 in
theorem rgetHex_any (s : ByteArray) (w : World) (hs : s.size ≤ maxLen) :
    Calls Try.prog 15 #[.string s] w fun e w' => e = .returned (.tuple #[.int .i64 (Plain.natV (Plain.getHexS s.data.toList)), .bool (Plain.getHexS s.data.toList).isSome]) ∧ w = w' := by
  have HS := Lib.hid hs
  unfold maxLen at hs
  have HL := Lib.hid (Plain.len_data s)
  by_cases h1 : 2 ≤ s.size
  · have ht := two_is s h1
    have HT := Lib.hid ht; clear ht
    by_cases h2 : s[0].toNat = 48 ∧ s[1].toNat = 120
    · have hv : Plain.getHexS s.data.toList = Plain.readS 16 16 (s.extract 2 s.size).data.toList := by rw [Plain.getHexS, if_pos ⟨by rw [HL.out]; exact h1, (at_is s 0 (by omega) 48).2 h2.1, (at_is s 1 (by omega) 120).2 h2.2⟩, Lib.extract_to_end]
      have HV := Lib.hid hv; clear hv
      have hz : ((s.extract 0 2).toList == [48, 120]) = true := by
        rw [HT.out]
        have e0 : s[0] = 48 := UInt8.toNat_inj.1 h2.1
        have e1 : s[1] = 120 := UInt8.toNat_inj.1 h2.2
        simp [e0, e1]
      clear h2
      go_enter Try.func15, Try.ntmps15
      go_wp2_with fail
      refine (number_any (s.extract 2 s.size) 16 16 _ (by have := HS.out; simp; omega) (by omega) (by omega) (by omega) (by decide)).mono ?_
      rw [(opt_read HV.out).1, (opt_read HV.out).2]
      rintro e w1 ⟨rfl, rfl⟩
      go_wp2
      go_ret2
      exact ⟨rfl, rfl⟩
    · have hv : Plain.getHexS s.data.toList = none := by rw [Plain.getHexS, if_neg (fun h => h2 ⟨(at_is s 0 (by omega) 48).1 h.2.1, (at_is s 1 (by omega) 120).1 h.2.2⟩)]
      have HV := Lib.hid hv; clear hv
      have hz : ((s.extract 0 2).toList == [48, 120]) = false := by
        rw [HT.out]
        apply beq_false_of_ne
        intro he
        injection he with e0 e1
        injection e1 with e1
        exact h2 ⟨by rw [e0]; rfl, by rw [e1]; rfl⟩
      clear h2
      go_enter Try.func15, Try.ntmps15
      go_wp2
      go_ret2
      exact ⟨ret_opt (opt_none HV.out), rfl⟩
  · have hv : Plain.getHexS s.data.toList = none := by rw [Plain.getHexS, if_neg (fun h => h1 (by rw [← HL.out]; exact h.1))]
    have HV := Lib.hid hv; clear hv
    go_enter Try.func15, Try.ntmps15
    go_wp2
    go_ret2
    exact ⟨ret_opt (opt_none HV.out), rfl⟩

end Go.Proofs.Ytheokjjkjigcfaa
