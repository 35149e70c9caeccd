/- Contracts of off.May and off.Add. -/
import Derived.Test.YtamignakfliocaaRows
import Derived.Test.YtamignakfliocaaPlain
import Derived.WalkKit
import Derived.WalkSpells
import Derived.WalkLawsBesides
import Derived.Lib.Hide
namespace Go.Proofs.Ytamignakfliocaa
open Go.RowKit

set_option maxHeartbeats 400000 in
theorem may_yes (n : Int) (w : World) (h0 : 0 ≤ n) (h1 : n ≤ 4611686018427387904) :
    Calls Try.prog 14 #[.int .i64 n] w fun e w' => e = .returned (.bool true) ∧ w = w' := by
  go_enter Try.func14, Try.ntmps14
  go_wp2
  go_ret
  exact ⟨rfl, rfl⟩

set_option maxHeartbeats 400000 in
theorem may_no (n : Int) (w : World) (h : ¬ (0 ≤ n ∧ n ≤ 4611686018427387904)) :
    Calls Try.prog 14 #[.int .i64 n] w fun e w' => e = .returned (.bool false) ∧ w = w' := by
  by_cases h0 : 0 ≤ n
  · have h1 : ¬ n ≤ 4611686018427387904 := fun h1 => h ⟨h0, h1⟩
    clear h
    go_enter Try.func14, Try.ntmps14
    go_wp2
    go_ret
    exact ⟨rfl, rfl⟩
  · clear h
    go_enter Try.func14, Try.ntmps14
    go_wp2
    go_ret
    exact ⟨rfl, rfl⟩

set_option maxHeartbeats 400000 in
theorem add_any (A : Option Addr) (n c : Nat) (zs : List Int) (w : World) (hn : n ≤ maxLen) (hr : Ints w A n zs) :
    Calls Try.prog 11 #[.slice A n c] w fun e w' => e = .returned (.tuple #[.int .i64 (Plain.addV zs), .bool (Plain.addOk zs)]) ∧ w = w' := by
  unfold maxLen at hn
  obtain ⟨hl, hr⟩ := hr
  have HR := Lib.hid hr; clear hr
  have HL := Lib.hid hl; clear hl
  go_enter Try.func11, Try.ntmps11
  go_wp2
  go_loop [4, 9] (fun s i => ∃ (k : Nat) (t : Int), k ≤ n ∧ i = .int .i64 k ∧ s = .int .i64 t ∧ 0 ≤ t ∧ t ≤ 4611686018427387904 ∧ Hid (Plain.addFrom 0 zs = Plain.addFrom t (zs.drop k))) (fun _ i => n - (intOf i).toNat)
  case atStart => exact ⟨0, 0, Nat.zero_le _, rfl, rfl, by omega, by omega, by simp [Hid]⟩
  case round =>
    obtain ⟨k, t, hk, rfl, rfl, ht0, ht1, HE⟩ := hrel
    by_cases hlt : k < n
    · obtain ⟨b, o, rfl, hc⟩ := HR.out (by omega)
      have hck := hc k hlt
      clear hc
      have hd := Plain.drop_cons zs k (by have := HL.out; omega)
      have HD := Lib.hid hd; clear hd
      generalize zs.getD k 0 = x at *
      by_cases hx : 0 ≤ x ∧ x ≤ 4611686018427387904
      · obtain ⟨hx0, hx1⟩ := hx
        by_cases hs : x ≤ 4611686018427387904 - t
        · go_wp2_with (go_at_call 14; refine (may_yes _ _ hx0 hx1).mono ?_; rintro e w' ⟨rfl, rfl⟩)
          go_round
          case rel => exact ⟨k + 1, t + x, by omega, by go_num, by go_num, by omega, by omega, by unfold Hid; rw [HE.out, HD.out, Plain.addFrom_yes _ _ _ hx0 hs]⟩
          case measure => simp [intOf]; omega
        · have hv : Plain.addFrom 0 zs = none := by rw [HE.out, HD.out, Plain.addFrom_no _ _ _ (fun h => hs h.2)]
          have HV := Lib.hid hv; clear hv
          go_wp2_with (go_at_call 14; refine (may_yes _ _ hx0 hx1).mono ?_; rintro e w' ⟨rfl, rfl⟩)
          go_ret2
          exact ⟨by simp [Plain.addV, Plain.addOk, HV.out], rfl⟩
      · have hv : Plain.addFrom 0 zs = none := by rw [HE.out, HD.out, Plain.addFrom_no _ _ _ (fun h => hx ⟨h.1, by omega⟩)]
        have HV := Lib.hid hv; clear hv
        go_wp2_with (go_at_call 14; refine (may_no _ _ hx).mono ?_; rintro e w' ⟨rfl, rfl⟩)
        go_ret2
        exact ⟨by simp [Plain.addV, Plain.addOk, HV.out], rfl⟩
    · have hv : Plain.addFrom 0 zs = some t := by rw [HE.out, List.drop_of_length_le (by have := HL.out; omega), Plain.addFrom_nil]
      have HV := Lib.hid hv; clear hv
      go_wp2
      go_ret2
      exact ⟨by simp [Plain.addV, Plain.addOk, HV.out], rfl⟩

end Go.Proofs.Ytamignakfliocaa
