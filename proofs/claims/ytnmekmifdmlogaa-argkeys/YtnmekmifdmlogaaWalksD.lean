/- Contracts of Find, has, among, Only, SameTexts, SameOpts, few. -/
import Derived.Test.YtnmekmifdmlogaaRows
import Derived.Test.YtnmekmifdmlogaaWalksA
import Derived.Test.YtnmekmifdmlogaaTexts
import Derived.WalkKit
import Derived.WalkSpells
import Derived.WalkLawsBesides
import Derived.Lib.Hide
import Derived.Deep.QuietTactic
import Derived.BigQuiet
namespace Go.Proofs.Ytnmekmifdmlogaa
open Go.RowKit
open Plain

theorem ne_toList {a b : ByteArray} (h : a ≠ b) : (a.toList == b.toList) = false := by
  rw [tx_toList, tx_toList]
  simp
  exact fun e => h (tx_inj e)
theorem eq_toList {a b : ByteArray} (h : a = b) : (a.toList == b.toList) = true := by
  rw [h]; simp
def FindPost (o : Option ByteArray) (w : World) (e : Ending) (w' : World) : Prop := e = .returned (.tuple #[.string (o.getD ⟨#[]⟩), .bool o.isSome]) ∧ w = w'

set_option maxHeartbeats 1000000 in
theorem find_any (A : Option Addr) (n c : Nat) (os : List Pr) (key : ByteArray) (o : Option ByteArray) (w : World) (hO : Opts w A n os) (hn : n ≤ 1000000) (ho : find os key = o) :
    Calls Try.prog 18 #[.slice A n c, .string key] w (FindPost o w) := by
  have HO := Lib.hid hO
  have hlen := hO.len
  have HP := Lib.hid (show findTo os key n = o by rw [← ho, find, hlen])
  clear ho hO hlen
  go_enter Try.func18, Try.ntmps18
  go_wp2
  go_loop [6] (fun i => ∃ (k : Nat), k ≤ n ∧ i = .int .i64 ((k : Int) - 1) ∧ Hid (findTo os key k = o)) (fun i => (intOf i + 1).toNat)
  case atStart => exact ⟨n, Nat.le_refl _, rfl, HP.out⟩
  case round =>
    obtain ⟨k, hk, rfl, HE⟩ := hrel
    cases k with
    | zero =>
      have hf : o = none := HE.out.symm
      subst hf
      go_wp2
      go_ret2
      exact ⟨rfl, rfl⟩
    | succ k =>
      obtain ⟨b, of, rfl, hb, hc⟩ := HO.out.cells (by omega)
      obtain ⟨c0, c1⟩ := hc k (by omega)
      have he := HE.out
      rw [findTo] at he
      rw [show ((k + 1 : Nat) : Int) - 1 = (k : Int) by omega]
      have k0 : (0 : Int) ≤ (k : Int) := by omega
      have k1 : (k : Int) < (n : Int) := by omega
      clear hc HE HP
      generalize (os.getD k default).1 = K at *
      generalize (os.getD k default).2 = V at *
      by_cases hK : K = key
      · rw [if_pos hK] at he
        subst he hK
        go_wp2
        go_ret2
        exact ⟨rfl, rfl⟩
      · rw [if_neg hK] at he
        have X := Lib.hid he
        have hKf := ne_toList hK
        clear he hK
        go_wp2
        go_round
        case rel => exact ⟨k, by omega, by go_num, X.out⟩
        case measure => simp [intOf]

set_option maxHeartbeats 1000000 in
theorem rfind_any (A : Option Addr) (n c : Nat) (os : List Pr) (key : ByteArray) (o : Option ByteArray) (w : World) (hO : Opts w A n os) (hn : n ≤ 1000000) (ho : find os key = o) :
    Calls Try.prog 19 #[.slice A n c, .string key] w (FindPost o w) := by
  have HO := Lib.hid hO
  have hlen := hO.len
  have HP := Lib.hid (show findTo os key n = o by rw [← ho, find, hlen])
  clear ho hO hlen
  go_enter Try.func19, Try.ntmps19
  go_wp2
  go_loop [6] (fun i => ∃ (k : Nat), k ≤ n ∧ i = .int .i64 ((k : Int) - 1) ∧ Hid (findTo os key k = o)) (fun i => (intOf i + 1).toNat)
  case atStart => exact ⟨n, Nat.le_refl _, rfl, HP.out⟩
  case round =>
    obtain ⟨k, hk, rfl, HE⟩ := hrel
    cases k with
    | zero =>
      have hf : o = none := HE.out.symm
      subst hf
      go_wp2
      go_ret2
      exact ⟨rfl, rfl⟩
    | succ k =>
      obtain ⟨b, of, rfl, hb, hc⟩ := HO.out.cells (by omega)
      obtain ⟨c0, c1⟩ := hc k (by omega)
      have he := HE.out
      rw [findTo] at he
      rw [show ((k + 1 : Nat) : Int) - 1 = (k : Int) by omega]
      have k0 : (0 : Int) ≤ (k : Int) := by omega
      have k1 : (k : Int) < (n : Int) := by omega
      clear hc HE HP
      generalize (os.getD k default).1 = K at *
      generalize (os.getD k default).2 = V at *
      by_cases hK : K = key
      · rw [if_pos hK] at he
        subst he hK
        go_wp2
        go_ret2
        exact ⟨rfl, rfl⟩
      · rw [if_neg hK] at he
        have X := Lib.hid he
        have hKf := ne_toList hK
        clear he hK
        go_wp2
        go_round
        case rel => exact ⟨k, by omega, by go_num, X.out⟩
        case measure => simp [intOf]

set_option maxHeartbeats 1000000 in
theorem has_any (A : Option Addr) (n c : Nat) (os : List Pr) (key : ByteArray) (b : Bool) (w : World) (hO : Opts w A n os) (hn : n ≤ 1000000) (hb : Plain.has os key = b) :
    Calls Try.prog 28 #[.slice A n c, .string key] w fun e w' => e = .returned (.bool b) ∧ w = w' := by
  obtain ⟨o, ho⟩ : ∃ o, find os key = o := ⟨_, rfl⟩
  rw [Plain.has, ho] at hb
  subst hb
  have HO := Lib.hid hO; have HP := Lib.hid ho
  clear hO ho
  go_enter Try.func28, Try.ntmps28
  go_wp2_with fail
  refine (find_any A n c os key o _ HO.out hn HP.out).mono ?_
  rintro e w1 ⟨rfl, rfl⟩
  go_wp2
  go_ret
  exact ⟨rfl, rfl⟩

set_option maxHeartbeats 1000000 in
theorem rhas_any (A : Option Addr) (n c : Nat) (os : List Pr) (key : ByteArray) (b : Bool) (w : World) (hO : Opts w A n os) (hn : n ≤ 1000000) (hb : Plain.has os key = b) :
    Calls Try.prog 32 #[.slice A n c, .string key] w fun e w' => e = .returned (.bool b) ∧ w = w' := by
  obtain ⟨o, ho⟩ : ∃ o, find os key = o := ⟨_, rfl⟩
  rw [Plain.has, ho] at hb
  subst hb
  have HO := Lib.hid hO; have HP := Lib.hid ho
  clear hO ho
  go_enter Try.func32, Try.ntmps32
  go_wp2_with fail
  refine (rfind_any A n c os key o _ HO.out hn HP.out).mono ?_
  rintro e w1 ⟨rfl, rfl⟩
  go_wp2
  go_ret
  exact ⟨rfl, rfl⟩

set_option maxHeartbeats 1000000 in
theorem among_any (A : Option Addr) (n c : Nat) (T : List ByteArray) (key : ByteArray) (b : Bool) (w : World) (hO : Strs w A n c T) (hn : n ≤ 1000000) (hb : (T.any fun k => decide (k = key)) = b) :
    Calls Try.prog 35 #[.slice A n c, .string key] w fun e w' => e = .returned (.bool b) ∧ w = w' := by
  have HO := Lib.hid hO
  have HB := Lib.hid hb
  clear hO hb
  go_enter Try.func35, Try.ntmps35
  go_wp2
  go_loop [9] (fun i => ∃ (k : Nat), k ≤ n ∧ i = .int .i64 k ∧ Hid (∀ j, j < k → T.getD j default ≠ key)) (fun i => n - (intOf i).toNat)
  case atStart => exact ⟨0, Nat.zero_le _, rfl, by unfold Hid; exact fun j h => absurd h (by omega)⟩
  case round =>
    obtain ⟨k, hk, rfl, HE⟩ := hrel
    by_cases hlt : k < n
    · obtain ⟨g, o, rfl, hg, hc⟩ := HO.out.cells (by omega)
      have c0 := hc k hlt
      have k0 : (0 : Int) ≤ (k : Int) := by omega
      have k1 : (k : Int) < (n : Int) := by omega
      clear hc
      by_cases hK : T.getD k default = key
      · have hf : b = true := by
          rw [← HB.out, List.any_eq_true]
          refine ⟨T.getD k default, ?_, by simpa using hK⟩
          have := HO.out.len
          rw [List.getD_eq_getElem?_getD, List.getElem?_eq_getElem (by omega)]
          exact List.getElem_mem _
        subst hf
        have hKf := eq_toList hK
        clear hK
        generalize T.getD k default = K at *
        go_wp2
        go_ret
        exact ⟨rfl, rfl⟩
      · have X := Lib.hid (show ∀ j, j < k + 1 → T.getD j default ≠ key from fun j hj => by
          by_cases h : j = k
          · rw [h]; exact hK
          · exact HE.out j (by omega))
        have hKf := ne_toList hK
        clear hK
        generalize T.getD k default = K at *
        go_wp2
        go_round
        case rel => exact ⟨k + 1, by omega, by go_num, X.out⟩
        case measure => simp [intOf]; omega
    · have hf : b = false := by
        rw [← HB.out, List.any_eq_false]
        intro x hx
        obtain ⟨j, hj, rfl⟩ := List.getElem_of_mem hx
        have hl := HO.out.len
        have := HE.out j (by omega)
        rw [List.getD_eq_getElem?_getD, List.getElem?_eq_getElem hj] at this
        simpa using this
      subst hf
      go_wp2
      go_ret
      exact ⟨rfl, rfl⟩

def Few (T : List ByteArray) (m : Nat) : Prop := T.length ≤ m ∧ ∀ s ∈ T, s.size ≤ 100
def FewPost (T : List ByteArray) (m : Nat) (w : World) (e : Ending) (w' : World) : Prop := ∃ b, e = .returned (.bool b) ∧ w = w' ∧ (b = true → Few T m)
set_option maxHeartbeats 1000000 in
theorem few_any (A : Option Addr) (n c : Nat) (T : List ByteArray) (m : Nat) (w : World) (hO : Strs w A n c T) (hS : ∀ s ∈ T, s.size ≤ maxLen) (hm : m ≤ 1000) :
    Calls Try.prog 13 #[.slice A n c, .int .i64 (m : Int)] w (FewPost T m w) := by
  have HO := Lib.hid hO; have HS := Lib.hid hS
  have hmx : n ≤ 9223372036854775807 := by have h1 := hO.le; have h2 := hO.mx; unfold maxLen at h2; omega
  clear hO hS
  go_enter Try.func13, Try.ntmps13
  go_wp2
  go_loop [5] (fun i => ∃ (k : Nat), k ≤ n ∧ i = .int .i64 k ∧ k ≤ m + 1 ∧ Hid (∀ j, j < k → (T.getD j default).size ≤ 100)) (fun i => n - (intOf i).toNat)
  case atStart => exact ⟨0, Nat.zero_le _, rfl, Nat.zero_le _, by unfold Hid; exact fun j h => absurd h (by omega)⟩
  case round =>
    obtain ⟨k, hk, rfl, hkm, HE⟩ := hrel
    by_cases hlt : k < n
    · by_cases hl2 : k ≤ m
      · obtain ⟨g, o, rfl, hg, hc⟩ := HO.out.cells (by omega)
        have c0 := hc k hlt
        have k0 : (0 : Int) ≤ (k : Int) := by omega
        have k1 : (k : Int) < (n : Int) := by omega
        have hsz : (T.getD k default).size ≤ 9223372036854775807 := by
          have := HO.out.len
          have h2 := HS.out (T.getD k default) (by rw [List.getD_eq_getElem?_getD, List.getElem?_eq_getElem (by omega)]; exact List.getElem_mem _)
          unfold maxLen at h2; omega
        clear hc
        by_cases hK : (T.getD k default).size ≤ 100
        · have X := Lib.hid (show ∀ j, j < k + 1 → (T.getD j default).size ≤ 100 from fun j hj => by
            by_cases h : j = k
            · rw [h]; exact hK
            · exact HE.out j (by omega))
          generalize T.getD k default = K at *
          go_wp2
          go_round
          case rel => exact ⟨k + 1, by omega, by go_num, by omega, X.out⟩
          case measure => simp [intOf]; omega
        · generalize T.getD k default = K at *
          go_wp2
          go_ret
          exact ⟨false, rfl, rfl, fun h => by cases h⟩
      · go_wp2
        go_ret
        exact ⟨decide (n ≤ m), rfl, rfl, fun h => absurd h (by simp; omega)⟩
    · have hall : ∀ s ∈ T, s.size ≤ 100 := by
        intro x hx
        obtain ⟨j, hj, rfl⟩ := List.getElem_of_mem hx
        have hl := HO.out.len
        have := HE.out j (by omega)
        rwa [List.getD_eq_getElem?_getD, List.getElem?_eq_getElem hj] at this
      have HA := Lib.hid hall
      have HL := Lib.hid HO.out.len
      clear hall
      have hkn : k = n := by omega
      go_wp2
      go_ret
      exact ⟨decide (n ≤ m), rfl, rfl, fun h => ⟨by rw [HL.out]; simpa using h, HA.out⟩⟩

end Go.Proofs.Ytnmekmifdmlogaa
