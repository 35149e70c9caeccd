/- The law ArgOperands, walked. -/
import Derived.Test.YtnmekmifdmlogaaRows
import Derived.Test.YtnmekmifdmlogaaLawR
import Derived.Test.YtnmekmifdmlogaaReadT
import Derived.WalkKit
import Derived.WalkSpells
import Derived.WalkLawsBesides
import Derived.Lib.Hide
namespace Go.Proofs.Ytnmekmifdmlogaa
open Go.RowKit
open Plain

/-- Operands, of arg and of the reference, as slices. -/
theorem operands_at (A : Option Addr) (n c : Nat) (T : List ByteArray) (o : Option (List Pr)) (w : World) (hT : Strs w A n c T) (hS : ∀ s ∈ T, s.size ≤ 1000000) (ho : operands T = o) :
    Calls Try.prog 11 #[.slice A n c] w fun e w' => ∃ A1 n1 c1, e = .returned (.tuple #[.slice A1 n1 c1, .bool o.isSome]) ∧ Opts w' A1 n1 (o.getD []) ∧ Below w.heap.size w w' :=
  (operands_any A n c T o w hT hS ho).mono fun _ _ ⟨v, h1, h2, h3⟩ => by
    obtain ⟨A1, c1, rfl, h5, _⟩ := OwnO.opts h2
    exact ⟨A1, _, c1, h1, h5, h3⟩
theorem roperands_at (A : Option Addr) (n c : Nat) (T : List ByteArray) (o : Option (List Pr)) (w : World) (hT : Strs w A n c T) (hS : ∀ s ∈ T, s.size ≤ 1000000) (ho : operands T = o) :
    Calls Try.prog 14 #[.slice A n c] w fun e w' => ∃ A1 n1 c1, e = .returned (.tuple #[.slice A1 n1 c1, .bool o.isSome]) ∧ Opts w' A1 n1 (o.getD []) ∧ Below w.heap.size w w' :=
  (roperands_any A n c T o w hT hS ho).mono fun _ _ ⟨v, h1, h2, h3⟩ => by
    obtain ⟨A1, c1, rfl, h5, _⟩ := OwnO.opts h2
    exact ⟨A1, _, c1, h1, h5, h3⟩
theorem opsGo_len {out os : List Pr} {T : List ByteArray} (h : opsGo out T = some os) : os.length = out.length + T.length := by
  induction T generalizing out with
  | nil => rw [opsGo] at h; injection h with h; rw [← h]; rfl
  | cons s T ih =>
    rw [opsGo] at h
    cases hs : operand s with
    | none => rw [hs] at h; cases h
    | some p =>
      rw [hs] at h
      simp only at h
      split at h
      · cases h
      · have := ih h
        simp at this ⊢
        omega
theorem operands_len {T : List ByteArray} {os : List Pr} (h : operands T = some os) : os.length = T.length := by
  rw [operands] at h
  split at h
  · cases h
  · have := opsGo_len h
    simpa using this

set_option maxHeartbeats 4000000 in
theorem ops_walk (A : Option Addr) (n c : Nat) (T : List ByteArray) (w : World) (hT : IsStrs w A n c T) :
    Calls Try.prog 4 #[.slice A n c] w fun e w' => e = .returned (.bool true) ∧ Below w.heap.size w w' := by
  have HT := Lib.hid hT.1; have HS := Lib.hid hT.2
  clear hT
  go_enter Try.func4, Try.ntmps4
  go_wp2_with fail
  refine (few_any A n c T 60 _ HT.out HS.out (by decide)).mono ?_
  rintro e w1 ⟨b, rfl, rfl, hf⟩
  cases b with
  | false =>
    go_wp2_with fail
    refine (law_runs _).mono ?_
    rintro e w2 ⟨rfl, k2⟩
    go_wp2
    go_ret
    exact ⟨rfl, k2⟩
  | true =>
    have FW := Lib.hid (hf rfl)
    obtain ⟨o, ho⟩ : ∃ o, operands T = o := ⟨_, rfl⟩
    have HO := Lib.hid ho
    have HS2 := Lib.hid (show ∀ s ∈ T, s.size ≤ 1000000 from fun s hs => by have := FW.out.2 s hs; omega)
    have HLN := Lib.hid (show (o.getD []).length ≤ 60 by
      cases o with
      | none => exact Nat.zero_le _
      | some os => have := operands_len ho; have := FW.out.1; simp; omega)
    clear hf ho
    go_wp2_with fail
    refine (operands_at A n c T o _ HT.out HS2.out HO.out).mono ?_
    rintro e w2 ⟨A1, n1, c1, rfl, o1, k2⟩
    have K2 := Lib.hid k2; have O1 := Lib.hid o1
    clear k2 o1
    go_wp2_with fail
    refine (roperands_at A n c T o _ (HT.out.on K2.out) HS2.out HO.out).mono ?_
    rintro e w3 ⟨A2, n2, c2, rfl, o2, k3⟩
    have K3 := Lib.hid (K2.out.trans (k3.mono K2.out.size)); have O2 := Lib.hid o2
    have O3 := Lib.hid (O1.out.on k3)
    clear k3 o2 O1 K2
    go_wp2_with fail
    refine (sameOpts_any A1 n1 c1 _ A2 n2 c2 _ true _ O3.out O2.out (by rw [← O3.out.len]; have := HLN.out; omega) (by rw [← O2.out.len]; have := HLN.out; omega) (by simp)).mono ?_
    rintro e w4 ⟨rfl, k4⟩
    have K4 := Lib.hid (K3.out.trans (k4.mono K3.out.size))
    clear k4
    have hb : (o.isSome == o.isSome) = true := by simp
    generalize o.isSome = p at *
    go_wp2_with fail
    refine (law_runs _).mono ?_
    rintro e w5 ⟨rfl, k5⟩
    go_wp2
    go_ret
    exact ⟨rfl, K4.out.trans (k5.mono K4.out.size)⟩

end Go.Proofs.Ytnmekmifdmlogaa
