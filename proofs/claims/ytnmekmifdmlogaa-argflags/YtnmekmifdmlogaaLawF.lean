/- The law ArgFlags, walked. -/
import Derived.Test.YtnmekmifdmlogaaRows
import Derived.Test.YtnmekmifdmlogaaLawR
import Derived.Test.YtnmekmifdmlogaaReadT
import Derived.Test.YtnmekmifdmlogaaWalksL
import Derived.WalkKit
import Derived.WalkSpells
import Derived.WalkLawsBesides
import Derived.Lib.Hide
namespace Go.Proofs.Ytnmekmifdmlogaa
open Go.RowKit
open Plain

theorem flagsGo_len (sp : List UInt8) (B : Nat) : ∀ (f : Nat) (T : List ByteArray) (os : List Pr) (rs : List ByteArray) (os' : List Pr) (rs' : List ByteArray), (∀ s ∈ T, s.size ≤ B) → flagsGo sp f T os rs = some (os', rs') → os'.length ≤ os.length + B * T.length ∧ rs'.length ≤ rs.length + T.length := by
  intro f
  induction f with
  | zero =>
    intro T os rs os' rs' hT h
    cases T with
    | nil => rw [flagsGo] at h; simp at h; obtain ⟨rfl, rfl⟩ := h; simp
    | cons s T => rw [flagsGo] at h; cases h
  | succ f ih =>
    intro T os rs os' rs' hT h
    cases T with
    | nil => rw [flagsGo] at h; simp at h; obtain ⟨rfl, rfl⟩ := h; simp
    | cons s T =>
      have hT2 : ∀ x ∈ T, x.size ≤ B := fun x hx => hT x (by simp [hx])
      have e : B * (s :: T).length = B * T.length + B := by rw [List.length_cons, Nat.mul_succ]
      rw [e]
      rw [flagsGo] at h
      by_cases h1 : tx s = [45, 45]
      · rw [if_pos h1] at h
        simp at h
        obtain ⟨rfl, rfl⟩ := h
        simp
      · rw [if_neg h1] at h
        by_cases h2 : isOpt s = false
        · rw [if_pos h2] at h
          have := ih _ _ _ _ _ hT2 h
          simp at this ⊢
          omega
        · rw [if_neg h2, optsOf_acc] at h
          cases ho : optsOf sp T.head? ((tx s).drop 1) [] with
          | none => rw [ho] at h; cases h
          | some p =>
            obtain ⟨os2, k⟩ := p
            rw [ho] at h
            have hs1 : 1 < s.size := by
              rw [Bool.not_eq_false, isOpt] at h2
              simp at h2
              exact h2.1
            have hl := (optsOf_le _ _ (fun e => by have := congrArg List.length e; rw [List.length_drop, tx_len] at this; simp at this; omega) ho).1
            rw [List.length_drop, tx_len] at hl
            have hsB := hT s (by simp)
            have := ih _ _ _ _ _ (fun x hx => hT2 x (List.mem_of_mem_drop hx)) h
            simp at this ⊢
            have hm : B * (T.length - k) ≤ B * T.length := Nat.mul_le_mul_left _ (by omega)
            omega
theorem flags_len {sp : ByteArray} {T : List ByteArray} (hn : T.length ≤ 60) (hT : ∀ s ∈ T, s.size ≤ 1000) : (flV (flags sp T)).1.length ≤ 100000 ∧ (flV (flags sp T)).2.length ≤ 100000 := by
  cases h : flags sp T with
  | none => simp [flV]
  | some p =>
    obtain ⟨os, rs⟩ := p
    rw [flags] at h
    split at h
    · cases h
    · have := flagsGo_len (tx sp) 1000 _ _ _ _ _ _ hT h
      simp [flV] at this ⊢
      omega

theorem flags_at (sp : ByteArray) (A : Option Addr) (n c : Nat) (T : List ByteArray) (F : Option (List Pr × List ByteArray)) (w : World) (hp : sp.size ≤ 1000000) (hT : Strs w A n c T) (hS : ∀ s ∈ T, s.size ≤ 1000) (hF : flags sp T = F) :
    Calls Try.prog 10 #[.string sp, .slice A n c] w fun e w' => ∃ A1 n1 c1 A2 n2 c2, e = .returned (.tuple #[.agg #[.slice A1 n1 c1, .slice A2 n2 c2], .bool F.isSome]) ∧ Opts w' A1 n1 (flV F).1 ∧ Strs w' A2 n2 c2 (flV F).2 ∧ Below w.heap.size w w' :=
  (flags_any sp A n c T F w hp hT hS hF).mono fun _ _ ⟨v1, v2, h1, h2, h3, h4⟩ => by
    obtain ⟨A1, c1, rfl, h5, _⟩ := OwnO.opts h2
    obtain ⟨A2, c2, rfl, h6⟩ := OwnT.strs h3
    exact ⟨A1, _, c1, A2, _, c2, h1, h5, h6, h4⟩
theorem rflags_at (sp : ByteArray) (A : Option Addr) (n c : Nat) (T : List ByteArray) (F : Option (List Pr × List ByteArray)) (w : World) (hp : sp.size ≤ 1000000) (hT : Strs w A n c T) (hS : ∀ s ∈ T, s.size ≤ 1000) (hF : flags sp T = F) :
    Calls Try.prog 16 #[.string sp, .slice A n c] w fun e w' => ∃ A1 n1 c1 A2 n2 c2, e = .returned (.tuple #[.agg #[.slice A1 n1 c1, .slice A2 n2 c2], .bool F.isSome]) ∧ Opts w' A1 n1 (flV F).1 ∧ Strs w' A2 n2 c2 (flV F).2 ∧ Below w.heap.size w w' :=
  (rflags_any sp A n c T F w hp hT hS hF).mono fun _ _ ⟨v1, v2, h1, h2, h3, h4⟩ => by
    obtain ⟨A1, c1, rfl, h5, _⟩ := OwnO.opts h2
    obtain ⟨A2, c2, rfl, h6⟩ := OwnT.strs h3
    exact ⟨A1, _, c1, A2, _, c2, h1, h5, h6, h4⟩

set_option maxHeartbeats 8000000 in
theorem flags_walk (sp : ByteArray) (A : Option Addr) (n c : Nat) (T : List ByteArray) (w : World) (hsp : sp.size ≤ maxLen) (hT : IsStrs w A n c T) :
    Calls Try.prog 5 #[.string sp, .slice A n c] w fun e w' => e = .returned (.bool true) ∧ Below w.heap.size w w' := by
  have HT := Lib.hid hT.1; have HS := Lib.hid hT.2
  have hsp2 : sp.size ≤ 9223372036854775807 := by unfold maxLen at hsp; omega
  clear hT hsp
  go_enter Try.func5, Try.ntmps5
  go_wp2_with fail
  refine (few_any A n c T 60 _ HT.out HS.out (by decide)).mono ?_
  rintro e w1 ⟨b, rfl, rfl, hf⟩
  have runs : b = false ∨ 100 < sp.size ∨ (b = true ∧ sp.size ≤ 100) := by
    cases b
    · exact .inl rfl
    · by_cases h : 100 < sp.size
      · exact .inr (.inl h)
      · exact .inr (.inr ⟨rfl, by omega⟩)
  rcases runs with rfl | h | ⟨rfl, h⟩
  · go_wp2_with fail
    refine (law_runs _).mono ?_
    rintro e w2 ⟨rfl, k2⟩
    go_wp2
    go_ret
    exact ⟨rfl, k2⟩
  · cases b
    all_goals
      go_wp2_with fail
      refine (law_runs _).mono ?_
      rintro e w2 ⟨rfl, k2⟩
      go_wp2
      go_ret
      exact ⟨rfl, k2⟩
  · have FW := Lib.hid (hf rfl)
    obtain ⟨F, hF⟩ : ∃ F, flags sp T = F := ⟨_, rfl⟩
    have HF := Lib.hid hF
    have HS2 := Lib.hid (show ∀ s ∈ T, s.size ≤ 1000 from fun s hs => by have := FW.out.2 s hs; omega)
    have HLN := Lib.hid (show (flV F).1.length ≤ 100000 ∧ (flV F).2.length ≤ 100000 by rw [← hF]; exact flags_len FW.out.1 HS2.out)
    clear hf hF
    go_wp2_with fail
    refine (flags_at sp A n c T F _ (by omega) HT.out HS2.out HF.out).mono ?_
    rintro e w2 ⟨A1, n1, c1, A2, n2, c2, rfl, o1, t1, k2⟩
    have K2 := Lib.hid (k2.alloc k2.size (.cells #[.slice A1 n1 c1, .slice A2 n2 c2] 25))
    have KK := (Below.refl w2.heap.size w2).alloc (Nat.le_refl _) (.cells #[.slice A1 n1 c1, .slice A2 n2 c2] 25)
    have O1 := Lib.hid (o1.on KK)
    have T1 := Lib.hid (t1.on KK)
    have R1 := Lib.hid (Row.new w2 25 #[.slice A1 n1 c1, .slice A2 n2 c2])
    clear k2 o1 t1 KK
    go_wp2_with fail
    generalize w2.alloc (.cells #[.slice A1 n1 c1, .slice A2 n2 c2] 25) = W2 at *
    generalize w2.heap.size = b1 at *
    refine (rflags_at sp A n c T F _ (by omega) (HT.out.on K2.out) HS2.out HF.out).mono ?_
    rintro e w3 ⟨A3, n3, c3, A4, n4, c4, rfl, o2, t2, k3⟩
    have KK := (Below.refl w3.heap.size w3).alloc (Nat.le_refl _) (.cells #[.slice A3 n3 c3, .slice A4 n4 c4] 25)
    have K23 := k3.trans (KK.mono k3.size)
    have K3 := Lib.hid (K2.out.trans (K23.mono K2.out.size))
    have O2 := Lib.hid (o2.on KK); have T2 := Lib.hid (t2.on KK)
    have O1' := Lib.hid (O1.out.on K23); have T1' := Lib.hid (T1.out.on K23); have R1' := Lib.hid (R1.out.on K23)
    have R2 := Lib.hid (Row.new w3 25 #[.slice A3 n3 c3, .slice A4 n4 c4])
    clear k3 o2 t2 KK K23 K2 O1 T1 R1
    have ob : ∀ {m : Nat} {A : Option Addr} {W : World}, Opts W A m (flV F).1 → m ≤ 1000000 := fun h => by rw [← h.len]; have := HLN.out.1; omega
    have tb : ∀ {m c : Nat} {A : Option Addr} {W : World}, Strs W A m c (flV F).2 → m ≤ 1000000 := fun h => by rw [← h.len]; have := HLN.out.2; omega
    have OB := Lib.hid (And.intro (ob O1'.out) (ob O2.out)); have TB := Lib.hid (And.intro (tb T1'.out) (tb T2.out))
    clear ob tb
    obtain ⟨x0, x1, _, _⟩ := R1'.out.two
    obtain ⟨y0, y1, _, _⟩ := R2.out.two
    go_wp2_with fail
    generalize w3.alloc (.cells #[.slice A3 n3 c3, .slice A4 n4 c4] 25) = W3 at *
    generalize w3.heap.size = b2 at *
    clear x0 x1 y0 y1
    refine (sameOpts_any A1 n1 c1 _ A3 n3 c3 _ true _ O1'.out O2.out OB.out.1 OB.out.2 (by simp)).mono ?_
    rintro e w4 ⟨rfl, k4⟩
    have K4 := Lib.hid (K3.out.trans (k4.mono K3.out.size))
    obtain ⟨x0, x1, _, _⟩ := (R1'.out.on k4).two
    obtain ⟨y0, y1, _, _⟩ := (R2.out.on k4).two
    have T1'' := Lib.hid (T1'.out.on k4); have T2'' := Lib.hid (T2.out.on k4)
    clear k4
    go_wp2_with fail
    refine (sameTexts_any A2 n2 c2 _ A4 n4 c4 _ true _ T1''.out T2''.out TB.out.1 TB.out.2 (by simp)).mono ?_
    rintro e w5 ⟨rfl, k5⟩
    have K5 := Lib.hid (K4.out.trans (k5.mono K4.out.size))
    clear k5
    have hb : (F.isSome == F.isSome) = true := by simp
    generalize F.isSome = p at *
    go_wp2_with fail
    refine (law_runs _).mono ?_
    rintro e w6 ⟨rfl, k6⟩
    go_wp2
    go_ret
    exact ⟨rfl, K5.out.trans (k6.mono K5.out.size)⟩

end Go.Proofs.Ytnmekmifdmlogaa
