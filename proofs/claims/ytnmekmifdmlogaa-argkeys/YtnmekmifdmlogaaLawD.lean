/- The law ArgFinds, walked. -/
import Derived.Test.YtnmekmifdmlogaaRows
import Derived.Test.YtnmekmifdmlogaaLawR
import Derived.Test.YtnmekmifdmlogaaReadT
import Derived.WalkKit
import Derived.WalkSpells
import Derived.WalkLawsBesides
import Derived.Lib.Hide
import Derived.OpenShut
namespace Go.Proofs.Ytnmekmifdmlogaa
open Go.RowKit
open Plain

theorem rwords_at (s : ByteArray) (x : Int) (c : UInt8) (l : List ByteArray) (w : World) (hs : s.size ≤ 100000) (hx : x = (c.toNat : Int)) (hl : words s c = l) :
    Calls Try.prog 22 #[.string s, .int .u8 x] w fun e w' => ∃ A1 n1 c1, e = .returned (.slice A1 n1 c1) ∧ Strs w' A1 n1 c1 l ∧ Below w.heap.size w w' :=
  (rwords_any s x c l w hs hx hl).mono fun _ _ ⟨v, h1, h2, h3⟩ => by
    obtain ⟨A1, c1, rfl, h5⟩ := OwnT.strs h2
    exact ⟨A1, _, c1, h1, h5, h3⟩
theorem words_as (s : ByteArray) (x : Int) (c : UInt8) (l : List ByteArray) (w : World) (hs : s.size ≤ 100000) (hx : x = (c.toNat : Int)) (hl : words s c = l) :
    Calls Try.prog 12 #[.string s, .int .u8 x] w fun e w' => ∃ A1 n1 c1, e = .returned (.slice A1 n1 c1) ∧ Strs w' A1 n1 c1 l ∧ Below w.heap.size w w' :=
  (words_any s x c l w hs hx hl).mono fun _ _ ⟨v, h1, h2, h3⟩ => by
    obtain ⟨A1, c1, rfl, h5⟩ := OwnT.strs h2
    exact ⟨A1, _, c1, h1, h5, h3⟩
theorem wordsF_len (c : UInt8) : ∀ (f : Nat) (s : ByteArray), (wordsF c f s).length ≤ f + 1
  | 0, s => by simp [wordsF]
  | f + 1, s => by
    rw [wordsF]
    split
    · simp
    · have := wordsF_len c f (s.extract (Plain.ahead s c + 1) s.size)
      simp; omega
theorem byte_of {x : Int} (h : (Lit.int .u8 x).wf = true) : ∃ c : UInt8, x = (c.toNat : Int) := by
  obtain ⟨h0, h1⟩ := bounds_u8 h
  refine ⟨UInt8.ofNat x.toNat, ?_⟩
  rw [UInt8.toNat_ofNat']
  omega

set_option maxHeartbeats 8000000 in
theorem finds_walk (A : Option Addr) (n c : Nat) (os : List Pr) (B : Option Addr) (m d : Nat) (T : List ByteArray) (key s : ByteArray) (x : Int) (w : World) (hO : IsOpts w A n os) (hT : IsStrs w B m d T) (_ : key.size ≤ maxLen) (hs : s.size ≤ maxLen) (hx : (Lit.int .u8 x).wf = true) :
    Calls Try.prog 6 #[.slice A n c, .slice B m d, .string key, .string s, .int .u8 x] w fun e w' => e = .returned (.bool true) ∧ Below w.heap.size w w' := by
  have HO := Lib.hid hO.2; have HT := Lib.hid hT.1
  obtain ⟨u, hu⟩ := byte_of hx
  have HU := Lib.hid hu
  have hn : n ≤ 9223372036854775807 := by have := hO.1; unfold maxLen at this; omega
  have hm : m ≤ 9223372036854775807 := by have h1 := hT.1.le; have h2 := hT.1.mx; unfold maxLen at h2; omega
  have hs2 : s.size ≤ 9223372036854775807 := by unfold maxLen at hs; omega
  clear hO hT hs hx hu
  have bad : (60 < n ∨ 60 < m ∨ 300 < s.size) ∨ (n ≤ 60 ∧ m ≤ 60 ∧ s.size ≤ 300) := by omega
  rcases bad with bad | ⟨hn60, hm60, hs300⟩
  · have ways : 60 < n ∨ (n ≤ 60 ∧ 60 < m) ∨ (n ≤ 60 ∧ m ≤ 60 ∧ 300 < s.size) := by omega
    clear bad
    rcases ways with h | ⟨h1, h⟩ | ⟨h1, h2, h⟩
    all_goals
      go_enter Try.func6, Try.ntmps6
      go_wp2_with fail
      refine (law_runs _).mono ?_
      rintro e w2 ⟨rfl, k2⟩
      go_wp2
      go_ret
      exact ⟨rfl, k2⟩
  · obtain ⟨o, ho⟩ : ∃ o, find os key = o := ⟨_, rfl⟩
    obtain ⟨q, hq⟩ : ∃ q, only os T = q := ⟨_, rfl⟩
    obtain ⟨l, hl⟩ : ∃ l, words s u = l := ⟨_, rfl⟩
    have HF := Lib.hid ho; have HQ := Lib.hid hq; have HL := Lib.hid hl
    have HLN := Lib.hid (show l.length ≤ 301 by rw [← hl]; have := wordsF_len u s.size s; rw [words]; omega)
    clear ho hq hl
    go_enter Try.func6, Try.ntmps6
    go_wp2_with fail
    refine (find_any A n c os key o _ HO.out (by omega) HF.out).mono ?_
    rintro e w1 ⟨rfl, rfl⟩
    go_wp2_with fail
    refine (rfind_any A n c os key o _ HO.out (by omega) HF.out).mono ?_
    rintro e w1 ⟨rfl, rfl⟩
    have hb : (o.isSome == o.isSome) = true := by simp
    generalize o.isSome = p at *
    generalize o.getD ⟨#[]⟩ = V at *
    go_wp2_with fail
    refine (only_any A n c os B m d T q _ HO.out HT.out (by omega) (by omega) HQ.out).mono ?_
    rintro e w2 ⟨rfl, k2⟩
    have K2 := Lib.hid k2
    clear k2
    go_wp2_with fail
    refine (ronly_any A n c os B m d T q _ (HO.out.on K2.out) (HT.out.on K2.out) (by omega) (by omega) HQ.out).mono ?_
    rintro e w3 ⟨rfl, k3⟩
    have K3 := Lib.hid (K2.out.trans (k3.mono K2.out.size))
    clear k3 K2
    have hb2 : (q == q) = true := by simp
    go_wp2_with fail
    refine (words_as s x u l _ (by omega) HU.out HL.out).mono ?_
    rintro e w4 ⟨A4, n4, c4, rfl, s4, k4⟩
    have K4 := Lib.hid (K3.out.trans (k4.mono K3.out.size)); have S4 := Lib.hid s4
    clear k4 s4 K3
    go_wp2_with fail
    refine (rwords_at s x u l _ (by omega) HU.out HL.out).mono ?_
    rintro e w5 ⟨A5, n5, c5, rfl, s5, k5⟩
    have K5 := Lib.hid (K4.out.trans (k5.mono K4.out.size)); have S5 := Lib.hid s5
    have S45 := Lib.hid (S4.out.on k5)
    clear k5 s5 K4 S4
    go_wp2_with fail
    refine (sameTexts_any A4 n4 c4 l A5 n5 c5 l true _ S45.out S5.out (by rw [← S45.out.len]; have := HLN.out; omega) (by rw [← S5.out.len]; have := HLN.out; omega) (by simp)).mono ?_
    rintro e w6 ⟨rfl, k6⟩
    have K6 := Lib.hid (K5.out.trans (k6.mono K5.out.size))
    clear k6
    go_wp2_with fail
    refine (law_runs _).mono ?_
    rintro e w7 ⟨rfl, k7⟩
    go_wp2
    go_ret
    exact ⟨rfl, K6.out.trans (k7.mono K6.out.size)⟩

end Go.Proofs.Ytnmekmifdmlogaa
