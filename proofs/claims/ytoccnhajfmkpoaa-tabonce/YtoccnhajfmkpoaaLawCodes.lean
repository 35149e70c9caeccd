/- Contract of the law TabCodes. -/
import Derived.Test.YtoccnhajfmkpoaaLawCase
import Derived.WalkKit
import Derived.WalkSpells
import Derived.WalkLawsBesides
import Derived.Lib.Hide
namespace Go.Proofs.Ytoccnhajfmkpoaa
open Go.RowKit

/-- A byte of a table in memory, told. -/
theorem Row.is {w : World} {b : Nat} {l : List Int} (h : Row w b 24 (cs l)) (hl : l.length = 256) (c x : Int) (h0 : 0 ≤ c) (h1 : c ≤ 255) (hx : l.getD c.toNat 0 = x) : w.cell? ⟨b, c.toNat, none⟩ = some (.int .u8 x) := by
  rw [h.cell c.toNat (by omega), hx]

theorem codes0 : ∀ k < 256, 48 ≤ k → k ≤ 57 → tbE.getD k 0 = 240 + ((k : Int) - 48) ∧ tbI.getD k 0 = 240 + ((k : Int) - 48) := by decide +kernel
theorem codes1 : ∀ k < 256, 97 ≤ k → k ≤ 105 → tbE.getD k 0 = 129 + ((k : Int) - 97) ∧ tbI.getD k 0 = 129 + ((k : Int) - 97) := by decide +kernel
theorem codes2 : ∀ k < 256, 106 ≤ k → k ≤ 114 → tbE.getD k 0 = 145 + ((k : Int) - 106) ∧ tbI.getD k 0 = 145 + ((k : Int) - 106) := by decide +kernel
theorem codes3 : ∀ k < 256, 115 ≤ k → k ≤ 122 → tbE.getD k 0 = 162 + ((k : Int) - 115) ∧ tbI.getD k 0 = 162 + ((k : Int) - 115) := by decide +kernel
theorem codes4 : ∀ k < 256, 65 ≤ k → k ≤ 73 → tbE.getD k 0 = 193 + ((k : Int) - 65) ∧ tbI.getD k 0 = 193 + ((k : Int) - 65) := by decide +kernel
theorem codes5 : ∀ k < 256, 74 ≤ k → k ≤ 82 → tbE.getD k 0 = 209 + ((k : Int) - 74) ∧ tbI.getD k 0 = 209 + ((k : Int) - 74) := by decide +kernel
theorem codes6 : ∀ k < 256, 83 ≤ k → k ≤ 90 → tbE.getD k 0 = 226 + ((k : Int) - 83) ∧ tbI.getD k 0 = 226 + ((k : Int) - 83) := by decide +kernel

set_option maxRecDepth 100000 in
set_option maxHeartbeats 4000000 in
theorem law_codes (c : Int) (w : World) (h0 : 0 ≤ c) (h1 : c ≤ 255) : Calls Try.prog 9 #[.int .u8 c] w fun e w' => e = .returned (.bool true) ∧ Below w.heap.size w w' := by
  have CE := Lib.hid ebcdic_any; have CI := Lib.hid ibm_any; have CR := Lib.hid law_runs
  have LE := Lib.hid (show tbE.length = 256 from len_tb false); have LI := Lib.hid (show tbI.length = 256 from len_tb true)
  have F0 := Lib.hid (show 48 ≤ c → c ≤ 57 → tbE.getD c.toNat 0 = 240 + (c - 48) ∧ tbI.getD c.toNat 0 = 240 + (c - 48) from fun p q => by obtain ⟨x, y⟩ := codes0 c.toNat (by omega) (by omega) (by omega); rw [x, y]; omega)
  have F1 := Lib.hid (show 97 ≤ c → c ≤ 105 → tbE.getD c.toNat 0 = 129 + (c - 97) ∧ tbI.getD c.toNat 0 = 129 + (c - 97) from fun p q => by obtain ⟨x, y⟩ := codes1 c.toNat (by omega) (by omega) (by omega); rw [x, y]; omega)
  have F2 := Lib.hid (show 106 ≤ c → c ≤ 114 → tbE.getD c.toNat 0 = 145 + (c - 106) ∧ tbI.getD c.toNat 0 = 145 + (c - 106) from fun p q => by obtain ⟨x, y⟩ := codes2 c.toNat (by omega) (by omega) (by omega); rw [x, y]; omega)
  have F3 := Lib.hid (show 115 ≤ c → c ≤ 122 → tbE.getD c.toNat 0 = 162 + (c - 115) ∧ tbI.getD c.toNat 0 = 162 + (c - 115) from fun p q => by obtain ⟨x, y⟩ := codes3 c.toNat (by omega) (by omega) (by omega); rw [x, y]; omega)
  have F4 := Lib.hid (show 65 ≤ c → c ≤ 73 → tbE.getD c.toNat 0 = 193 + (c - 65) ∧ tbI.getD c.toNat 0 = 193 + (c - 65) from fun p q => by obtain ⟨x, y⟩ := codes4 c.toNat (by omega) (by omega) (by omega); rw [x, y]; omega)
  have F5 := Lib.hid (show 74 ≤ c → c ≤ 82 → tbE.getD c.toNat 0 = 209 + (c - 74) ∧ tbI.getD c.toNat 0 = 209 + (c - 74) from fun p q => by obtain ⟨x, y⟩ := codes5 c.toNat (by omega) (by omega) (by omega); rw [x, y]; omega)
  have F6 := Lib.hid (show 83 ≤ c → c ≤ 90 → tbE.getD c.toNat 0 = 226 + (c - 83) ∧ tbI.getD c.toNat 0 = 226 + (c - 83) from fun p q => by obtain ⟨x, y⟩ := codes6 c.toNat (by omega) (by omega) (by omega); rw [x, y]; omega)
  have F7 := Lib.hid (show c = 94 → tbE.getD c.toNat 0 = 154 ∧ tbI.getD c.toNat 0 = 95 from fun p => by subst p; decide +kernel)
  have F8 := Lib.hid (show c = 126 → tbE.getD c.toNat 0 = 95 ∧ tbI.getD c.toNat 0 = 161 from fun p => by subst p; decide +kernel)
  generalize tbE = E at *
  generalize tbI = I at *
  go_enter Try.func9, Try.ntmps9
  go_wp2_with fail
  refine (CE.out _).mono ?_
  rintro e w1 ⟨rfl, k1⟩
  have K1 := Lib.hid k1
  clear k1
  go_wp2_with fail
  refine (CI.out _).mono ?_
  rintro e w2 ⟨rfl, k2⟩
  have K2 := Lib.hid (below_next K1.out k2)
  clear k2 K1
  go_wp2_with (refine st_alloc rfl rfl ?_)
  intro b3 w3 r3 k3 l3
  go_wp2_with (refine st_alloc rfl rfl ?_)
  intro b4 w4 r4 k4 l4
  have hne : b3 ≠ b4 := by have := r3.lt; omega
  have hb3 : w.heap.size ≤ b3 := by have := K2.out.size; omega
  have hb4 : w.heap.size ≤ b4 := by have := K2.out.size; have := k3.size; omega
  have R3 := Lib.hid (r3.on k4); have K4 := Lib.hid (below_next (below_next K2.out k3) k4)
  clear K2 k3 k4 r3 l3 l4
  go_wp2_with (refine st_store rfl _ _ rfl b3 rfl _ rfl _ R3.out len_zeros LE.out ?_)
  intro w5 r5 o5
  have R4 := Lib.hid (r4.only o5 (fun h => hne h.symm)); have K5 := Lib.hid (K4.out.trans (o5.below K4.out.size (fun d hd => by rw [hd]; exact hb3)))
  clear r4 o5 K4 R3
  go_wp2_with (refine st_store rfl _ _ rfl b4 rfl _ rfl _ R4.out len_zeros LI.out ?_)
  intro w6 r6 o6
  have R5 := Lib.hid (r5.only o6 hne); have R6 := Lib.hid r6; have K6 := Lib.hid (K5.out.trans (o6.below K5.out.size (fun d hd => by rw [hd]; exact hb4)))
  clear r5 r6 o6 K5 R4
  by_cases q0 : 48 ≤ c ∧ c ≤ 57
  · obtain ⟨a1, a2⟩ := q0
    obtain ⟨x, y⟩ := F0.out a1 a2
    have cE := R5.out.is LE.out c _ h0 h1 x
    have cI := R6.out.is LI.out c _ h0 h1 y
    clear x y 
    go_wp2_with fail
    refine (CR.out _).mono ?_
    rintro e w7 ⟨rfl, k7⟩
    have K7 := Lib.hid (below_next K6.out k7)
    clear k7 K6
    go_wp2
    go_ret
    exact ⟨rfl, K7.out⟩
  by_cases q1 : 97 ≤ c ∧ c ≤ 105
  · obtain ⟨a1, a2⟩ := q1
    obtain ⟨x, y⟩ := F1.out a1 a2
    have cE := R5.out.is LE.out c _ h0 h1 x
    have cI := R6.out.is LI.out c _ h0 h1 y
    clear x y q0
    go_wp2_with fail
    refine (CR.out _).mono ?_
    rintro e w7 ⟨rfl, k7⟩
    have K7 := Lib.hid (below_next K6.out k7)
    clear k7 K6
    go_wp2
    go_ret
    exact ⟨rfl, K7.out⟩
  by_cases q2 : 106 ≤ c ∧ c ≤ 114
  · obtain ⟨a1, a2⟩ := q2
    obtain ⟨x, y⟩ := F2.out a1 a2
    have cE := R5.out.is LE.out c _ h0 h1 x
    have cI := R6.out.is LI.out c _ h0 h1 y
    clear x y q0 q1
    go_wp2_with fail
    refine (CR.out _).mono ?_
    rintro e w7 ⟨rfl, k7⟩
    have K7 := Lib.hid (below_next K6.out k7)
    clear k7 K6
    go_wp2
    go_ret
    exact ⟨rfl, K7.out⟩
  by_cases q3 : 115 ≤ c ∧ c ≤ 122
  · obtain ⟨a1, a2⟩ := q3
    obtain ⟨x, y⟩ := F3.out a1 a2
    have cE := R5.out.is LE.out c _ h0 h1 x
    have cI := R6.out.is LI.out c _ h0 h1 y
    clear x y q0 q1 q2
    go_wp2_with fail
    refine (CR.out _).mono ?_
    rintro e w7 ⟨rfl, k7⟩
    have K7 := Lib.hid (below_next K6.out k7)
    clear k7 K6
    go_wp2
    go_ret
    exact ⟨rfl, K7.out⟩
  by_cases q4 : 65 ≤ c ∧ c ≤ 73
  · obtain ⟨a1, a2⟩ := q4
    obtain ⟨x, y⟩ := F4.out a1 a2
    have cE := R5.out.is LE.out c _ h0 h1 x
    have cI := R6.out.is LI.out c _ h0 h1 y
    clear x y q0 q1 q2 q3
    go_wp2_with fail
    refine (CR.out _).mono ?_
    rintro e w7 ⟨rfl, k7⟩
    have K7 := Lib.hid (below_next K6.out k7)
    clear k7 K6
    go_wp2
    go_ret
    exact ⟨rfl, K7.out⟩
  by_cases q5 : 74 ≤ c ∧ c ≤ 82
  · obtain ⟨a1, a2⟩ := q5
    obtain ⟨x, y⟩ := F5.out a1 a2
    have cE := R5.out.is LE.out c _ h0 h1 x
    have cI := R6.out.is LI.out c _ h0 h1 y
    clear x y q0 q1 q2 q3 q4
    go_wp2_with fail
    refine (CR.out _).mono ?_
    rintro e w7 ⟨rfl, k7⟩
    have K7 := Lib.hid (below_next K6.out k7)
    clear k7 K6
    go_wp2
    go_ret
    exact ⟨rfl, K7.out⟩
  by_cases q6 : 83 ≤ c ∧ c ≤ 90
  · obtain ⟨a1, a2⟩ := q6
    obtain ⟨x, y⟩ := F6.out a1 a2
    have cE := R5.out.is LE.out c _ h0 h1 x
    have cI := R6.out.is LI.out c _ h0 h1 y
    clear x y q0 q1 q2 q3 q4 q5
    go_wp2_with fail
    refine (CR.out _).mono ?_
    rintro e w7 ⟨rfl, k7⟩
    have K7 := Lib.hid (below_next K6.out k7)
    clear k7 K6
    go_wp2
    go_ret
    exact ⟨rfl, K7.out⟩
  by_cases q7 : c = 94
  · obtain ⟨x, y⟩ := F7.out q7
    have cE := R5.out.is LE.out c _ h0 h1 x
    have cI := R6.out.is LI.out c _ h0 h1 y
    clear x y q0 q1 q2 q3 q4 q5 q6 F0 F1 F2 F3 F4 F5 F6 F7 F8
    subst q7
    simp only [show (94 : Int).toNat = 94 from rfl] at cE cI
    go_wp2_with fail
    refine (CR.out _).mono ?_
    rintro e w7 ⟨rfl, k7⟩
    have K7 := Lib.hid (below_next K6.out k7)
    clear k7 K6
    go_wp2
    go_ret
    exact ⟨rfl, K7.out⟩
  by_cases q8 : c = 126
  · obtain ⟨x, y⟩ := F8.out q8
    have cE := R5.out.is LE.out c _ h0 h1 x
    have cI := R6.out.is LI.out c _ h0 h1 y
    clear x y q0 q1 q2 q3 q4 q5 q6 q7 F0 F1 F2 F3 F4 F5 F6 F7 F8
    subst q8
    simp only [show (126 : Int).toNat = 126 from rfl] at cE cI
    go_wp2_with fail
    refine (CR.out _).mono ?_
    rintro e w7 ⟨rfl, k7⟩
    have K7 := Lib.hid (below_next K6.out k7)
    clear k7 K6
    go_wp2
    go_ret
    exact ⟨rfl, K7.out⟩
  rcases (show c < 48 ∨ (57 < c ∧ c < 65) ∨ (90 < c ∧ c < 94) ∨ (94 < c ∧ c < 97) ∨ (122 < c ∧ c < 126) ∨ (126 < c) by omega) with a1 | ⟨a1, a2⟩ | ⟨a1, a2⟩ | ⟨a1, a2⟩ | ⟨a1, a2⟩ | a1
  all_goals
    have hb1 : (c == 94) = false := by simp; omega
    have hb2 : (c == 126) = false := by simp; omega
    clear q0 q1 q2 q3 q4 q5 q6
    go_wp2_with fail
    refine (CR.out _).mono ?_
    rintro e w7 ⟨rfl, k7⟩
    have K7 := Lib.hid (below_next K6.out k7)
    clear k7 K6
    go_wp2
    go_ret
    exact ⟨rfl, K7.out⟩

theorem law_codes_said (c : Int) (w : World) (h : (Lit.int .u8 c).wf = true) : Calls Try.prog 9 #[.int .u8 c] w fun e w' => e = .returned (.bool true) ∧ Below w.heap.size w w' :=
  law_codes c w (u8_bounds h).1 (u8_bounds h).2

end Go.Proofs.Ytoccnhajfmkpoaa
