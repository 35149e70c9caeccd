/- The plain mathematics of OffJoins: sums and products of lists behind one another; a row of ints of the call's own. -/
import Derived.Test.YtheokjjkjigcfaaPlain
import Derived.WalkKit
import Derived.Maps.AppendAt
namespace Go.Proofs.Ytheokjjkjigcfaa
open Go.RowKit
namespace Plain

def sumL : List Int → Int
  | [] => 0
  | n :: l => n + sumL l
def prodL : List Int → Int
  | [] => 1
  | n :: l => n * prodL l
theorem sumL_append (a b : List Int) : sumL (a ++ b) = sumL a + sumL b := by
  induction a with
  | nil => simp [sumL]
  | cons n a ih => simp only [List.cons_append, sumL, ih]; omega
theorem prodL_append (a b : List Int) : prodL (a ++ b) = prodL a * prodL b := by
  induction a with
  | nil => simp [prodL]
  | cons n a ih => simp only [List.cons_append, prodL, ih, Int.mul_assoc]
theorem allMay_append (a b : List Int) : allMay (a ++ b) = (allMay a && allMay b) := by
  induction a with
  | nil => simp [allMay]
  | cons n a ih => simp only [List.cons_append, allMay, ih, Bool.and_assoc]
theorem sumL_nonneg (l : List Int) (h : allMay l = true) : 0 ≤ sumL l := by
  induction l with
  | nil => simp [sumL]
  | cons n l ih =>
    simp only [allMay, Bool.and_eq_true, may_iff] at h
    have := ih h.2
    simp only [sumL]; omega
theorem prodL_nonneg (l : List Int) (h : allMay l = true) : 0 ≤ prodL l := by
  induction l with
  | nil => simp [prodL]
  | cons n l ih =>
    simp only [allMay, Bool.and_eq_true, may_iff] at h
    exact Int.mul_nonneg h.1.1 (ih h.2)
theorem addFrom_is (l : List Int) : ∀ s : Int, 0 ≤ s → s ≤ 4611686018427387904 → addFrom s l = if allMay l = true ∧ s + sumL l ≤ 4611686018427387904 then some (s + sumL l) else none := by
  induction l with
  | nil => intro s h0 h1; simp [addFrom, allMay, sumL, h1]
  | cons n l ih =>
    intro s h0 h1
    by_cases hn : 0 ≤ n ∧ n ≤ 4611686018427387904 - s
    · rw [addFrom_yes _ _ _ hn.1 hn.2, ih (s + n) (by omega) (by omega)]
      have hm : mayB n = true := (may_iff n).2 ⟨hn.1, by omega⟩
      simp only [allMay, hm, Bool.true_and, sumL]
      rw [show s + n + sumL l = s + (n + sumL l) by omega]
    · rw [addFrom_no _ _ _ hn, if_neg]
      rintro ⟨ha, hs⟩
      simp only [allMay, Bool.and_eq_true, may_iff] at ha
      have := sumL_nonneg l ha.2
      simp only [sumL] at hs
      omega
theorem prodL_pos (l : List Int) (h : allMay l = true) (hz : anyNought l = false) : 1 ≤ prodL l := by
  induction l with
  | nil => simp [prodL]
  | cons n l ih =>
    simp only [allMay, Bool.and_eq_true, may_iff] at h
    simp only [anyNought, Bool.or_eq_false_iff] at hz
    have h0 : n ≠ 0 := by simpa using hz.1
    exact one_le_mul n (prodL l) (by omega) (ih h.2 hz.2)
theorem prodL_nought (l : List Int) (hz : anyNought l = true) : prodL l = 0 := by
  induction l with
  | nil => simp [anyNought] at hz
  | cons n l ih =>
    simp only [anyNought, Bool.or_eq_true] at hz
    rcases hz with h | h
    · have : n = 0 := by simpa using h
      simp [prodL, this]
    · simp [prodL, ih h]
theorem mulFrom_is (l : List Int) : ∀ p : Int, 1 ≤ p → p ≤ 4611686018427387904 → allMay l = true → anyNought l = false → mulFrom p l = if p * prodL l ≤ 4611686018427387904 then some (p * prodL l) else none := by
  induction l with
  | nil => intro p h0 h1 _ _; simp [mulFrom, prodL, h1]
  | cons n l ih =>
    intro p h0 h1 ha hz
    simp only [allMay, Bool.and_eq_true, may_iff] at ha
    simp only [anyNought, Bool.or_eq_false_iff] at hz
    have hn0 : n ≠ 0 := by simpa using hz.1
    have hpos := prodL_pos l ha.2 hz.2
    have hle : n ≤ 4611686018427387904 / p ↔ p * n ≤ 4611686018427387904 := by
      rw [Int.le_ediv_iff_mul_le (by omega), Int.mul_comm]
    by_cases hc : n ≤ 4611686018427387904 / p
    · rw [mulFrom_yes _ _ _ hc, ih (p * n) (one_le_mul p n h0 (by omega)) (hle.1 hc) ha.2 hz.2, Int.mul_assoc]
      rfl
    · rw [mulFrom_no _ _ _ hc, if_neg]
      intro h
      apply hc
      rw [hle]
      have h2 : p * n * 1 ≤ p * n * prodL l := Int.mul_le_mul_of_nonneg_left hpos (Int.mul_nonneg (by omega) ha.1.1)
      simp only [prodL, ← Int.mul_assoc] at h
      omega
theorem mulS_is (l : List Int) : mulS l = if allMay l = true ∧ prodL l ≤ 4611686018427387904 then some (prodL l) else none := by
  unfold mulS
  by_cases ha : allMay l = true
  · rw [if_pos ha]
    cases hz : anyNought l
    · rw [if_neg (by simp), mulFrom_is l 1 (by omega) (by omega) ha hz, Int.one_mul]
      simp [ha]
    · rw [if_pos rfl, prodL_nought l hz]
      simp [ha]
  · rw [if_neg ha, if_neg (fun h => ha h.1)]

theorem add_join (a b : List Int) : addOk (a ++ b) = (addOk a && addOk b && addOk [addV a, addV b]) ∧ (addOk (a ++ b) = true → addV (a ++ b) = addV [addV a, addV b]) := by
  have ea := addFrom_is a 0 (by omega) (by omega)
  have eb := addFrom_is b 0 (by omega) (by omega)
  have ec := addFrom_is (a ++ b) 0 (by omega) (by omega)
  rw [sumL_append, allMay_append] at ec
  simp only [Int.zero_add] at ea eb ec
  by_cases ha : allMay a = true ∧ sumL a ≤ 4611686018427387904
  · have na := sumL_nonneg a ha.1
    rw [if_pos ha] at ea
    by_cases hb : allMay b = true ∧ sumL b ≤ 4611686018427387904
    · have nb := sumL_nonneg b hb.1
      rw [if_pos hb] at eb
      have e2 := addFrom_two (sumL a) (sumL b)
      by_cases hc : sumL a + sumL b ≤ 4611686018427387904
      · rw [if_pos ⟨by rw [ha.1, hb.1]; rfl, hc⟩] at ec
        rw [if_pos ⟨na, ha.2, nb, by omega⟩] at e2
        simp [addOk, addV, ea, eb, ec, e2]
      · rw [if_neg (fun h => hc h.2)] at ec
        rw [if_neg (by omega)] at e2
        simp [addOk, addV, ea, eb, ec, e2]
    · rw [if_neg hb] at eb
      have hc : ¬ ((allMay a && allMay b) = true ∧ sumL a + sumL b ≤ 4611686018427387904) := by
        rintro ⟨h1, h2⟩
        rw [Bool.and_eq_true] at h1
        exact hb ⟨h1.2, by omega⟩
      rw [if_neg hc] at ec
      simp [addOk, eb, ec]
  · rw [if_neg ha] at ea
    have hc : ¬ ((allMay a && allMay b) = true ∧ sumL a + sumL b ≤ 4611686018427387904) := by
      rintro ⟨h1, h2⟩
      rw [Bool.and_eq_true] at h1
      have := sumL_nonneg b h1.2
      exact ha ⟨h1.1, by omega⟩
    rw [if_neg hc] at ec
    simp [addOk, ea, ec]
theorem add_swap (a b : List Int) : addOk (b ++ a) = addOk (a ++ b) ∧ addV (b ++ a) = addV (a ++ b) := by
  have h : addFrom 0 (b ++ a) = addFrom 0 (a ++ b) := by
    rw [addFrom_is _ 0 (by omega) (by omega), addFrom_is _ 0 (by omega) (by omega), sumL_append, sumL_append, allMay_append, allMay_append, Bool.and_comm, Int.add_comm (sumL b)]
  exact ⟨by rw [addOk, addOk, h], by rw [addV, addV, h]⟩
theorem mul_join (a b : List Int) (ha : mulOk a = true) (hb : mulOk b = true) : mulV (a ++ b) = mulV [mulV a, mulV b] ∧ mulOk (a ++ b) = mulOk [mulV a, mulV b] := by
  have ea := mulS_is a
  have eb := mulS_is b
  have ec := mulS_is (a ++ b)
  rw [prodL_append, allMay_append] at ec
  by_cases h1 : allMay a = true ∧ prodL a ≤ 4611686018427387904
  · by_cases h2 : allMay b = true ∧ prodL b ≤ 4611686018427387904
    · rw [if_pos h1] at ea
      rw [if_pos h2] at eb
      have e1 : mulV a = prodL a := by simp [mulV, ea]
      have e2 : mulV b = prodL b := by simp [mulV, eb]
      have ed := mulS_is [prodL a, prodL b]
      have na := prodL_nonneg a h1.1
      have nb := prodL_nonneg b h2.1
      have hm : allMay [prodL a, prodL b] = true := by simp only [allMay, Bool.and_true, Bool.and_eq_true, may_iff]; exact ⟨⟨na, h1.2⟩, nb, h2.2⟩
      rw [hm] at ed
      rw [h1.1, h2.1] at ec
      simp only [prodL, Int.mul_one] at ed
      rw [e1, e2, mulV, mulV, mulOk, mulOk, ec, ed]
      simp
    · rw [if_neg h2] at eb
      simp [mulOk, eb] at hb
  · rw [if_neg h1] at ea
    simp [mulOk, ea] at ha

def intVals (zs : List Int) : List Value := zs.map fun z => .int .i64 z

end Plain

theorem own_ints {w : World} {base : Nat} {e : TypeId} {v : Value} {zs : List Int} (h : w.ownsRow base e 1 v zs.length (Plain.intVals zs)) :
    ∃ A c, v = .slice A zs.length c ∧ Ints w A zs.length zs ∧ ∀ b o, A = some ⟨b, o, none⟩ → base ≤ b ∧ b < w.heap.size := by
  have h2 := h
  have h3 := h.lt
  rcases h.2 with ⟨rfl, h0⟩ | ⟨g, cap, cur, rfl, _⟩
  · exact ⟨none, 0, by rw [h0], ⟨rfl, fun hp => absurd hp (by omega)⟩, fun b o hb => by cases hb⟩
  · have hc := h2.cells (g := g) rfl
    refine ⟨_, cap, rfl, ⟨rfl, fun _ => ⟨g, 0, rfl, fun k hk => ?_⟩⟩, fun b o hb => by
      injection hb with hb
      injection hb with hb _
      subst hb
      exact h3 _ rfl⟩
    have q := hc k (.int .i64 (zs.getD k 0)) (by simp [Plain.intVals, hk])
    by_cases hk0 : k = 0
    · subst hk0
      simpa [Addr.add] using q
    · simpa [Addr.add, hk0] using q

end Go.Proofs.Ytheokjjkjigcfaa
