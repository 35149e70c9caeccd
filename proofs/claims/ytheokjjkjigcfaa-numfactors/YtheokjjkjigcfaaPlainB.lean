/- What is written is read again: the plain mathematics. -/
import Derived.Test.YtheokjjkjigcfaaPlainN
namespace Go.Proofs.Ytheokjjkjigcfaa
namespace Plain

theorem all_take {l : List UInt8} (h : ∀ c ∈ l, isDec c = true) : l.takeWhile isDec = l ∧ l.dropWhile isDec = [] := by
  induction l with
  | nil => exact ⟨rfl, rfl⟩
  | cons c l ih =>
    have hc := h c (by simp)
    obtain ⟨h1, h2⟩ := ih fun x hx => h x (by simp [hx])
    exact ⟨by rw [List.takeWhile_cons_of_pos hc, h1], by rw [List.dropWhile_cons_of_pos hc, h2]⟩
theorem mul_one? (m : Nat) : mulS [(m : Int), (1 : Int)] = if m ≤ 4611686018427387904 then some (m : Int) else none := by
  rw [mulS_is]
  by_cases h : m ≤ 4611686018427387904
  · rw [if_pos h, if_pos]
    · simp [prodL]
    · simp [allMay, mayB, prodL]; omega
  · rw [if_neg h, if_neg]
    simp [prodL]; omega
theorem mul_single (m : Nat) : mulS [(m : Int)] = if m ≤ 4611686018427387904 then some (m : Int) else none := by
  rw [mulS_is]
  by_cases h : m ≤ 4611686018427387904
  · rw [if_pos h, if_pos]
    · simp [prodL]
    · simp [allMay, mayB, prodL]; omega
  · rw [if_neg h, if_neg]
    simp [prodL]; omega
def one? : Option Int → Option Int
  | some p => mulS [p]
  | none => none
def snoc? (ps : List Int) : Option Int → Option (List Int)
  | some p => some (ps ++ [p])
  | none => none
theorem getGo_nil (ps : List Int) (cur : List UInt8) : getGo ps cur [] = snoc? ps (partS cur) := by
  rw [getGo]; cases partS cur <;> rfl
theorem getGo_noX (l : List UInt8) : ∀ (ps : List Int) (cur : List UInt8), (∀ c ∈ l, c ≠ 120) → getGo ps cur l = snoc? ps (partS (cur ++ l)) := by
  induction l with
  | nil => intro ps cur _; rw [getGo_nil, List.append_nil]
  | cons c l ih =>
    intro ps cur h
    rw [getGo, if_neg (h c (by simp)), ih ps (cur ++ [c]) fun x hx => h x (by simp [hx])]
    simp
theorem getS_noX (l : List UInt8) (h : ∀ c ∈ l, c ≠ 120) : getS l = one? (partS l) := by
  rw [getS, getGo_noX l [] [] h]
  simp only [List.nil_append]
  cases partS l <;> rfl
theorem dec_ne_x {c : UInt8} (h : isDec c = true) : c ≠ 120 := by
  intro he
  subst he
  revert h
  decide
theorem readS_of {base most n : Nat} {l : List UInt8} (h1 : 1 ≤ l.length) (h2 : l.length ≤ most) (hr : readFrom base 0 l = some n) : readS base most l = if n ≤ 4611686018427387904 then some n else none := by
  rw [readS, if_pos ⟨h1, h2⟩, hr]; rfl
/-- A text of digits alone, read by Get. -/
theorem getS_digits {n : Nat} {l : List UInt8} (hd : ∀ c ∈ l, isDec c = true) (h1 : 1 ≤ l.length) (h2 : l.length ≤ 19) (hr : readFrom 10 0 l = some n) : getS l = if n ≤ 4611686018427387904 then some (n : Int) else none := by
  rw [getS_noX l fun c hc => dec_ne_x (hd c hc)]
  obtain ⟨e1, e2⟩ := all_take hd
  rw [partS, e1, e2, readS_of h1 h2 hr, show unitS [] = some 1 from rfl]
  by_cases h : n ≤ 4611686018427387904
  · rw [if_pos h, if_pos h, two?, show ((1 : Nat) : Int) = 1 from rfl, mul_one?, if_pos h, one?, mul_single, if_pos h]
  · rw [if_neg h, if_neg h]; rfl

def back (n : Int) : Option Nat := if 0 ≤ n ∧ n ≤ 4611686018427387904 then some n.toNat else none
theorem decL_len (n : Int) (h0 : -9223372036854775808 ≤ n) (h1 : n ≤ 9223372036854775807) : 1 ≤ (decL n).length ∧ (decL n).length ≤ 21 := by
  unfold decL
  split
  · have := digits_len 10 1 20 (-n).toNat (by omega) (by omega) (by omega)
    simp; omega
  · have := digits_len 10 1 20 n.toNat (by omega) (by omega) (by omega)
    have h2 := digits_least 10 1 n.toNat (by omega)
    omega
theorem hexL_len (n : Int) (h1 : n ≤ 9223372036854775807) : (hexL n).length ≤ 21 ∧ (0 ≤ n → 10 ≤ (hexL n).length) := by
  unfold hexL
  split
  · simp; omega
  · have := digits_len 16 8 16 n.toNat (by omega) (by omega) (by omega)
    have h2 := digits_least 16 8 n.toNat (by omega)
    simp; omega
theorem dg45 : dg (45 : UInt8).toNat = 16 := by decide
theorem read45 (base : Nat) (u : Nat) (l : List UInt8) (hb : base ≤ 16) : readFrom base u (45 :: l) = none := readFrom_no _ _ _ _ (by rw [dg45]; omega)
theorem getDec_back (n : Int) (h1 : n ≤ 9223372036854775807) : getDecS (decL n) = back n := by
  by_cases hn : n < 0
  · rw [back, if_neg (by omega), decL, if_pos hn, getDecS]
    rw [if_neg (by simp), readS, read45 10 0 _ (by omega)]
    split <;> rfl
  · rw [decL, if_neg hn, getDecS]
    have hl := digits_least 10 1 n.toNat (by omega)
    have hm := digits_len 10 1 19 n.toNat (by omega) (by omega) (by omega)
    have hr := digits_read 10 1 n.toNat (by omega) (by omega) (by omega)
    rw [if_neg, readS_of hl hm hr, back]
    · by_cases h : n.toNat ≤ 4611686018427387904
      · rw [if_pos h, if_pos (by omega)]
      · rw [if_neg h, if_neg (by omega)]
    · rintro ⟨h2, h3⟩
      by_cases h0 : 0 < n.toNat
      · exact wr_head 20 n.toNat [] h0 (by omega) h3
      · have : n.toNat = 0 := by omega
        rw [this] at h2
        revert h2
        decide
theorem getHex_back (n : Int) (h1 : n ≤ 9223372036854775807) : getHexS (hexL n) = back n := by
  by_cases hn : n < 0
  · rw [back, if_neg (by omega), hexL, if_pos hn, getHexS, if_neg (by simp)]
  · rw [hexL, if_neg hn, getHexS]
    have hl := digits_least 16 8 n.toNat (by omega)
    have hm := digits_len 16 8 16 n.toNat (by omega) (by omega) (by omega)
    have hr := digits_read 16 8 n.toNat (by omega) (by omega) (by omega)
    rw [if_pos ⟨by simp, rfl, rfl⟩, show (48 :: 120 :: digits 16 8 n.toNat).drop 2 = digits 16 8 n.toNat from rfl, readS_of (by omega) hm hr, back]
    by_cases h : n.toNat ≤ 4611686018427387904
    · rw [if_pos h, if_pos (by omega)]
    · rw [if_neg h, if_neg (by omega)]
def backI (n : Int) : Option Int := if 0 ≤ n ∧ n ≤ 4611686018427387904 then some n else none
theorem get_back (n : Int) (h1 : n ≤ 9223372036854775807) : getS (decL n) = backI n := by
  by_cases hn : n < 0
  · rw [backI, if_neg (by omega), decL, if_pos hn, getS_noX]
    · rw [partS, List.takeWhile_cons_of_neg (by decide)]
      rfl
    · intro c hc
      rcases List.mem_cons.1 hc with rfl | hc
      · decide
      · exact dec_ne_x (digits_dec _ _ c hc)
  · rw [decL, if_neg hn, backI]
    have hl := digits_least 10 1 n.toNat (by omega)
    have hm := digits_len 10 1 19 n.toNat (by omega) (by omega) (by omega)
    have hr := digits_read 10 1 n.toNat (by omega) (by omega) (by omega)
    rw [getS_digits (digits_dec _ _) hl hm hr]
    by_cases h : n.toNat ≤ 4611686018427387904
    · rw [if_pos h, if_pos (by omega)]; congr 1; omega
    · rw [if_neg h, if_neg (by omega)]


/-! Noughts ahead -/
theorem read_zeros (base z : Nat) (l : List UInt8) (hb : 1 ≤ base) : readFrom base 0 (List.replicate z 48 ++ l) = readFrom base 0 l := by
  induction z with
  | zero => simp
  | succ z ih =>
    rw [List.replicate_succ, List.cons_append, readFrom_yes _ _ _ _ (by rw [show dg (48 : UInt8).toNat = 0 by decide]; omega), show dg (48 : UInt8).toNat = 0 by decide, Nat.zero_mul]
    exact ih
theorem read_hex_dec (l : List UInt8) : ∀ u, (∀ c ∈ l, isDec c = true) → ∃ v, readFrom 16 u l = some v ∧ v < (u + 1) * 16 ^ l.length := by
  induction l with
  | nil => intro u _; exact ⟨u, rfl, by simp⟩
  | cons c l ih =>
    intro u h
    have hc := (isDec_iff c).1 (h c (by simp))
    have hd : dg c.toNat < 16 := by rw [dg, if_pos hc]; omega
    obtain ⟨v, h1, h2⟩ := ih (u * 16 + dg c.toNat) fun x hx => h x (by simp [hx])
    refine ⟨v, by rw [readFrom_yes _ _ _ _ hd]; exact h1, ?_⟩
    rw [List.length_cons, Nat.pow_succ]
    have h3 : (u * 16 + dg c.toNat + 1) * 16 ^ l.length ≤ (u + 1) * 16 * 16 ^ l.length := Nat.mul_le_mul_right _ (by omega)
    rw [Nat.mul_comm (16 ^ l.length) 16, ← Nat.mul_assoc]
    omega
theorem zeros_all (m z : Nat) (hm : m ≤ 4294967295) (hz : 1 ≤ z) (hz6 : z ≤ 6) : ∃ v : Nat,
    getS (List.replicate z 48 ++ digits 10 1 m) = some (m : Int) ∧ getDecS (List.replicate z 48 ++ digits 10 1 m) = none ∧
    getHexS (48 :: 120 :: (List.replicate z 48 ++ digits 10 1 m)) = some v ∧ getHexS (48 :: 120 :: digits 10 1 m) = some v := by
  have hl := digits_least 10 1 m (by omega)
  have hl2 := digits_len 10 1 10 m (by omega) (by omega) (by omega)
  have hr := digits_read 10 1 m (by omega) (by omega) (by omega)
  have hd := digits_dec 1 m
  obtain ⟨v, h1, h2⟩ := read_hex_dec (digits 10 1 m) 0 hd
  have h3 : 16 ^ (digits 10 1 m).length ≤ 16 ^ 10 := Nat.pow_le_pow_right (by omega) hl2
  have h4 : v ≤ 4611686018427387904 := by omega
  have hall : ∀ c ∈ List.replicate z (48 : UInt8) ++ digits 10 1 m, isDec c = true := by
    intro c hc
    rcases List.mem_append.1 hc with hc | hc
    · rw [List.eq_of_mem_replicate hc]; decide
    · exact hd c hc
  refine ⟨v, ?_, ?_, ?_, ?_⟩
  · rw [getS_digits hall (by simp; omega) (by simp; omega) (by rw [read_zeros _ _ _ (by omega)]; exact hr), if_pos (by omega)]
  · rw [getDecS, if_pos]
    refine ⟨by simp; omega, ?_⟩
    obtain ⟨y, rfl⟩ : ∃ y, z = y + 1 := ⟨z - 1, by omega⟩
    rw [List.replicate_succ]; rfl
  · rw [getHexS, if_pos ⟨by simp, rfl, rfl⟩, show (48 :: 120 :: (List.replicate z 48 ++ digits 10 1 m)).drop 2 = List.replicate z 48 ++ digits 10 1 m from rfl, readS_of (by simp; omega) (by simp; omega) (by rw [read_zeros _ _ _ (by omega)]; exact h1), if_pos h4]
  · rw [getHexS, if_pos ⟨by simp, rfl, rfl⟩, show (48 :: 120 :: digits 10 1 m).drop 2 = digits 10 1 m from rfl, readS_of hl (by omega) h1, if_pos h4]

end Plain
end Go.Proofs.Ytheokjjkjigcfaa
