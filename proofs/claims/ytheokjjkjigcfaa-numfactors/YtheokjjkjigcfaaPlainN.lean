/- The plain mathematics of package num: digits written and read, units, parts; without any Go. -/
import Derived.Test.YtheokjjkjigcfaaPlain
import Derived.Test.YtheokjjkjigcfaaPlainJ
import Derived.Lib.Strings
import Derived.Lib.IndexBytes
namespace Go.Proofs.Ytheokjjkjigcfaa
namespace Plain

/-- The string of these bytes. -/
def bs (l : List UInt8) : ByteArray := ⟨l.toArray⟩
theorem bs_data (l : List UInt8) : (bs l).data.toList = l := rfl
theorem bs_size (l : List UInt8) : (bs l).size = l.length := by simp [bs, ByteArray.size]
theorem bs_of (s : ByteArray) : bs s.data.toList = s := Lib.mk_data s
theorem bs_append (a b : List UInt8) : bs a ++ bs b = bs (a ++ b) := by
  apply ByteArray.ext; simp [bs]
theorem bs_inj {a b : List UInt8} (h : bs a = bs b) : a = b := by
  have := congrArg (fun x => x.data.toList) h
  simpa [bs_data] using this
theorem len_data (s : ByteArray) : s.data.toList.length = s.size := (Lib.size_eq s).symm
theorem data_at (s : ByteArray) (k : Nat) (h : k < s.size) : s.data.toList.drop k = s[k] :: s.data.toList.drop (k + 1) := by
  rw [List.drop_eq_getElem_cons (by simpa using h)]; rfl

def isDec (c : UInt8) : Bool := decide (48 ≤ c.toNat) && decide (c.toNat ≤ 57)
theorem isDec_iff (c : UInt8) : isDec c = true ↔ 48 ≤ c.toNat ∧ c.toNat ≤ 57 := by simp [isDec]
theorem isDec_not (c : UInt8) : isDec c = false ↔ ¬ (48 ≤ c.toNat ∧ c.toNat ≤ 57) := by rw [← isDec_iff]; simp

/-- What a byte stands for; 16: nothing. -/
def dg (c : Nat) : Nat := if 48 ≤ c ∧ c ≤ 57 then c - 48 else if 65 ≤ c ∧ c ≤ 70 then c - 55 else if 97 ≤ c ∧ c ≤ 102 then c - 87 else 16
theorem dg_le (c : Nat) : dg c ≤ 16 := by
  unfold dg; split
  · omega
  · split
    · omega
    · split <;> omega

/-- What digits come to, behind those that came to u. -/
def readFrom (base : Nat) : Nat → List UInt8 → Option Nat
  | u, [] => some u
  | u, c :: l => if dg c.toNat < base then readFrom base (u * base + dg c.toNat) l else none
theorem readFrom_yes (base u : Nat) (c : UInt8) (l : List UInt8) (h : dg c.toNat < base) : readFrom base u (c :: l) = readFrom base (u * base + dg c.toNat) l := by rw [readFrom, if_pos h]
theorem readFrom_no (base u : Nat) (c : UInt8) (l : List UInt8) (h : ¬ dg c.toNat < base) : readFrom base u (c :: l) = none := by rw [readFrom, if_neg h]

def most? : Option Nat → Option Nat
  | some u => if u ≤ 4611686018427387904 then some u else none
  | none => none
def readS (base most : Nat) (l : List UInt8) : Option Nat := if 1 ≤ l.length ∧ l.length ≤ most then most? (readFrom base 0 l) else none
def readV (base most : Nat) (l : List UInt8) : Int := ((readS base most l).getD 0 : Nat)
def readOk (base most : Nat) (l : List UInt8) : Bool := (readS base most l).isSome

def getDecS (l : List UInt8) : Option Nat := if 1 < l.length ∧ l.getD 0 0 = 48 then none else readS 10 19 l
def getHexS (l : List UInt8) : Option Nat := if 2 ≤ l.length ∧ l.getD 0 0 = 48 ∧ l.getD 1 0 = 120 then readS 16 16 (l.drop 2) else none
def natV (o : Option Nat) : Int := (o.getD 0 : Nat)

/-- What the letters behind a number make it times. -/
def unitS (l : List UInt8) : Option Nat :=
  if l = [] then some 1 else if l = [99] then some 1 else if l = [119] then some 2 else if l = [98] then some 512 else if l = [107, 66] then some 1000
  else if l = [107] then some 1024 else if l = [75] then some 1024 else if l = [77, 66] then some 1000000 else if l = [77] then some 1048576
  else if l = [71, 66] then some 1000000000 else if l = [71] then some 1073741824 else none

def two? : Option Nat → Option Nat → Option Int
  | some n, some t => mulS [(n : Int), (t : Int)]
  | _, _ => none
def partS (l : List UInt8) : Option Int := two? (readS 10 19 (l.takeWhile isDec)) (unitS (l.dropWhile isDec))

/-- The parts of a text, behind those that were there, with what has been read of the one that is being read. -/
def getGo : List Int → List UInt8 → List UInt8 → Option (List Int)
  | ps, cur, [] => match partS cur with
    | some p => some (ps ++ [p])
    | none => none
  | ps, cur, c :: l => if c = 120 then (match partS cur with
    | some p => getGo (ps ++ [p]) [] l
    | none => none) else getGo ps (cur ++ [c]) l
def prod? : Option (List Int) → Option Int
  | some ps => mulS ps
  | none => none
def getS (l : List UInt8) : Option Int := prod? (getGo [] [] l)
def getV (l : List UInt8) : Int := (getS l).getD 0
def getOk (l : List UInt8) : Bool := (getS l).isSome

/-- The digit for a number below 16. -/
def fig (d : Nat) : UInt8 := if d < 10 then UInt8.ofNat (48 + d) else UInt8.ofNat (55 + d)
theorem fig_nat (d : Nat) (h : d < 16) : (fig d).toNat = if d < 10 then 48 + d else 55 + d := by
  unfold fig; split <;> simp <;> omega
theorem dg_fig (d : Nat) (h : d < 16) : dg (fig d).toNat = d := by
  rw [fig_nat d h]; unfold dg
  by_cases h1 : d < 10
  · simp only [h1, if_true]; rw [if_pos (by omega)]; omega
  · simp only [h1, if_false]; rw [if_neg (by omega), if_pos (by omega)]; omega

/-- Digits of n, ahead of those in acc, with noughts ahead up to the least count; f: how many there may be still. -/
def wr (base least : Nat) : Nat → Nat → List UInt8 → List UInt8
  | 0, _, acc => acc
  | f + 1, n, acc => if 0 < n ∨ acc.length < least then wr base least f (n / base) (fig (n % base) :: acc) else acc
theorem wr_yes (base least f n : Nat) (acc : List UInt8) (h : 0 < n ∨ acc.length < least) : wr base least (f + 1) n acc = wr base least f (n / base) (fig (n % base) :: acc) := by rw [wr, if_pos h]
theorem wr_no (base least f n : Nat) (acc : List UInt8) (h : ¬ (0 < n ∨ acc.length < least)) : wr base least f n acc = acc := by
  cases f
  · rfl
  · rw [wr, if_neg h]
def digits (base least n : Nat) : List UInt8 := wr base least 20 n []
def decL (n : Int) : List UInt8 := if n < 0 then 45 :: digits 10 1 (-n).toNat else digits 10 1 n.toNat
def hexL (n : Int) : List UInt8 := if n < 0 then [] else 48 :: 120 :: digits 16 8 n.toNat

theorem wr_len (base least : Nat) (hb : 2 ≤ base) : ∀ (f g n : Nat) (acc : List UInt8), n < base ^ g → least ≤ acc.length + g → (wr base least f n acc).length ≤ acc.length + g
  | 0, g, n, acc, _, _ => by simp [wr]
  | f + 1, g, n, acc, h, hl => by
    by_cases hc : 0 < n ∨ acc.length < least
    · rw [wr_yes _ _ _ _ _ hc]
      match g, h, hl with
      | 0, h, hl => simp at h; omega
      | g + 1, h, hl =>
        have := wr_len base least hb f g (n / base) (fig (n % base) :: acc) (by rw [Nat.div_lt_iff_lt_mul (by omega)]; rwa [Nat.pow_succ] at h) (by simp; omega)
        simp at this; omega
    · rw [wr_no _ _ _ _ _ hc]; omega
theorem wr_least (base least : Nat) : ∀ (f n : Nat) (acc : List UInt8), least ≤ acc.length + f → least ≤ (wr base least f n acc).length
  | 0, n, acc, h => by simpa [wr] using h
  | f + 1, n, acc, h => by
    by_cases hc : 0 < n ∨ acc.length < least
    · rw [wr_yes _ _ _ _ _ hc]
      exact wr_least base least f _ _ (by simp; omega)
    · rw [wr_no _ _ _ _ _ hc]; omega
theorem wr_read (base least : Nat) (hb : 2 ≤ base) (hb2 : base ≤ 16) : ∀ (f n : Nat) (acc : List UInt8), n < base ^ f → readFrom base 0 (wr base least f n acc) = readFrom base n acc
  | 0, n, acc, h => by
    have : n = 0 := by simpa using h
    simp [wr, this]
  | f + 1, n, acc, h => by
    by_cases hc : 0 < n ∨ acc.length < least
    · have hm : n % base < base := Nat.mod_lt _ (by omega)
      rw [wr_yes _ _ _ _ _ hc, wr_read base least hb hb2 f (n / base) _ (by rw [Nat.div_lt_iff_lt_mul (by omega)]; rwa [Nat.pow_succ] at h), readFrom_yes _ _ _ _ (by rw [dg_fig _ (by omega)]; exact hm), dg_fig _ (by omega), Nat.mul_comm, Nat.div_add_mod]
    · have : n = 0 := by omega
      rw [wr_no _ _ _ _ _ hc, this]
theorem wr_dec (least : Nat) : ∀ (f n : Nat) (acc : List UInt8), (∀ c ∈ acc, isDec c = true) → ∀ c ∈ wr 10 least f n acc, isDec c = true
  | 0, n, acc, h => by simpa [wr] using h
  | f + 1, n, acc, h => by
    by_cases hc : 0 < n ∨ acc.length < least
    · rw [wr_yes _ _ _ _ _ hc]
      refine wr_dec least f _ _ ?_
      intro c hm
      rcases List.mem_cons.1 hm with rfl | hm
      · rw [isDec_iff, fig_nat _ (by omega), if_pos (by omega)]; omega
      · exact h c hm
    · rw [wr_no _ _ _ _ _ hc]; exact h
theorem wr_head : ∀ (f n : Nat) (acc : List UInt8), 0 < n → n < 10 ^ f → (wr 10 1 f n acc).getD 0 0 ≠ 48
  | 0, n, acc, h0, h => by simp at h; omega
  | f + 1, n, acc, h0, h => by
    rw [wr_yes _ _ _ _ _ (.inl h0)]
    by_cases h1 : 0 < n / 10
    · exact wr_head f _ _ h1 (by rw [Nat.div_lt_iff_lt_mul (by omega)]; rwa [Nat.pow_succ] at h)
    · rw [wr_no _ _ _ _ _ (by simp; omega)]
      intro he
      have he2 : fig (n % 10) = 48 := by simpa using he
      have he' := congrArg UInt8.toNat he2
      rw [fig_nat _ (by omega), if_pos (by omega)] at he'
      simp at he'
      omega
theorem digits_len (base least g n : Nat) (hb : 2 ≤ base) (h : n < base ^ g) (hl : least ≤ g) : (digits base least n).length ≤ g := by
  have := wr_len base least hb 20 g n [] h (by simpa using hl)
  simpa [digits] using this
theorem digits_least (base least n : Nat) (h : least ≤ 20) : least ≤ (digits base least n).length := wr_least base least 20 n [] (by simpa using h)
theorem digits_read (base least n : Nat) (hb : 2 ≤ base) (hb2 : base ≤ 16) (h : n < base ^ 20) : readFrom base 0 (digits base least n) = some n := by
  rw [digits, wr_read base least hb hb2 20 n [] h]; rfl
theorem digits_dec (least n : Nat) : ∀ c ∈ digits 10 least n, isDec c = true := wr_dec least 20 n [] (by simp)

end Plain
end Go.Proofs.Ytheokjjkjigcfaa
