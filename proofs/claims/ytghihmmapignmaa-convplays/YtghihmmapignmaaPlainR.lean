/- What the reference's lists of pairs make: the same table, given, taken. -/
import Derived.Test.YtghihmmapignmaaTabL
namespace Go.Proofs.Ytghihmmapignmaa
open Go.RowKit

/-- The named pairs of Ibm, as far as m. -/
def ibmTo : Nat → List Int
  | 0 => namedL
  | m + 1 => if (ibmTo m).getD (2 * m) 0 = 94 then (ibmTo m).set (2 * m + 1) 95 else if (ibmTo m).getD (2 * m) 0 = 126 then (ibmTo m).set (2 * m + 1) 161 else ibmTo m
theorem len_ibmTo : ∀ m, (ibmTo m).length = 74
  | 0 => rfl
  | m + 1 => by
    rw [ibmTo]
    split
    · rw [List.length_set]; exact len_ibmTo m
    · split
      · rw [List.length_set]; exact len_ibmTo m
      · exact len_ibmTo m
def namedI : List Int := [0x00, 0x00, 0x09, 0x05, 0x0A, 0x25, 0x0D, 0x0D, 0x20, 0x40, 0x21, 0x5A, 0x22, 0x7F, 0x23, 0x7B, 0x24, 0x5B, 0x25, 0x6C, 0x26, 0x50, 0x27, 0x7D, 0x28, 0x4D, 0x29, 0x5D, 0x2A, 0x5C, 0x2B, 0x4E, 0x2C, 0x6B, 0x2D, 0x60, 0x2E, 0x4B, 0x2F, 0x61, 0x3A, 0x7A, 0x3B, 0x5E, 0x3C, 0x4C, 0x3D, 0x7E, 0x3E, 0x6E, 0x3F, 0x6F, 0x40, 0x7C, 0x5B, 0xAD, 0x5C, 0xE0, 0x5D, 0xBD, 0x5E, 0x5F, 0x5F, 0x6D, 0x60, 0x79, 0x7B, 0xC0, 0x7C, 0x4F, 0x7D, 0xD0, 0x7E, 0xA1]
theorem ibm_all : ibmTo 37 = namedI := by decide +kernel
theorem len_named : namedL.length = 74 := rfl
theorem len_namedI : namedI.length = 74 := rfl

def namedX (i : Bool) : List Int := bif i then namedI else namedL
/-- All pairs. -/
def pairsL (i : Bool) : List Int := namedX i ++ part1 10 ++ part2 9 ++ part3 8
theorem len_pairs (i : Bool) : (pairsL i).length = 198 := by cases i <;> decide +kernel
def hxOf (i : Bool) (j : Nat) : Nat := ((pairsL i).getD (2 * j) 0).toNat
def hyOf (i : Bool) (j : Nat) : Nat := ((pairsL i).getD (2 * j + 1) 0).toNat
def pTo (i : Bool) : Nat → St
  | 0 => st0
  | j + 1 => stPair (pTo i j) (hxOf i j) (hyOf i j)
theorem p_t (i : Bool) : (pTo i 99).t = t0L i := by cases i <;> decide +kernel
theorem p_g (i : Bool) : (pTo i 99).g = gL := by cases i <;> decide +kernel
theorem p_k (i : Bool) : (pTo i 99).k = kL i := by cases i <;> decide +kernel
theorem p_fit (i : Bool) : ∀ j, j < 99 → (pairsL i).getD (2 * j) 0 = (hxOf i j : Int) ∧ (pairsL i).getD (2 * j + 1) 0 = (hyOf i j : Int) ∧ hxOf i j < 256 ∧ hyOf i j < 256 := by cases i <;> decide +kernel
theorem k_first (i : Bool) : (kL i).getD 0 false = true := by cases i <;> rfl

theorem rfill_any (i : Bool) (A : Option Addr) (n c : Nat) (w : World) (hB : Bytes w A n c (pairsL i)) : Calls Try.prog 75 #[.slice A n c] w (TabPost (tbL i) w) := by
  have h := rfill_gen A n c (pairsL i) (pTo i) w 99 256 rfl hB (by rw [← hB.1, len_pairs]) (by omega) (hxOf i) (hyOf i) (p_fit i) rfl (fun j _ => rfl) (by rw [p_k]; exact k_first i) ?_
  · rw [p_t, p_g, p_k, fill_all] at h
    exact h
  · intro n hn hg
    rw [p_g] at hg ⊢
    rw [p_k, nx_all i n (by omega)]
    exact nx_lt i n hn hg

end Go.Proofs.Ytghihmmapignmaa
