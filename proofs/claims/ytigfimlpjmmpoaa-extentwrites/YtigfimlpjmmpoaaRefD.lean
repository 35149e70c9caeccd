/- Contracts of the reference's TruncateContent, PunchContent. -/
import Derived.Test.YtigfimlpjmmpoaaRefA
import Derived.Test.YtigfimlpjmmpoaaWalksG
import Derived.WalkKit
import Derived.WalkSpells
import Derived.WalkLawsBesides
import Derived.Lib.Hide
import Derived.BigQuiet
namespace Go.Proofs.Ytigfimlpjmmpoaa
open Go.RowKit

/-- A block some of whose bytes are 0 by now: the first k were asked. -/
def cutk (e : Ex) (p q : Int) (k : Nat) : Ex := ⟨e.no, (List.range 8).map fun (i : Nat) => if i < k ∧ p ≤ e.no * 8 + (i : Int) ∧ e.no * 8 + (i : Int) < q then 0 else e.bs.getD i 0⟩
theorem cutk_ok {e : Ex} (h : e.ok) (p q : Int) (k : Nat) : (cutk e p q k).ok := by
  refine ⟨by simp [cutk], fun x hx => ?_⟩
  simp [cutk] at hx
  obtain ⟨i, _, rfl⟩ := hx
  split
  · exact ⟨by decide, by decide⟩
  · have := Ex.at_ok h i
    simpa using this
theorem cutk_zero {e : Ex} (h : e.ok) (p q : Int) : cutk e p q 0 = e := by
  unfold cutk
  cases e with
  | mk no bs =>
    congr 1
    apply List.ext_getElem?
    intro i
    have h8 : bs.length = 8 := h.1
    by_cases hi : i < 8
    · rw [List.getElem?_map, List.getElem?_range hi, Option.map_some, if_neg (by omega), List.getD_eq_getElem?_getD, List.getElem?_eq_getElem (show i < bs.length by omega)]; rfl
    · rw [List.getElem?_eq_none (by simp; omega), List.getElem?_eq_none (show bs.length ≤ i by omega)]
theorem cutk_full (e : Ex) (p q : Int) : cutk e p q 8 = cutx e p q := by
  unfold cutk cutx
  congr 1
  apply List.map_congr_left
  intro i hi
  have : i < 8 := by simpa using hi
  simp [this]
theorem cutk_no (e : Ex) (p q : Int) (k : Nat) (h : ¬ (p ≤ e.no * 8 + (k : Int) ∧ e.no * 8 + (k : Int) < q)) : cutk e p q (k + 1) = cutk e p q k := by
  unfold cutk
  congr 1
  apply List.map_congr_left
  intro i _
  by_cases hik : i = k
  · subst hik
    rw [if_neg (fun hh => h hh.2), if_neg (fun hh => h hh.2)]
  · by_cases h1 : i < k
    · simp [h1, Nat.lt_succ_of_lt h1]
    · rw [if_neg (by omega), if_neg (by omega)]
theorem cutk_yes (e : Ex) (p q : Int) (k : Nat) (hk : k < 8) (h : p ≤ e.no * 8 + (k : Int) ∧ e.no * 8 + (k : Int) < q) : ecl (cutk e p q (k + 1)) = splice (ecl (cutk e p q k)) (1 + k) [.int .u8 0] := by
  have h1 : cutk e p q (k + 1) = ⟨(cutk e p q k).no, splice (cutk e p q k).bs k [0]⟩ := by
    unfold cutk
    congr 1
    apply List.ext_getElem?
    intro i
    by_cases hi : i < 8
    · rw [List.getElem?_map, List.getElem?_range hi, Option.map_some]
      unfold splice
      by_cases k1 : i < k
      · rw [List.getElem?_append_left (by simp; omega), List.getElem?_take_of_lt k1, List.getElem?_map, List.getElem?_range hi, Option.map_some]
        simp [k1, Nat.lt_succ_of_lt k1]
      · by_cases k2 : i = k
        · subst k2
          rw [if_pos ⟨by omega, h⟩, List.getElem?_append_right (by simp; omega)]
          simp [Nat.min_eq_left (show i ≤ 8 by omega)]
        · rw [if_neg (by omega), List.getElem?_append_right (by simp; omega), List.getElem?_append_right (by simp; omega), List.getElem?_drop]
          simp only [List.length_take, List.length_map, List.length_range, List.length_singleton]
          rw [show k + 1 + (i - min k 8 - 1) = i by omega, List.getElem?_map, List.getElem?_range hi, Option.map_some, if_neg (by omega)]
    · rw [List.getElem?_eq_none (by simp; omega), List.getElem?_eq_none (by rw [length_splice _ _ _ (by simp; omega)]; simp; omega)]
  rw [h1, splice_bytes]
  rfl
/-- A variable that holds a block: one of its bytes made 0. -/
theorem XRow.zero {w : World} {b : Nat} {e e' : Ex} (h : XRow w b e) (k : Nat) (hk : k < 8) (he : ecl e' = splice (ecl e) (1 + k) [.int .u8 0]) (ho : e'.ok) : XRow (w.setCell ⟨b, 1 + k, none⟩ (.int .u8 0)) b e' ∧ Only (fun d => d = b) w (w.setCell ⟨b, 1 + k, none⟩ (.int .u8 0)) := by
  refine ⟨⟨?_, ho⟩, (Only.refl (fun d => d = b) w).setCell ⟨b, 1 + k, none⟩ (fun _ => rfl) _⟩
  have := h.1.setv (1 + k) (.int .u8 0)
  have hx : (ecl e).toArray.setIfInBounds (1 + k) (.int .u8 0) = (ecl e').toArray := by
    apply Array.ext_getElem?
    intro i
    have hl := ecl_len h.2
    rw [he]
    simp only [List.setIfInBounds_toArray, List.getElem?_toArray]
    unfold splice
    by_cases i1 : i < 1 + k
    · rw [List.getElem?_set_ne (by omega), List.getElem?_append_left (by simp; omega), List.getElem?_take_of_lt i1]
    · by_cases i2 : i = 1 + k
      · subst i2
        rw [List.getElem?_set_self (by omega), List.getElem?_append_right (by simp; omega)]
        simp [Nat.min_eq_left (show 1 + k ≤ (ecl e).length by omega)]
      · rw [List.getElem?_set_ne (by omega), List.getElem?_append_right (by simp; omega), List.getElem?_append_right (by simp; omega), List.getElem?_drop]
        congr 1
        simp
        omega
  rw [← hx]
  exact this
end Go.Proofs.Ytigfimlpjmmpoaa
