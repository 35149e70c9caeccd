/- What the laws need of the meaning of what is changed. -/
import Derived.Test.YtigfimlpjmmpoaaWalksO
import Derived.Test.YtigfimlpjmmpoaaWalksM
import Derived.Test.YtigfimlpjmmpoaaWalksN
import Derived.Test.YtigfimlpjmmpoaaWalksE
import Derived.WalkKit
namespace Go.Proofs.Ytigfimlpjmmpoaa
open Go.RowKit

theorem rlen_may {s : Int} {L : List Ex} (gm : may s L = true) (t : Int) : rlen s L t 1 = if 0 ≤ t ∧ t < s then 1 else 0 := by
  unfold rlen
  rw [gm]
  by_cases h : 0 ≤ t
  · rw [if_pos (by simp [h])]
    by_cases h2 : t < s
    · rw [if_pos ⟨h, h2⟩]; omega
    · rw [if_neg (by omega)]; omega
  · rw [if_neg (by simp [h]), if_neg (by omega)]
theorem atv_eq {s : Int} {L : List Ex} (gm : may s L = true) (t : Int) : atv s L t = if 0 ≤ t ∧ t < s then at_ L t else -1 := by
  unfold atv
  rw [rlen_may gm]
  by_cases h : 0 ≤ t ∧ t < s
  · rw [if_pos h, if_pos rfl, if_pos h]
  · rw [if_neg h, if_neg (by decide), if_neg h]
theorem wo_le (L : List Ex) (p q : Int) : (wo L p q).length ≤ L.length := by
  unfold wo
  rw [List.length_map]
  exact List.length_filter_le _ _
theorem good_cut {s : Int} {L : List Ex} (hg : Good s L) {a : Int} (a0 : 0 ≤ a) (a1 : a ≤ 1099511627776) : Good a (wo L a 1099511627776) :=
  good_wo hg a _ a0 a1 (fun _ h1 h2 => .inr ⟨h1, h2⟩)
theorem may_cut {s : Int} {L : List Ex} (gm : may s L = true) {a : Int} (a0 : 0 ≤ a) (a1 : a ≤ 1099511627776) : may a (wo L a 1099511627776) = true :=
  (may_iff _ _).2 (good_cut ((may_iff _ _).1 gm) a0 a1)
/-- Cut off, then longer again: what is at a place. -/
theorem sized_at {s : Int} {L : List Ex} (gm : may s L = true) {a b : Int} (a0 : 0 ≤ a) (ab : a ≤ b) (b1 : b ≤ 1099511627776) (t : Int) :
    atv b (wo (wo L a 1099511627776) b 1099511627776) t = if t < 0 ∨ b ≤ t then -1 else if t < a ∧ t < s then at_ L t else 0 := by
  have g1 := may_cut gm a0 (by omega : a ≤ 1099511627776)
  have g2 := may_cut g1 (by omega : 0 ≤ b) b1
  rw [atv_eq g2]
  by_cases h : 0 ≤ t ∧ t < b
  · rw [if_pos h, if_neg (by omega), at_wo, if_neg (by omega), at_wo]
    by_cases h2 : t < a
    · rw [if_neg (by omega)]
      by_cases h3 : t < s
      · rw [if_pos ⟨h2, h3⟩]
      · rw [if_neg (by omega)]
        exact ((may_iff _ _).1 gm).behind (by omega)
    · rw [if_pos (by omega), if_neg (by omega)]
  · rw [if_neg h, if_pos (by omega)]
theorem sized_no {s : Int} {L : List Ex} (gm : may s L = true) {a b : Int} (j : Nat) (hj : j < (wo (wo L a 1099511627776) b 1099511627776).length) :
    0 ≤ ((wo (wo L a 1099511627776) b 1099511627776).getD j default).no ∧ ((wo (wo L a 1099511627776) b 1099511627776).getD j default).no * 8 < a := by
  have hg := (may_iff _ _).1 gm
  have hm : (wo (wo L a 1099511627776) b 1099511627776).getD j default ∈ wo (wo L a 1099511627776) b 1099511627776 := by
    rw [List.getD_eq_getElem?_getD, List.getElem?_eq_getElem hj]
    exact List.getElem_mem _
  generalize (wo (wo L a 1099511627776) b 1099511627776).getD j default = e at hm
  unfold wo at hm
  obtain ⟨e1, h1, rfl⟩ := List.mem_map.1 hm
  obtain ⟨h2, _⟩ := List.mem_filter.1 h1
  obtain ⟨e2, h3, rfl⟩ := List.mem_map.1 h2
  obtain ⟨h4, h5⟩ := List.mem_filter.1 h3
  have := hg.rng e2 h4
  simp [whole] at h5
  simp only [cutx]
  omega
end Go.Proofs.Ytigfimlpjmmpoaa
