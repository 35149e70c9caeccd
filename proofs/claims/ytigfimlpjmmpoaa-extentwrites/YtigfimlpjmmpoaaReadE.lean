/- Bytes that came in, as a row. -/
import Derived.Test.YtigfimlpjmmpoaaReadD
namespace Go.Proofs.Ytigfimlpjmmpoaa
open Go.RowKit

theorem nums_of {k : IntKind} {w : World} {x : Addr} {len cap : Nat} {zs : List Int} (hl : len ≤ cap) (hm : cap ≤ maxLen) (hz : zs.length = cap) (hc : ∀ i, i < zs.length → w.cell? (x.add i) = some (.int k (zs.getD i 0))) : Nums k w (some x) len cap (zs.take len) := by
  refine ⟨by simp; omega, hl, hm, (fun h => by cases h), fun hp => ?_⟩
  obtain ⟨b, o, s⟩ := x
  have h0 := hc 0 (by omega)
  have hs : s = none := by simpa [Addr.add] using World.cell?_spot h0
  subst hs
  refine ⟨b, o, rfl, World.block_lt_of_cell? w ⟨b, o, none⟩ (by simpa [Addr.add] using h0), fun k hk => ?_⟩
  have hk' := hc k (by omega)
  have he : (zs.take len).getD k 0 = zs.getD k 0 := by simp [hk]
  rw [he]
  by_cases h0 : k = 0
  · subst h0; simpa [Addr.add] using hk'
  · simpa [Addr.add, h0] using hk'

/-- A slice of integers that came in. -/
def IsRow (k : IntKind) (w : World) (a : Option Addr) (len cap : Nat) (zs : List Int) : Prop :=
  (a = none ∧ len = 0 ∧ cap = 0 ∧ zs = []) ∨
  ∃ x, a = some x ∧ len ≤ cap ∧ cap ≤ maxLen ∧ zs.length = cap ∧ (∀ i, i < zs.length → w.cell? (x.add i) = some (.int k (zs.getD i 0))) ∧ ∀ n ∈ zs, (Lit.int k n).wf = true
theorem IsRow.nums {k : IntKind} {w : World} {a : Option Addr} {len cap : Nat} {zs : List Int} (h : IsRow k w a len cap zs) : Nums k w a len cap (zs.take len) := by
  rcases h with ⟨rfl, rfl, rfl, rfl⟩ | ⟨x, rfl, hl, hm, hz, hc, _⟩
  · exact nums_nil k w
  · exact nums_of hl hm hz hc

theorem IsRow.bytes {w : World} {A : Option Addr} {n c : Nat} {zs : List Int} (h : IsRow .u8 w A n c zs) : Nums .u8 w A n c (zs.take n) ∧ ∀ x ∈ zs.take n, 0 ≤ x ∧ x ≤ 255 := by
  refine ⟨h.nums, fun x hx => ?_⟩
  have hx := List.mem_of_mem_take hx
  rcases h with ⟨rfl, rfl, rfl, rfl⟩ | ⟨y, rfl, hl, hm, hz, hc, hw⟩
  · cases hx
  · have := bounds_u8 (hw x hx); omega
end Go.Proofs.Ytigfimlpjmmpoaa
