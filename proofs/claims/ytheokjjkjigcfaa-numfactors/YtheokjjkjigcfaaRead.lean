/- What the laws' walks are told of their arguments. -/
import Derived.Test.YtheokjjkjigcfaaPlain
import Derived.OpenShut
import Derived.WalkKit
namespace Go.Proofs.Ytheokjjkjigcfaa
open Go.RowKit

/-- A slice of integers that came in: nil; or a row of 'cap' cells that hold the numbers 'zs', the first 'len' of them its elements. -/
def IsRow (k : IntKind) (w : World) (a : Option Addr) (len cap : Nat) (zs : List Int) : Prop :=
  (a = none ∧ len = 0 ∧ cap = 0 ∧ zs = []) ∨
  ∃ x, a = some x ∧ len ≤ cap ∧ cap ≤ maxLen ∧ zs.length = cap ∧ (∀ i, i < zs.length → w.cell? (x.add i) = some (.int k (zs.getD i 0))) ∧ ∀ n ∈ zs, (Lit.int k n).wf = true

theorem IsRow.ints {w : World} {a : Option Addr} {len cap : Nat} {zs : List Int} (h : IsRow .i64 w a len cap zs) : Ints w a len (zs.take len) ∧ len ≤ maxLen := by
  rcases h with ⟨rfl, rfl, rfl, rfl⟩ | ⟨x, rfl, hl, hm, hz, hc, _⟩
  · exact ⟨⟨rfl, fun h => absurd h (by omega)⟩, Nat.zero_le _⟩
  · refine ⟨⟨by simp; omega, fun hp => ?_⟩, Nat.le_trans hl hm⟩
    obtain ⟨b, o, s⟩ := x
    have h0 := hc 0 (by omega)
    have hs : s = none := by simpa [Addr.add] using World.cell?_spot h0
    subst hs
    refine ⟨b, o, rfl, fun k hk => ?_⟩
    have hk' := hc k (by omega)
    have he : (zs.take len).getD k 0 = zs.getD k 0 := by simp [hk]
    rw [he]
    by_cases h0 : k = 0
    · subst h0; simpa [Addr.add] using hk'
    · simpa [Addr.add, h0] using hk'

theorem i64_bounds {n : Int} (h : (Lit.int .i64 n).wf = true) : -9223372036854775808 ≤ n ∧ n ≤ 9223372036854775807 := bounds_i64 h

/-- What is kept of old memory is kept behind draws, too: ints that read. -/
theorem Ints.below {w w' : World} {B : Nat} {A : Option Addr} {n : Nat} {zs : List Int} (h : Ints w A n zs) (hb : Below B w w') (hB : ∀ b o, A = some ⟨b, o, none⟩ → 0 < n → b < B) : Ints w' A n zs := by
  refine ⟨h.1, fun hn => ?_⟩
  obtain ⟨b, o, rfl, hc⟩ := h.2 hn
  exact ⟨b, o, rfl, fun k hk => (hb.cell (p := ⟨b, o + k, none⟩) (hB b o rfl hn)).trans (hc k hk)⟩

end Go.Proofs.Ytheokjjkjigcfaa
