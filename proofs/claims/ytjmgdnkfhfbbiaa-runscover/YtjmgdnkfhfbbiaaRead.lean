/- What the laws' walks are told of their arguments; bytes that are appended. -/
import Derived.Test.YtjmgdnkfhfbbiaaRows
import Derived.Test.YtjmgdnkfhfbbiaaPlain
import Derived.OpenShut
import Derived.WalkKit
import Derived.Laws.OwnMore
import Derived.Laws.AppendOwnNone
import Derived.Deep.AppendLies
namespace Go.Proofs.Ytjmgdnkfhfbbiaa
open Go.RowKit

/-- A slice of integers that came in: nil; or a row of 'cap' cells that hold the numbers 'zs', the first 'len' of them its elements. -/
def IsRow (k : IntKind) (w : World) (a : Option Addr) (len cap : Nat) (zs : List Int) : Prop :=
  (a = none ∧ len = 0 ∧ cap = 0 ∧ zs = []) ∨
  ∃ x, a = some x ∧ len ≤ cap ∧ cap ≤ maxLen ∧ zs.length = cap ∧ (∀ i, i < zs.length → w.cell? (x.add i) = some (.int k (zs.getD i 0))) ∧ ∀ n ∈ zs, (Lit.int k n).wf = true

/-- Cells that hold bytes, from an address on. -/
theorem bytes_of {w : World} {x : Addr} {len cap : Nat} {zs : List Int} (hl : len ≤ cap) (hm : cap ≤ maxLen) (hz : zs.length = cap) (hc : ∀ i, i < zs.length → w.cell? (x.add i) = some (.int .u8 (zs.getD i 0))) : Bytes w (some x) len cap (zs.take len) := by
  refine ⟨by simp; omega, hl, hm, fun hp => ?_⟩
  obtain ⟨b, o, s⟩ := x
  have h0 := hc 0 (by omega)
  have hs : s = none := by simpa [Addr.add] using World.cell?_spot h0
  subst hs
  refine ⟨b, o, rfl, World.block_lt_of_cell? w ⟨b, o, none⟩ (by simpa [Addr.add] using h0), fun k hk => ?_⟩
  have hk' := hc k (by omega)
  have he : (zs.take len).getD k 0 = zs.getD k 0 := by simp [hk]
  rw [he]
  by_cases h0 : k = 0
  · subst h0; simpa [Addr.add] using hk'
  · simpa [Addr.add, h0] using hk'

theorem IsRow.bytes {w : World} {a : Option Addr} {len cap : Nat} {zs : List Int} (h : IsRow .u8 w a len cap zs) : Bytes w a len cap (zs.take len) ∧ (a = none → len = 0 ∧ cap = 0) := by
  rcases h with ⟨rfl, rfl, rfl, rfl⟩ | ⟨x, rfl, hl, hm, hz, hc, _⟩
  · exact ⟨⟨rfl, Nat.le_refl _, Nat.zero_le _, fun h => absurd h (by omega)⟩, fun _ => ⟨rfl, rfl⟩⟩
  · exact ⟨bytes_of hl hm hz hc, fun h => by cases h⟩

theorem i64_bounds {n : Int} (h : (Lit.int .i64 n).wf = true) : -9223372036854775808 ≤ n ∧ n ≤ 9223372036854775807 := bounds_i64 h

theorem info5 : (Try.prog.info? 5).map (fun i => (i.zero, i.size, i.bytes)) = some (some (.int .u8 0), 1, 1) := by kernel_rfl

/-- A row of bytes of the call's own, as bytes. -/
theorem own_bytes {w : World} {base : Nat} {v : Value} {n : Nat} {zs : List Int} (hn : zs.length = n) (h : w.ownsRow base 5 1 v n (zs.map (Value.int .u8))) :
    ∃ A c, v = .slice A n c ∧ Bytes w A n c zs ∧ (A = none → n = 0 ∧ c = 0) := by
  have h2 := h
  have h3 := h.lt
  rcases h.2 with ⟨rfl, h0⟩ | ⟨g, cap, cur, rfl, _, _, hnc, hcm, _⟩
  · exact ⟨none, 0, by rw [h0], ⟨hn, by omega, Nat.zero_le _, fun hp => absurd hp (by omega)⟩, fun _ => ⟨h0, rfl⟩⟩
  · refine ⟨_, cap, rfl, ⟨hn, hnc, hcm, fun _ => ⟨g, 0, rfl, (h3 g rfl).2, fun k hk => ?_⟩⟩, fun h => by cases h⟩
    rw [Nat.zero_add, h2.cellAt k (by omega), List.getElem?_map, List.getD_eq_getElem?_getD, List.getElem?_eq_getElem (by omega)]
    rfl

/-- append of bytes onto a row of bytes of the call's own. -/
theorem append_bytes {w : World} {ops : Array Oper} {rest : List Oper} {o : Oper} {a : Act} {Q : Exit → Act → World → Prop} (hgd : o.guard = none) (s x : Operand)
    (ho : o.op = .call { callee := .builtin .append, args := #[s, x], argTypes := #[24, 24] })
    (base : Nat) (v : Value) (m : Nat) (xs : List Int) (hs : a.eval s = v) (hown : w.ownsRow base 5 1 v m (xs.map (Value.int .u8)))
    (A : Option Addr) (n c : Nat) (zs : List Int) (hb : Bytes w A n c zs) (hA : A = none → n = 0 ∧ c = 0) (hx : a.eval x = .slice A n c)
    (hl : m + n ≤ 1000000) (hbase : base ≤ w.heap.size)
    (h : ∀ v' w', w'.ownsRow base 5 1 v' (m + n) ((xs ++ zs).map (Value.int .u8)) → Below base w w' → wpList Try.prog ops Q rest (a.put o.dst v') w') :
    wpList Try.prog ops Q (o :: rest) a w := by
  obtain ⟨i0, hi, hz0, hz1, hz2⟩ := info_parts info5
  cases A with
  | none =>
    obtain ⟨rfl, rfl⟩ := hA rfl
    have hz : zs = [] := List.eq_nil_of_length_eq_zero hb.1
    subst hz
    exact wpList_append_own_none hgd s x 24 ho base 5 i0 1 Try.underlying24 hi v m _ hs hown hx (h v w (by simpa using hown) (Below.refl _ _))
  | some ad =>
    refine wpList_append_own _ hgd s x 24 ho base 5 i0 (.int .u8 0) 1 1 Try.underlying24 hi hz0 hz1 hz2 rfl (by decide) v m _ hs hown ad n c (zs.map (Value.int .u8)) hx (by simp [hb.1]) ?_ ?_ (by unfold maxLen; omega) (by omega) hbase ?_
    · intro j u hu
      rw [List.getElem?_map] at hu
      have hj : j < n := by
        have := hb.1
        by_cases hj : j < zs.length
        · omega
        · rw [List.getElem?_eq_none (by omega)] at hu; simp at hu
      obtain ⟨b, o', he, _, hc⟩ := hb.2.2.2 (by omega)
      injection he with he
      subst he
      have hcj := hc j hj
      rw [List.getElem?_eq_getElem (by have := hb.1; omega)] at hu
      simp at hu
      rw [List.getD_eq_getElem?_getD, List.getElem?_eq_getElem (by have := hb.1; omega)] at hcj
      rw [← hu]
      by_cases h0 : j = 0
      · subst h0; simpa [Addr.add] using hcj
      · simpa [Addr.add, h0] using hcj
    · intro u hu
      simp at hu
      obtain ⟨z, _, rfl⟩ := hu
      rfl
    · intro v' w' h1 h2 _
      refine h v' w' ?_ (Below.grown (Below.refl base w) h2 hbase (fun k hk => (hown.lt k hk).1))
      rw [List.map_append]
      exact h1

end Go.Proofs.Ytjmgdnkfhfbbiaa
