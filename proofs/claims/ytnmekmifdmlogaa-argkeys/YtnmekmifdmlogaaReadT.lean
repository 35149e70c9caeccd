/- What a law's walk is told of arguments that are slices of texts and of options. -/
import Derived.Test.YtnmekmifdmlogaaTexts
import Derived.Deep.Strs
import Derived.Deep.Slices
import Derived.Deep.SlicePairs
namespace Go.Proofs.Ytnmekmifdmlogaa
open Go.RowKit Go.ChangeShapes Go.WideShapes
open Plain

/-- A slice of texts that came in. -/
def IsStrs (w : World) (A : Option Addr) (n c : Nat) (T : List ByteArray) : Prop := Strs w A n c T ∧ ∀ s ∈ T, s.size ≤ maxLen
theorem isStrs_nil (w : World) : IsStrs w none 0 0 [] := ⟨strs_nil w, fun s h => by cases h⟩
theorem isStrs_read {H : Type} {enc : TypeId × Value → H} {w : World} {base : Nat} {fuel : Nat} {cs : List Value} {x : DataW H × List MemPlace} (h : DataW.trod enc Try.prog w base (fun _ => true) true fuel 23 cs = some x) :
    cs = [.slice none 0 0] ∨ ∃ a len cap, cs = [.slice (some a) len cap] ∧ ∃ L, IsStrs w (some a) len cap L := by
  rcases Go.Deep.open_strs Try.underlying23 Try.underlying9 (by kernel_rfl) h with ⟨h0, _⟩ | ⟨a, len, cap, m, Sx, rfl, _, hl, hm, hmm, _, hx⟩
  · exact .inl h0
  simp at hmm
  subst hmm
  refine .inr ⟨a, len, m, rfl, (List.range len).map Sx, ?_, ?_⟩
  · have hg : ∀ k, k < len → ((List.range len).map Sx).getD k default = Sx k := by
      intro k hk
      rw [List.getD_eq_getElem?_getD, List.getElem?_map, List.getElem?_range hk]
      rfl
    refine ⟨by simp, hl, hm, fun h => (by cases h), fun hp => ?_⟩
    obtain ⟨b, o, s⟩ := a
    have h0 := (hx 0 (by omega)).1
    have hs : s = none := by simpa [Addr.add] using World.cell?_spot h0
    subst hs
    refine ⟨b, o, rfl, World.block_lt_of_cell? w ⟨b, o, none⟩ (by simpa [Addr.add] using h0), fun k hk => ?_⟩
    rw [hg k hk]
    have hk' := (hx k (by omega)).1
    rw [add_at] at hk'
    exact hk'
  · intro s hs
    obtain ⟨k, hk, rfl⟩ := List.mem_map.1 hs
    exact (hx k (by have := List.mem_range.1 hk; omega)).2

theorem cells31 : Try.prog.cellsOf 31 = 2 := by kernel_rfl
theorem cells9 : Try.prog.cellsOf 9 = 1 := by kernel_rfl
/-- A slice of options that came in. -/
def IsOpts (w : World) (A : Option Addr) (n : Nat) (L : List Pr) : Prop := n ≤ maxLen ∧ Opts w A n L
theorem isOpts_nil (w : World) : IsOpts w none 0 [] := ⟨Nat.zero_le _, ⟨rfl, fun h => absurd h (by omega)⟩⟩
theorem isOpts_read {H : Type} {enc : TypeId × Value → H} {w : World} {base : Nat} {fuel : Nat} {cs : List Value} {x : DataW H × List MemPlace} (h : DataW.trod enc Try.prog w base (fun _ => true) true fuel 22 cs = some x) :
    cs = [.slice none 0 0] ∨ ∃ a len cap, cs = [.slice (some a) len cap] ∧ ∃ L, IsOpts w (some a) len L := by
  rcases Go.Deep.open_slice Try.underlying22 h with ⟨h0, _⟩ | ⟨a, len, cap, m, n, D, Pl, rfl, _, hl, hm, hmm, _, hx⟩
  · exact .inl h0
  refine .inr ⟨a, len, cap, rfl, ?_⟩
  have each : ∀ i, i < len → ∃ q : Pr, w.cell? (a.add (i * 2)) = some (.string q.1) ∧ w.cell? (a.add (i * 2 + 1)) = some (.string q.2) := by
    intro i hi
    obtain ⟨cs', h1, h2⟩ := hx i (by simp at hmm; omega)
    rw [cells31] at h1
    obtain ⟨_, hlen, hcell⟩ := World.cells?_some h1
    obtain ⟨xs, k, hk, hxy, _, hxl, hf⟩ := DataW.trod_struct Try.underlying31 h2
    match xs, hxl, cs', hlen with
    | [y0, y1], _, [v0, v1], _ =>
      have g0 := hf 0 _ rfl
      have g1 := hf 1 _ rfl
      simp [cells9] at g0 g1
      have e0 := hcell 0 (by omega)
      have e1 := hcell 1 (by omega)
      rw [Go.Deep.add_add] at e0 e1
      obtain ⟨p, hp, _, _⟩ := DataW.trod_string Try.underlying9 g0
      obtain ⟨q, hq, _, _⟩ := DataW.trod_string Try.underlying9 g1
      simp at hp hq
      subst hp hq
      exact ⟨(p, q), by simpa using e0, by simpa using e1⟩
  obtain ⟨q, hq⟩ := Go.Deep.choose_lt each
  have hg : ∀ k, k < len → ((List.range len).map q).getD k default = q k := by
    intro k hk
    rw [List.getD_eq_getElem?_getD, List.getElem?_map, List.getElem?_range hk]
    rfl
  refine ⟨(List.range len).map q, by omega, ⟨by simp, fun hp => ?_⟩⟩
  obtain ⟨b, o, s⟩ := a
  have h0 := (hq 0 hp).1
  have hs : s = none := by simpa [Addr.add] using World.cell?_spot h0
  subst hs
  refine ⟨b, o, rfl, World.block_lt_of_cell? w ⟨b, o, none⟩ (by simpa [Addr.add] using h0), fun k hk => ?_⟩
  rw [hg k hk]
  obtain ⟨p0, p1⟩ := hq k hk
  rw [add_plain] at p0 p1
  exact ⟨p0, by rw [Nat.add_assoc]; exact p1⟩

end Go.Proofs.Ytnmekmifdmlogaa
