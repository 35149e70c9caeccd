/- What the laws' walks are told of their arguments: devices, asks. -/
import Derived.Test.YtdfjhgibdabeeaaDevs
import Derived.OpenShut
import Derived.WalkKit
import Derived.ProofKit
import Derived.Deep.Slices
import Derived.Deep.SlicePairs
namespace Go.Proofs.Ytdfjhgibdabeeaa
open Go.RowKit Go.ChangeShapes Go.WideShapes

/-- Pairs that came in: each is a number of 64 bits. -/
def IsPairs (w : World) (A : Option Addr) (n : Nat) (L : List (Int × Int)) : Prop := Pairs w A n L ∧ ∀ j, j < n → (Lit.int .i64 (L.getD j (0, 0)).1).wf = true ∧ (Lit.int .i64 (L.getD j (0, 0)).2).wf = true
theorem isPairs_nil (w : World) : IsPairs w none 0 [] := ⟨pairs_nil w, fun j h => absurd h (by omega)⟩

theorem cells26 : Try.prog.cellsOf 26 = 2 := by kernel_rfl
theorem cells44 : Try.prog.cellsOf 44 = 2 := by kernel_rfl
theorem cells30 : Try.prog.cellsOf 30 = 4 := by kernel_rfl
theorem cells3' : Try.prog.cellsOf 3 = 1 := by kernel_rfl
theorem cells24' : Try.prog.cellsOf 24 = 1 := by kernel_rfl
theorem cells27' : Try.prog.cellsOf 27 = 1 := by kernel_rfl
theorem cells28' : Try.prog.cellsOf 28 = 1 := by kernel_rfl

/-- Cells that hold numbers, from an address on. -/
theorem nums_of {k : IntKind} {w : World} {x : Addr} {len cap : Nat} {zs : List Int} (hl : len ≤ cap) (hm : cap ≤ maxLen) (hz : zs.length = cap) (hc : ∀ i, i < zs.length → w.cell? (x.add i) = some (.int k (zs.getD i 0))) : Nums k w (some x) len cap (zs.take len) := by
  refine ⟨by simp; omega, hl, hm, (fun h => by cases h), fun hp => ?_⟩
  obtain ⟨b, o, s⟩ := x
  have h0 := hc 0 (by omega)
  have hs : s = none := by simpa [Addr.add] using World.cell?_spot h0
  subst hs
  refine ⟨b, o, rfl, World.block_lt_of_cell? w ⟨b, o, none⟩ (by simpa [Addr.add] using h0), fun k hk => ?_⟩
  have hk' := hc k (by omega)
  have he : (zs.take len).getD k 0 = zs.getD k 0 := by simp [hk]
  rw [he]
  by_cases h0 : k = 0
  · subst h0; simpa [Addr.add] using hk'
  · simpa [Addr.add, h0] using hk'

/-- A slice of integers that came in. -/
def IsRow (k : IntKind) (w : World) (a : Option Addr) (len cap : Nat) (zs : List Int) : Prop :=
  (a = none ∧ len = 0 ∧ cap = 0 ∧ zs = []) ∨
  ∃ x, a = some x ∧ len ≤ cap ∧ cap ≤ maxLen ∧ zs.length = cap ∧ (∀ i, i < zs.length → w.cell? (x.add i) = some (.int k (zs.getD i 0))) ∧ ∀ n ∈ zs, (Lit.int k n).wf = true
theorem IsRow.nums {k : IntKind} {w : World} {a : Option Addr} {len cap : Nat} {zs : List Int} (h : IsRow k w a len cap zs) : Nums k w a len cap (zs.take len) := by
  rcases h with ⟨rfl, rfl, rfl, rfl⟩ | ⟨x, rfl, hl, hm, hz, hc, _⟩
  · exact nums_nil k w
  · exact nums_of hl hm hz hc

section
variable {H : Type} {enc : TypeId × Value → H} {w : World} {base : Nat}

theorem pairs27_read {fuel : Nat} {cs : List Value} {x : DataW H × List MemPlace} (h : DataW.trod enc Try.prog w base (fun _ => true) true fuel 27 cs = some x) :
    cs = [.slice none 0 0] ∨ ∃ a len cap, cs = [.slice (some a) len cap] ∧ ∃ L, IsPairs w (some a) len L := by
  rcases Go.Deep.open_slice Try.underlying27 h with ⟨h0, _⟩ | ⟨a, len, cap, m, n, D, Pl, rfl, _, hl, hm, hmm, _, hx⟩
  · exact .inl h0
  refine .inr ⟨a, len, cap, rfl, ?_⟩
  have each : ∀ i, i < len → ∃ q : Int × Int, w.cell? (a.add (i * 2)) = some (.int .i64 q.1) ∧ w.cell? (a.add (i * 2 + 1)) = some (.int .i64 q.2) ∧ (Lit.int .i64 q.1).wf = true ∧ (Lit.int .i64 q.2).wf = true := by
    intro i hi
    obtain ⟨cs', h1, h2⟩ := hx i (by simp at hmm; omega)
    rw [cells26] at h1
    obtain ⟨_, hlen, hcell⟩ := World.cells?_some h1
    obtain ⟨xs, k, hk, hxy, _, hxl, hf⟩ := DataW.trod_struct Try.underlying26 h2
    match xs, hxl, cs', hlen with
    | [y0, y1], _, [v0, v1], _ =>
      have g0 := hf 0 _ rfl
      have g1 := hf 1 _ rfl
      simp [cells3'] at g0 g1
      have e0 := hcell 0 (by omega)
      have e1 := hcell 1 (by omega)
      rw [Go.Deep.add_add] at e0 e1
      obtain ⟨z0, hz0, _, wz0⟩ := DataW.trod_int Try.underlying3 g0
      obtain ⟨z1, hz1, _, wz1⟩ := DataW.trod_int Try.underlying3 g1
      simp at hz0 hz1
      subst hz0 hz1
      exact ⟨(z0, z1), by simpa using e0, by simpa using e1, wz0, wz1⟩
  obtain ⟨q, hq⟩ := Go.Deep.choose_lt each
  have hg : ∀ k, k < len → ((List.range len).map q).getD k (0, 0) = q k := by
    intro k hk
    rw [List.getD_eq_getElem?_getD, List.getElem?_map, List.getElem?_range hk]
    rfl
  refine ⟨(List.range len).map q, ⟨by simp, by omega, fun hp => ?_⟩, fun j hj => by rw [hg j hj]; exact ⟨(hq j hj).2.2.1, (hq j hj).2.2.2⟩⟩
  obtain ⟨b, o, s⟩ := a
  have h0 := (hq 0 hp).1
  have hs : s = none := by simpa [Addr.add] using World.cell?_spot h0
  subst hs
  refine ⟨b, o, rfl, World.block_lt_of_cell? w ⟨b, o, none⟩ (by simpa [Addr.add] using h0), fun k hk => ?_⟩
  rw [hg k hk]
  obtain ⟨p0, p1, _⟩ := hq k hk
  rw [add_plain] at p0 p1
  exact ⟨p0, by rw [Nat.add_assoc]; exact p1⟩

theorem pairs42_read {fuel : Nat} {cs : List Value} {x : DataW H × List MemPlace} (h : DataW.trod enc Try.prog w base (fun _ => true) true fuel 42 cs = some x) :
    cs = [.slice none 0 0] ∨ ∃ a len cap, cs = [.slice (some a) len cap] ∧ ∃ L, IsPairs w (some a) len L := by
  rcases Go.Deep.open_slice Try.underlying42 h with ⟨h0, _⟩ | ⟨a, len, cap, m, n, D, Pl, rfl, _, hl, hm, hmm, _, hx⟩
  · exact .inl h0
  refine .inr ⟨a, len, cap, rfl, ?_⟩
  have each : ∀ i, i < len → ∃ q : Int × Int, w.cell? (a.add (i * 2)) = some (.int .i64 q.1) ∧ w.cell? (a.add (i * 2 + 1)) = some (.int .i64 q.2) ∧ (Lit.int .i64 q.1).wf = true ∧ (Lit.int .i64 q.2).wf = true := by
    intro i hi
    obtain ⟨cs', h1, h2⟩ := hx i (by simp at hmm; omega)
    rw [cells44] at h1
    obtain ⟨_, hlen, hcell⟩ := World.cells?_some h1
    obtain ⟨xs, k, hk, hxy, _, hxl, hf⟩ := DataW.trod_struct Try.underlying44 h2
    match xs, hxl, cs', hlen with
    | [y0, y1], _, [v0, v1], _ =>
      have g0 := hf 0 _ rfl
      have g1 := hf 1 _ rfl
      simp [cells3'] at g0 g1
      have e0 := hcell 0 (by omega)
      have e1 := hcell 1 (by omega)
      rw [Go.Deep.add_add] at e0 e1
      obtain ⟨z0, hz0, _, wz0⟩ := DataW.trod_int Try.underlying3 g0
      obtain ⟨z1, hz1, _, wz1⟩ := DataW.trod_int Try.underlying3 g1
      simp at hz0 hz1
      subst hz0 hz1
      exact ⟨(z0, z1), by simpa using e0, by simpa using e1, wz0, wz1⟩
  obtain ⟨q, hq⟩ := Go.Deep.choose_lt each
  have hg : ∀ k, k < len → ((List.range len).map q).getD k (0, 0) = q k := by
    intro k hk
    rw [List.getD_eq_getElem?_getD, List.getElem?_map, List.getElem?_range hk]
    rfl
  refine ⟨(List.range len).map q, ⟨by simp, by omega, fun hp => ?_⟩, fun j hj => by rw [hg j hj]; exact ⟨(hq j hj).2.2.1, (hq j hj).2.2.2⟩⟩
  obtain ⟨b, o, s⟩ := a
  have h0 := (hq 0 hp).1
  have hs : s = none := by simpa [Addr.add] using World.cell?_spot h0
  subst hs
  refine ⟨b, o, rfl, World.block_lt_of_cell? w ⟨b, o, none⟩ (by simpa [Addr.add] using h0), fun k hk => ?_⟩
  rw [hg k hk]
  obtain ⟨p0, p1, _⟩ := hq k hk
  rw [add_plain] at p0 p1
  exact ⟨p0, by rw [Nat.add_assoc]; exact p1⟩

theorem bytes_open {fuel : Nat} {v : Value} {x : DataW H × List MemPlace} (h : DataW.trod enc Try.prog w base (fun _ => true) true fuel 24 [v] = some x) : ∃ A n c zs, v = .slice A n c ∧ Nums .u8 w A n c zs := by
  rcases open_ints Try.underlying24 Try.underlying5 (by kernel_rfl) h with ⟨hcs, _⟩ | ⟨a, l, c, zs, hcs, _, hl, hm, hz, _, hcell, _⟩
  · injection hcs with hcs
    exact ⟨none, 0, 0, [], hcs, nums_nil _ w⟩
  · injection hcs with hcs
    exact ⟨some a, l, c, zs.take l, hcs, nums_of hl hm (by simpa using hz) hcell⟩
theorem ints_open {fuel : Nat} {v : Value} {x : DataW H × List MemPlace} (h : DataW.trod enc Try.prog w base (fun _ => true) true fuel 28 [v] = some x) : ∃ A n c zs, v = .slice A n c ∧ Nums .i64 w A n c zs := by
  rcases open_ints Try.underlying28 Try.underlying3 (by kernel_rfl) h with ⟨hcs, _⟩ | ⟨a, l, c, zs, hcs, _, hl, hm, hz, _, hcell, _⟩
  · injection hcs with hcs
    exact ⟨none, 0, 0, [], hcs, nums_nil _ w⟩
  · injection hcs with hcs
    exact ⟨some a, l, c, zs.take l, hcs, nums_of hl hm (by simpa using hz) hcell⟩
theorem softs_open {fuel : Nat} {v : Value} {x : DataW H × List MemPlace} (h : DataW.trod enc Try.prog w base (fun _ => true) true fuel 27 [v] = some x) : ∃ A n c zs, v = .slice A n c ∧ Pairs w A n zs := by
  rcases pairs27_read h with hcs | ⟨a, l, c, hcs, L, hL⟩
  · injection hcs with hcs
    exact ⟨none, 0, 0, [], hcs, pairs_nil w⟩
  · injection hcs with hcs
    exact ⟨some a, l, c, L, hcs, hL.1⟩

/-- A device that came in. -/
theorem open_dev {r : Reach} {bb : Nat} {v : Value} {d : DataW H} {p : List MemPlace} (hv : Value.okWide Try.prog w r bb 30 v) (h : DataW.Trod enc Try.prog w base (fun _ => true) true 30 v d p) :
    ∃ (x : Hd) (D : Dev), v = x.val ∧ DevIn w x D := by
  obtain ⟨cs, rfl, hsz⟩ := okWide_struct Try.underlying30 hv
  obtain ⟨fuel, hf⟩ := h
  obtain ⟨xs, k, hk, hxy, _, hxl, hf⟩ := DataW.trod_struct Try.underlying30 hf
  rw [cells30] at hsz
  obtain ⟨l⟩ := cs
  match l, hsz, xs, hxl with
  | [v0, v1, v2, v3], _, [y0, y1, y2, y3], _ =>
    have g0 := hf 0 _ rfl
    have g1 := hf 1 _ rfl
    have g2 := hf 2 _ rfl
    have g3 := hf 3 _ rfl
    simp [Value.cells, cells24', cells27', cells28'] at g0 g1 g2 g3
    obtain ⟨A0, n0, c0, z0, rfl, p0⟩ := bytes_open g0
    obtain ⟨A1, n1, c1, z1, rfl, p1⟩ := ints_open g1
    obtain ⟨A2, n2, c2, z2, rfl, p2⟩ := softs_open g2
    obtain ⟨A3, n3, c3, z3, rfl, p3⟩ := ints_open g3
    exact ⟨⟨A0, n0, c0, A1, n1, c1, A2, n2, c2, A3, n3, c3⟩, ⟨z0, z1, z2, z3⟩, rfl, p0, p1, p2, p3⟩
end

end Go.Proofs.Ytdfjhgibdabeeaa
