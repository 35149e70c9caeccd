/- What a law's walk is told of an argument that is a slice of steps. -/
import Derived.Test.YtbmcaldeiddgeaaWalksE
import Derived.Deep.Slices
import Derived.Deep.SlicePairs
namespace Go.Proofs.Ytbmcaldeiddgeaa
open Go.RowKit Go.ChangeShapes Go.WideShapes

/-- A slice of steps that came in. -/
def IsSteps (w : World) (A : Option Addr) (n : Nat) (L : List St) : Prop := n ≤ maxLen ∧ Steps w A n L
theorem isSteps_nil (w : World) : IsSteps w none 0 [] :=
  ⟨Nat.zero_le _, ⟨rfl, fun h => absurd h (by omega), fun k h => absurd h (by omega), fun k h => absurd h (by omega), fun k h => absurd h (by omega)⟩⟩

variable {H : Type} {enc : TypeId × Value → H} {w : World} {base : Nat}

theorem el_open {fuel : Nat} {v : Value} {y : DataW H × List MemPlace} (h : DataW.trod enc Try.prog w base (fun _ => true) true fuel 25 [v] = some y) : ∃ x : El, v = .slice x.a x.n x.c ∧ ElOk w x := by
  rcases open_ints Try.underlying25 Try.underlying5 (by kernel_rfl) h with ⟨hcs, _⟩ | ⟨x, l, c, zs, hcs, _, hl, hm, hz, _, hcell, _⟩
  · injection hcs with hcs
    exact ⟨⟨none, 0, 0, []⟩, hcs, (Buf.nil w).bytes.1, fun _ => ⟨rfl, rfl⟩⟩
  · injection hcs with hcs
    exact ⟨⟨some x, l, c, zs.take l⟩, hcs, bytes_of hl hm (by simpa using hz) hcell, fun h => by cases h⟩

theorem cells36 : Try.prog.cellsOf 36 = 3 := by kernel_rfl
theorem cells5 : Try.prog.cellsOf 5 = 1 := by kernel_rfl
theorem cells25 : Try.prog.cellsOf 25 = 1 := by kernel_rfl

theorem isSteps_read {fuel : Nat} {cs : List Value} {x : DataW H × List MemPlace} (h : DataW.trod enc Try.prog w base (fun _ => true) true fuel 31 cs = some x) :
    cs = [.slice none 0 0] ∨ ∃ a len cap, cs = [.slice (some a) len cap] ∧ ∃ L, IsSteps w (some a) len L := by
  rcases Go.Deep.open_slice Try.underlying31 h with ⟨h0, _⟩ | ⟨a, len, cap, m, n, D, Pl, rfl, _, hl, hm, hmm, _, hx⟩
  · exact .inl h0
  refine .inr ⟨a, len, cap, rfl, ?_⟩
  have each : ∀ i, i < len → ∃ q : St, w.cell? (a.add (i * 3)) = some (.int .u8 (q.kind : Nat)) ∧ w.cell? (a.add (i * 3 + 1)) = some (.slice q.a.a q.a.n q.a.c) ∧ w.cell? (a.add (i * 3 + 2)) = some (.slice q.b.a q.b.n q.b.c) ∧ q.kind < 256 ∧ ElOk w q.a ∧ ElOk w q.b := by
    intro i hi
    obtain ⟨cs', h1, h2⟩ := hx i (by simp at hmm; omega)
    rw [cells36] at h1
    obtain ⟨_, hlen, hcell⟩ := World.cells?_some h1
    obtain ⟨xs, k, hk, hxy, _, hxl, hf⟩ := DataW.trod_struct Try.underlying36 h2
    match xs, hxl, cs', hlen with
    | [y0, y1, y2], _, [v0, v1, v2], _ =>
      have g0 := hf 0 _ rfl
      have g1 := hf 1 _ rfl
      have g2 := hf 2 _ rfl
      simp [cells5, cells25] at g0 g1 g2
      have e0 := hcell 0 (by omega)
      have e1 := hcell 1 (by omega)
      have e2 := hcell 2 (by omega)
      rw [Go.Deep.add_add] at e0 e1 e2
      obtain ⟨z, hz, _, wz⟩ := DataW.trod_int Try.underlying5 g0
      obtain ⟨p, hp, okp⟩ := el_open g1
      obtain ⟨q, hq, okq⟩ := el_open g2
      simp at hz
      subst hz hp hq
      obtain ⟨z0, z1⟩ := bounds_u8 wz
      refine ⟨⟨z.toNat, p, q⟩, ?_, by simpa using e1, by simpa using e2, by show z.toNat < 256; omega, okp, okq⟩
      show w.cell? (a.add (i * 3)) = some (.int .u8 ((z.toNat : Nat) : Int))
      rw [Int.toNat_of_nonneg z0]
      simpa using e0
  obtain ⟨q, hq⟩ := Go.Deep.choose_lt each
  have hg : ∀ k, k < len → ((List.range len).map q).getD k default = q k := by
    intro k hk
    rw [List.getD_eq_getElem?_getD, List.getElem?_map, List.getElem?_range hk]
    rfl
  refine ⟨(List.range len).map q, by omega, ⟨by simp, fun hp => ?_, fun k hk => ?_, fun k hk => ?_, fun k hk => ?_⟩⟩
  · obtain ⟨b, o, s⟩ := a
    have h0 := (hq 0 hp).1
    have hs : s = none := by simpa [Addr.add] using World.cell?_spot h0
    subst hs
    refine ⟨b, o, rfl, World.block_lt_of_cell? w ⟨b, o, none⟩ (by simpa [Addr.add] using h0), fun k hk => ?_⟩
    rw [hg k hk]
    obtain ⟨p0, p1, p2, _⟩ := hq k hk
    rw [add_plain] at p0 p1 p2
    exact ⟨p0, by rw [Nat.add_assoc]; exact p1, by rw [Nat.add_assoc]; exact p2⟩
  · rw [hg k hk]; exact (hq k hk).2.2.2.1
  · rw [hg k hk]; exact (hq k hk).2.2.2.2.1
  · rw [hg k hk]; exact (hq k hk).2.2.2.2.2

end Go.Proofs.Ytbmcaldeiddgeaa
