/- What the laws' walks are told of their arguments: contents, bytes. -/
import Derived.Test.YtigfimlpjmmpoaaWalksA
import Derived.Lib.SmallJoins
import Derived.ProofKit
import Derived.OpenShut
import Derived.WalkKit
import Derived.ProofKit
import Derived.Deep.Slices
import Derived.Deep.SlicePairs
namespace Go.Proofs.Ytigfimlpjmmpoaa
open Go.RowKit Go.ChangeShapes Go.WideShapes

theorem cells32 : Try.prog.cellsOf 32 = 9 := by kernel_rfl
theorem cells30 : Try.prog.cellsOf 30 = 8 := by kernel_rfl
theorem cells5' : Try.prog.cellsOf 5 = 1 := by kernel_rfl
theorem cells3' : Try.prog.cellsOf 3 = 1 := by kernel_rfl
theorem cells22' : Try.prog.cellsOf 22 = 1 := by kernel_rfl
theorem cells24 : Try.prog.cellsOf 24 = 2 := by kernel_rfl

/-- Bytes that came in. -/
def IsBytes (w : World) (A : Option Addr) (n c : Nat) (zs : List Int) : Prop := Nums .u8 w A n c zs ∧ ∀ x ∈ zs, 0 ≤ x ∧ x ≤ 255

section
variable {H : Type} {enc : TypeId × Value → H} {w : World} {base : Nat}

theorem ext_read {fuel : Nat} {cs : List Value} {x : DataW H × List MemPlace} (hl : cs.length = 9) (h : DataW.trod enc Try.prog w base (fun _ => true) true fuel 32 cs = some x) : ∃ e : Ex, e.ok ∧ cs = ecl e := by
  obtain ⟨xs, k, hk, hxy, _, hxl, hf⟩ := DataW.trod_struct Try.underlying32 h
  match xs, hxl, cs, hl with
  | [y0, y1], _, [v0, v1, v2, v3, v4, v5, v6, v7, v8], _ =>
    have g0 := hf 0 _ rfl
    have g1 := hf 1 _ rfl
    simp [cells3', cells30] at g0 g1
    obtain ⟨z0, hz0, _, wz0⟩ := DataW.trod_int Try.underlying3 g0
    simp at hz0
    subst hz0
    obtain ⟨ys, k2, hk2, _, _, hyl, ha⟩ := DataW.trod_array Try.underlying30 g1
    rw [cells5'] at ha
    have each : ∀ i, i < 8 → ∃ b : Int, (0 ≤ b ∧ b ≤ 255) ∧ ([v1, v2, v3, v4, v5, v6, v7, v8] : List Value)[i]? = some (.int .u8 b) := by
      intro i hi
      have hx := ha i hi
      rw [List.getElem?_eq_getElem (by omega)] at hx
      obtain ⟨b, hb, _, wb⟩ := DataW.trod_int Try.underlying5 hx
      refine ⟨b, ?_, ?_⟩
      · have := bounds_u8 wb; omega
      · have h1 := congrArg (fun l => l[0]?) hb
        simp only [List.getElem?_cons_zero] at h1
        rw [List.getElem?_take_of_lt (by omega), List.getElem?_drop] at h1
        simpa using h1
    obtain ⟨b0, r0, e0⟩ := each 0 (by omega)
    obtain ⟨b1, r1, e1⟩ := each 1 (by omega)
    obtain ⟨b2, r2, e2⟩ := each 2 (by omega)
    obtain ⟨b3, r3, e3⟩ := each 3 (by omega)
    obtain ⟨b4, r4, e4⟩ := each 4 (by omega)
    obtain ⟨b5, r5, e5⟩ := each 5 (by omega)
    obtain ⟨b6, r6, e6⟩ := each 6 (by omega)
    obtain ⟨b7, r7, e7⟩ := each 7 (by omega)
    simp at e0 e1 e2 e3 e4 e5 e6 e7
    subst e0 e1 e2 e3 e4 e5 e6 e7
    refine ⟨⟨z0, [b0, b1, b2, b3, b4, b5, b6, b7]⟩, ⟨rfl, fun x hx => ?_⟩, rfl⟩
    simp at hx
    rcases hx with rfl | rfl | rfl | rfl | rfl | rfl | rfl | rfl <;> assumption

theorem exts_open {fuel : Nat} {v : Value} {x : DataW H × List MemPlace} (h : DataW.trod enc Try.prog w base (fun _ => true) true fuel 22 [v] = some x) : ∃ A n c L, v = .slice A n c ∧ Exts w A n c L := by
  rcases Go.Deep.open_slice Try.underlying22 h with ⟨hcs, _⟩ | ⟨a, len, cap, m, n, D, Pl, hcs, _, hl, hm, hmm, _, hx⟩
  · injection hcs with hcs
    exact ⟨none, 0, 0, [], hcs, exts_nil w⟩
  injection hcs with hcs
  have each : ∀ i, i < len → ∃ e : Ex, e.ok ∧ ∀ q u, (ecl e)[q]? = some u → w.cell? (a.add (i * 9 + q)) = some u := by
    intro i hi
    obtain ⟨cs', h1, h2⟩ := hx i (by simp at hmm; omega)
    rw [cells32] at h1
    obtain ⟨_, hlen, hcell⟩ := World.cells?_some h1
    obtain ⟨e, he, hee⟩ := ext_read hlen h2
    refine ⟨e, he, fun q u hu => ?_⟩
    have hq : q < 9 := by have := (List.getElem?_eq_some_iff.1 hu).1; rw [ecl_len he] at this; exact this
    have := hcell q (by omega)
    rw [Go.Deep.add_add, hee, hu] at this
    exact this
  obtain ⟨f, hf⟩ := Go.Deep.choose_lt each
  have hg : ∀ k, k < len → ((List.range len).map f).getD k default = f k := by
    intro k hk
    rw [List.getD_eq_getElem?_getD, List.getElem?_map, List.getElem?_range hk]
    rfl
  refine ⟨some a, len, cap, (List.range len).map f, hcs, by simp, fun e he => ?_, by omega, by omega, (fun h => by cases h), fun hp => ?_⟩
  · simp at he
    obtain ⟨k, hk, rfl⟩ := he
    exact (hf k hk).1
  · obtain ⟨b, o, s⟩ := a
    have h0 := (hf 0 hp).2 0 _ (ecl_no _)
    have hs : s = none := by simpa [Addr.add] using World.cell?_spot h0
    subst hs
    refine ⟨b, o, rfl, World.block_lt_of_cell? w ⟨b, o, none⟩ (by simpa [Addr.add] using h0), fun k hk q u hu => ?_⟩
    rw [hg k hk] at hu
    have := (hf k hk).2 q u hu
    rw [Addr.add_mid] at this
    rw [Nat.add_assoc]
    exact this

/-- A content that came in. -/
theorem open_ct {r : Reach} {bb : Nat} {v : Value} {d : DataW H} {p : List MemPlace} (hv : Value.okWide Try.prog w r bb 24 v) (h : DataW.Trod enc Try.prog w base (fun _ => true) true 24 v d p) :
    ∃ (s : Int) (A : Option Addr) (n c : Nat) (L : List Ex), v = ct s A n c ∧ (Exts w A n c L ∧ (Lit.int .i64 s).wf = true) := by
  obtain ⟨cs, rfl, hsz⟩ := okWide_struct Try.underlying24 hv
  obtain ⟨fuel, hf⟩ := h
  obtain ⟨xs, k, hk, hxy, _, hxl, hf⟩ := DataW.trod_struct Try.underlying24 hf
  rw [cells24] at hsz
  obtain ⟨l⟩ := cs
  match l, hsz, xs, hxl with
  | [v0, v1], _, [y0, y1], _ =>
    have g0 := hf 0 _ rfl
    have g1 := hf 1 _ rfl
    simp [Value.cells, cells3', cells22'] at g0 g1
    obtain ⟨z0, hz0, _, wz0⟩ := DataW.trod_int Try.underlying3 g0
    simp at hz0
    subst hz0
    obtain ⟨A, n, c, L, rfl, hL⟩ := exts_open g1
    exact ⟨z0, A, n, c, L, rfl, hL, wz0⟩
end
end Go.Proofs.Ytigfimlpjmmpoaa
