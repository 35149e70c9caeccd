/- What the laws share: All of one list; which conversions may be; what All is of some. -/
import Derived.Test.YtghihmmapignmaaLawR
import Derived.WalkKit
import Derived.Lib.SmallJoins
namespace Go.Proofs.Ytghihmmapignmaa
open Go.RowKit Go.ChangeShapes Go.WideShapes

/-- Bytes as the laws' walks hold them. -/
theorem Buf.el {w : World} {A : Option Addr} {n c : Nat} {zs : List Int} (h : Buf w A n c zs) (ha : Are zs) : ElOk w ⟨A, n, c, zs⟩ := ⟨h.bytes.1, h.bytes.2, ha⟩
theorem IsRow.el {w : World} {a : Option Addr} {len cap : Nat} {zs : List Int} (h : IsRow .u8 w a len cap zs) : ElOk w ⟨a, len, cap, zs.take len⟩ := ⟨h.bytes.1, h.bytes.2, h.are⟩
theorem ElOk.text {w : World} {A : Option Addr} {n c : Nat} {zs : List Int} (h : ElOk w ⟨A, n, c, zs⟩) : (convert 24 9 (.slice A n c)).run Try.prog w = .ok (.string (strOfNums zs)) w := text_of h.bytes h.nil

theorem all_one (x y : Cf) (A : Option Addr) (n c : Nat) (zs os : List Int) (W : World) (hy : x.eff = y) (hcb : y.cb ≤ 500) (he : ElOk W ⟨A, n, c, zs⟩) (hl : zs.length ≤ 1500) (ho : y.all zs = os) :
    Calls Try.prog 10 #[x.val, .slice (some ⟨W.heap.size, 0, none⟩) 1 1] (W.alloc (.cells #[.slice A n c] 24)) (BytesPost os W) := by
  have k : Below W.heap.size W (W.alloc (.cells #[.slice A n c] 24)) := (Below.refl _ _).alloc (Nat.le_refl _) _
  refine (allc_any x y _ 1 1 [⟨A, n, c, zs⟩] zs os _ hy hcb (lists_one W ⟨A, n, c, zs⟩ 24 _ rfl he) (by omega) (by simp [cat]) hl ho).mono ?_
  rintro e w1 ⟨A1, m1, c1, rfl, q1, q2, q3⟩
  exact ⟨A1, m1, c1, rfl, q1, fun g o s h => Nat.le_trans k.size (q2 g o s h), k.trans (q3.mono k.size)⟩

theorem all_blocks {x : Cf} (hb : x.blocks = true) (z : List Int) : x.all z = mapL x.t2 (pAll x.K (mapL x.t1 (sn x.sw z))) := by
  unfold Cf.all Cf.rOut Cf.rRest Cf.rEnd pAll; rw [hb]; rfl
theorem all_unblocks {x : Cf} (hb : x.blocks = false) (hu : x.unblocks = true) (z : List Int) : x.all z = mapL x.t2 (uAll x.K (mapL x.t1 (sn x.sw z))) := by
  unfold Cf.all Cf.rOut Cf.rRest Cf.rEnd uAll; rw [hb, hu]; rfl
theorem all_plain {x : Cf} (hb : x.blocks = false) (hu : x.unblocks = false) (z : List Int) : x.all z = mapL x.t2 (mapL x.t1 (sn x.sw z)) := by
  unfold Cf.all Cf.rOut Cf.rRest Cf.rEnd; rw [hb, hu]; simp
theorem K_of (n : Nat) (h1 : 1 ≤ n) (h2 : n ≤ 4096) : kOf (n : Int) = n := by unfold kOf; rw [if_neg (by omega), if_neg (by omega)]; rfl
theorem are_pAll (K : Nat) {z : List Int} (h : Are z) : Are (pAll K z) := by
  unfold pAll pEnd
  refine (are_pOut K z [] Are.nil h).append ?_
  split
  · exact Are.nil
  · exact are_rcd (are_pLine z [] Are.nil h)
theorem are_uAll (K : Nat) {z : List Int} (h : Are z) : Are (uAll K z) := by
  unfold uAll uEnd
  refine (are_uOut K z [] Are.nil h).append ?_
  split
  · exact Are.nil
  · exact are_lin (are_uRest K z [] Are.nil h)
theorem are_all (x : Cf) {z : List Int} (h : Are z) : Are (x.all z) := by
  have h1 := mapL_are (good_t1 x) (are_sn x.sw h)
  exact mapL_are (good_t2 x) ((are_rOut x Are.nil h1).append (are_rEnd x (are_rRest x Are.nil h1)))

/-- Conversions that came in. -/
theorem cells3' : Try.prog.cellsOf 3 = 1 := by kernel_rfl
theorem cells4' : Try.prog.cellsOf 4 = 1 := by kernel_rfl
theorem cells23 : Try.prog.cellsOf 23 = 9 := by kernel_rfl
theorem open_convs {H : Type} {enc : TypeId × Value → H} {w : World} {base : Nat} {spare : Nat → Bool} {held : Bool} {r : Reach} {bb : Nat} {v : Value} {d : DataW H} {p : List MemPlace} (hv : Value.okWide Try.prog w r bb 23 v) (h : DataW.Trod enc Try.prog w base spare held 23 v d p) :
    ∃ x : Cf, (Lit.int .i64 x.cb).wf = true ∧ v = x.val := by
  obtain ⟨cs, rfl, hsz⟩ := okWide_struct Try.underlying23 hv
  obtain ⟨fuel, hf⟩ := h
  obtain ⟨xs, k, hk, hxy, _, hxl, hf⟩ := DataW.trod_struct Try.underlying23 hf
  rw [cells23] at hsz
  obtain ⟨l⟩ := cs
  match l, hsz, xs, hxl with
  | [v0, v1, v2, v3, v4, v5, v6, v7, v8], _, [y0, y1, y2, y3, y4, y5, y6, y7, y8], _ =>
    have g0 := hf 0 _ rfl
    have g1 := hf 1 _ rfl
    have g2 := hf 2 _ rfl
    have g3 := hf 3 _ rfl
    have g4 := hf 4 _ rfl
    have g5 := hf 5 _ rfl
    have g6 := hf 6 _ rfl
    have g7 := hf 7 _ rfl
    have g8 := hf 8 _ rfl
    simp [Value.cells, cells3', cells4'] at g0 g1 g2 g3 g4 g5 g6 g7 g8
    obtain ⟨b0, e0, _⟩ := DataW.trod_bool Try.underlying4 g0
    obtain ⟨b1, e1, _⟩ := DataW.trod_bool Try.underlying4 g1
    obtain ⟨b2, e2, _⟩ := DataW.trod_bool Try.underlying4 g2
    obtain ⟨b3, e3, _⟩ := DataW.trod_bool Try.underlying4 g3
    obtain ⟨b4, e4, _⟩ := DataW.trod_bool Try.underlying4 g4
    obtain ⟨b5, e5, _⟩ := DataW.trod_bool Try.underlying4 g5
    obtain ⟨b6, e6, _⟩ := DataW.trod_bool Try.underlying4 g6
    obtain ⟨b7, e7, _⟩ := DataW.trod_bool Try.underlying4 g7
    obtain ⟨z, e8, _, wz⟩ := DataW.trod_int Try.underlying3 g8
    simp at e0 e1 e2 e3 e4 e5 e6 e7 e8
    subst e0 e1 e2 e3 e4 e5 e6 e7 e8
    exact ⟨⟨b0, b1, b2, b3, b4, b5, b6, b7, z⟩, wz, rfl⟩

end Go.Proofs.Ytghihmmapignmaa
