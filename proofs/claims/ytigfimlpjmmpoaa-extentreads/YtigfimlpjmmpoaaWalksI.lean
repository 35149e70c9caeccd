/- Contract of extent's Read. -/
import Derived.Test.YtigfimlpjmmpoaaWalksF
import Derived.Test.YtigfimlpjmmpoaaWalksB
import Derived.WalkKit
import Derived.WalkSpells
import Derived.WalkLawsBesides
import Derived.Lib.Hide
import Derived.BigQuiet
import Derived.Deep.RegionLaw
namespace Go.Proofs.Ytigfimlpjmmpoaa
open Go.RowKit

/-- Spans as they came from Parts. -/
theorem own_pairs {B : Nat} {w : World} {v : Value} {ps : List (Int × Int)} (h : w.ownsRow B 56 2 v ps.length (Plain.spanCells ps)) : ∃ A c, v = .slice A ps.length c ∧ Pairs w A ps.length ps ∧ ∀ g o, A = some ⟨g, o, none⟩ → B ≤ g := by
  obtain ⟨hl, ⟨rfl, h0⟩ | ⟨g, cap, cur, rfl, hB, hb, hn, hm, hs, ht⟩⟩ := h
  · obtain rfl : ps = [] := List.eq_nil_of_length_eq_zero h0
    exact ⟨none, 0, rfl, pairs_nil w, fun g o h => by cases h⟩
  · refine ⟨some ⟨g, 0, none⟩, cap, rfl, ⟨rfl, by omega, fun hp => ⟨g, 0, rfl, (Array.getElem?_eq_some_iff.1 hb).1, fun j hj => ?_⟩⟩, fun g' o he => by injection he with he; injection he with he; omega⟩
    obtain ⟨h1, h2⟩ := Plain.spanCells_at ps j hj
    rw [← ht, List.getElem?_take_of_lt (by omega)] at h1 h2
    exact ⟨by rw [cell_of_row _ _ _ _ 56 (0, 0) hb, Nat.zero_add]; simpa using h1, by rw [cell_of_row _ _ _ _ 56 (0, 0) hb, Nat.zero_add]; simpa using h2⟩
theorem Pairs.only {S : Nat → Prop} {w w' : World} {A : Option Addr} {n : Nat} {L : List (Int × Int)} (h : Pairs w A n L) (k : Only S w w') (hS : ∀ g o, A = some ⟨g, o, none⟩ → ¬ S g) : Pairs w' A n L := by
  refine ⟨h.len, h.mx, fun hn => ?_⟩
  obtain ⟨b, o, rfl, hb, hc⟩ := h.cells hn
  have hs := hS b o rfl
  exact ⟨b, o, rfl, Nat.lt_of_lt_of_le hb k.size, fun j hj => ⟨(k.cell (p := ⟨b, o + j * 2, none⟩) hb hs).trans (hc j hj).1, (k.cell (p := ⟨b, o + j * 2 + 1, none⟩) hb hs).trans (hc j hj).2⟩⟩
theorem Box.only {S : Nat → Prop} {w w' : World} {b : Nat} {s : Int} {A : Option Addr} {n c : Nat} (h : Box w b s A n c) (k : Only S w w') (hS : ¬ S b) : Box w' b s A n c := (k.block b h.lt hS).trans h
/-- Bytes copied into a row that is known whole. -/
theorem step_copy8 {ops : Array Oper} {o : Oper} {a : Act} {w : World} {K : Act → World → Prop} {Q : Exit → Act → World → Prop} {E : Prop} (hgd : o.guard = none) (d s : Operand)
    (ho : o.op = .call { callee := .builtin .copy, args := #[d, s], argTypes := #[27, 27] }) (g off dLen dCap : Nat) (ad : Addr) (sLen sCap : Nat) (hd : a.eval d = .slice (some ⟨g, off, none⟩) dLen dCap) (hs : a.eval s = .slice (some ad) sLen sCap)
    (cur : List Value) (hg : w.heap[g]? = some (.cells cur.toArray 5 (0, 0))) (cs : List Value) (hn : cs.length = Nat.min sLen dLen) (hsrc : ∀ j v, cs[j]? = some v → w.cell? (ad.add j) = some v) (hfit : off + cs.length ≤ cur.length) (h1 : ∀ v ∈ cs, v.oneCell' = true)
    (h : ∀ w', Hid (w'.heap[g]? = some (.cells (splice cur off cs).toArray 5 (0, 0))) → Only (fun k => k = g) w w' → K (a.put o.dst (goInt cs.length)) w') : if Region.wanted o (yielded ops a.tmps) = true then Oper.wp Try.prog o a w K Q else E := by
  have hw : Region.wanted o (yielded ops a.tmps) = true := by simp [Region.wanted, hgd]
  rw [if_pos hw]
  have hrun := run_copy_row (P := Try.prog) w 27 27 o.type 5 g off dLen dCap ad sLen sCap cur.toArray 5 cs Try.underlying27 (by kernel_rfl) hg hn hsrc (by simpa using hfit) h1
  unfold Oper.wp
  simp [execOp, ho, resolve, invoke, builtin, hd, hs, hrun, Result.andThen]
  exact h _ (show _ = _ by simpa [splice] using setRow_heap w g _ _ 5 _ hg) ⟨rfl, rfl, rfl, by simp [World.setRow], fun k _ hn => setRow_other w g k _ hn⟩
def by8 (zs : List Int) : List Value := zs.map (Value.int .u8)
theorem by8_len (zs : List Int) : (by8 zs).length = zs.length := by simp [by8]
theorem by8_one (zs : List Int) : ∀ v ∈ by8 zs, v.oneCell' = true := by
  intro v hv
  simp [by8] at hv
  obtain ⟨n, _, rfl⟩ := hv
  rfl
/-- make([]byte, m). -/
theorem st_makeb {w : World} {ops : Array Oper} {rest : List Oper} {o : Oper} {a : Act} {Q : Exit → Act → World → Prop} (hgd : o.guard = none) (l c : Operand) (ho : o.op = .makeSlice 27 l c) (C : Int) (m : Nat) (hl : a.eval l = .int .i64 C) (hc : a.eval c = .int .i64 C) (hC : C = (m : Int)) (hm : m ≤ 1000000)
    (hn : ∀ g w', w.heap.size ≤ g → Hid (w'.heap[g]? = some (.cells (by8 (List.replicate m 0)).toArray 5 (0, 0))) → Below w.heap.size w w' → wpList Try.prog ops Q rest (a.put o.dst (.slice (some ⟨g, 0, none⟩) m m)) w') :
    wpList Try.prog ops Q (o :: rest) a w := by
  obtain ⟨i0, hi, hz0, hz1, hz2⟩ := info_parts info5
  subst hC
  have hrun := run_make (P := Try.prog) w 27 5 i0 (.int .u8 0) Try.underlying27 hi hz0 .i64 .i64 (m : Int) (m : Int) (by omega) (by omega) (by rw [hz2]; omega) (by omega)
  simp only [Int.toNat_natCast, hz1, Nat.mul_one] at hrun
  refine wpList_plain hgd fun K hK => ?_
  unfold Oper.wp
  simp [execOp, ho, hl, hc, hrun, Result.andThen]
  refine hK _ _ (hn _ _ (Nat.le_refl _) ?_ ((Below.refl _ _).alloc (Nat.le_refl _) _))
  have hb := heap_alloc_new w (.cells (madeCells (Value.int .u8 0).cells m) 5)
  have he : (madeCells (Value.int .u8 0).cells m) = (by8 (List.replicate m 0)).toArray := by
    rw [show (Value.cells (.int .u8 0)) = #[.int .u8 0] from rfl, madeCells]
    apply Array.ext_getElem?
    intro i
    by_cases him : i < m
    · rw [Array.getElem?_map, Array.getElem?_range, if_pos him]; simp [by8, Nat.mod_one, him]
    · rw [Array.getElem?_eq_none (by simp; omega), Array.getElem?_eq_none (by simp [by8]; omega)]
  rw [he] at hb ⊢
  exact hb
theorem read_step (L : List Ex) (p : Int) (m d k : Nat) (hk : d + k ≤ m) (hz : ∀ i, i < k → at_ L (p + ((d + i : Nat) : Int)) = 0) : red L p d ++ List.replicate (m - d) 0 = red L p (d + k) ++ List.replicate (m - (d + k)) 0 := by
  induction k with
  | zero => rfl
  | succ k ih =>
    rw [ih (by omega) (fun i hi => hz i (by omega)), ← Nat.add_assoc, red_succ, hz k (by omega), show m - (d + k) = (m - (d + k + 1)) + 1 by omega, List.replicate_succ, List.append_assoc]
    rfl
theorem red_split (L : List Ex) (p : Int) (d k : Nat) : red L p (d + k) = red L p d ++ (List.range k).map fun (i : Nat) => at_ L (p + ((d + i : Nat) : Int)) := by
  induction k with
  | zero => simp
  | succ k ih => rw [← Nat.add_assoc, red_succ, ih, List.range_succ, List.map_append, List.append_assoc]; rfl
theorem read_copy (L : List Ex) (p : Int) (m d k : Nat) (cs : List Int) (hk : d + k ≤ m) (hcs : cs = (List.range k).map fun (i : Nat) => at_ L (p + ((d + i : Nat) : Int))) : splice (by8 (red L p d ++ List.replicate (m - d) 0)) d (by8 cs) = by8 (red L p (d + k) ++ List.replicate (m - (d + k)) 0) := by
  have hl : cs.length = k := by rw [hcs]; simp
  unfold splice by8
  rw [← List.map_take, ← List.map_drop, ← List.map_append, ← List.map_append, List.take_left' (red_len L p d), List.length_map, hl, red_split, ← hcs]
  congr 1
  rw [List.drop_append, red_len, List.drop_of_length_le (by rw [red_len]; omega), List.nil_append, List.drop_replicate, List.append_assoc]
  congr 3
  omega
def BytesPost (zs : List Int) (w : World) (e : Ending) (w' : World) : Prop := ∃ A c, e = .returned (.slice A zs.length c) ∧ Nums .u8 w' A zs.length c zs ∧ Below w.heap.size w w'
theorem nums_row {w : World} {g : Nat} {zs : List Int} (h : w.heap[g]? = some (.cells (by8 zs).toArray 5 (0, 0))) (hm : zs.length ≤ maxLen) : Nums .u8 w (some ⟨g, 0, none⟩) zs.length zs.length zs := by
  refine ⟨rfl, Nat.le_refl _, hm, (fun h => by cases h), fun hp => ⟨g, 0, rfl, (Array.getElem?_eq_some_iff.1 h).1, fun j hj => ?_⟩⟩
  rw [cell_of_row _ _ _ _ 5 (0, 0) h]
  simp [by8, List.getD_eq_getElem?_getD, hj]
end Go.Proofs.Ytigfimlpjmmpoaa
