/- Contract of extent's Punch. / Contract of extent's Read. / Contract of extent's Read. / Blocks filled in between, without any Go. / Contracts of slices.Grow and slices.Concat, of three lists. / Contract of extent's filled. / Contract of extent's Allocate. / Bytes written block by block, without any Go. -/
import Derived.Test.YtgaaieipeiekiaaGreatPkC
import Derived.WalkKit
import Derived.WalkSpells
import Derived.WalkLawsBesides
import Derived.Lib.Hide
import Derived.BigQuiet
import Derived.Deep.RegionWith
import Derived.Test.YtgaaieipeiekiaaGreatPkB
import Derived.Deep.RegionLaw
namespace Go.Proofs.YtgaaieipeiekiaaGreat
open Go.RowKit
set_option maxRecDepth 100000

set_option maxRecDepth 100000 in
set_option maxHeartbeats 800000 in
theorem punch_any (s : Int) (A : Option Addr) (n c : Nat) (L : List Ex) (p k : Int) (w : World) (h : Exts w A n c L) (hn : n ≤ 1000000) (z : Bool) (hz : ((eo p k).isSome && decide (1 ≤ k) && may s L) = z) :
    Calls Tryz.prog 111 #[ct s A n c, .int .i64 p, .int .i64 k] w (CtPost z (if z = true then s else 0) (fun M => M = if z = true then wo L p (p + k) else []) w) := by
  have D0 := Lib.hid (duo_new w s A n c)
  have H := Lib.hid h
  have HZ := Lib.hid hz
  clear h hz
  show Calls Tryz.prog 111 #[.agg #[.int .i64 s, .slice A n c], .int .i64 p, .int .i64 k] w _
  go_enter Tryz.func111, Tryz.ntmps111
  go_wp2_with fail
  obtain ⟨d, hd⟩ : ∃ d, eo p k = d := ⟨_, rfl⟩
  have HD := Lib.hid hd
  clear hd
  refine (end_any p k _ d HD.out).mono ?_
  rintro e w1 ⟨rfl, k1⟩
  have D1 := Lib.hid (D0.out.on k1)
  clear k1 D0
  have c0 := D1.out.b0.c0; have c1 := D1.out.b0.c1; have d0 := D1.out.b1.c0; have d1 := D1.out.b1.c1; have f0 := D1.out.b1.f0; have f1 := D1.out.b1.f1
  cases d with
  | none =>
    have hzy : false = z := by rw [← HZ.out, HD.out]; rfl
    subst hzy
    simp only [Option.getD_none, Option.isSome_none]
    go_wp2
    refine res_box2 rfl (w.heap.size + 1) 0 none 0 0 rfl D1.out.none.1 rfl ?_
    exact ⟨none, 0, 0, [], rfl, rfl, D1.out.none.2.1, D1.out.none.2.2⟩
  | some t =>
    obtain ⟨p0, k0, rfl, t1⟩ := eo_some HD.out
    simp only [Option.getD_some, Option.isSome_some]
    by_cases q1 : 1 ≤ k
    · go_wp2_with fail
      obtain ⟨y, hy⟩ : ∃ y, may s L = y := ⟨_, rfl⟩
      have HY := Lib.hid hy
      have HZY := Lib.hid (show y = z by rw [← HZ.out, HD.out, hy]; simp [q1])
      clear hy
      refine (may_any s A n c L _ (H.out.on D1.out.below) y HY.out).mono ?_
      rintro e w2 ⟨rfl, k2⟩
      have D2 := Lib.hid (D1.out.on k2)
      clear k2 c0 c1 d0 d1 f0 f1 D1
      have c0 := D2.out.b0.c0; have c1 := D2.out.b0.c1; have d0 := D2.out.b1.c0; have d1 := D2.out.b1.c1; have f0 := D2.out.b1.f0; have f1 := D2.out.b1.f1
      have hzy := HZY.out
      subst hzy
      cases y with
      | false =>
        go_wp2
        refine res_box2 rfl (w.heap.size + 1) 0 none 0 0 rfl D2.out.none.1 rfl ?_
        exact ⟨none, 0, 0, [], rfl, rfl, D2.out.none.2.1, D2.out.none.2.2⟩
      | true =>
        have HG := Lib.hid ((may_iff s L).1 HY.out)
        go_wp2
        have hpk : p ≤ p + k := by omega
        have DD := Lib.hid (D2.out.on (Below.refl _ _).drew)
        go_region_with (go_at_call 123; refine (without_any A n c L p (p + k) _ (H.out.on DD.out.below) hn HG.out.rng p0 hpk t1).mono ?_; rintro e w3 ⟨A', c', rfl, hm, k3⟩; have D3 := Lib.hid (DD.out.on k3); have HM := Lib.hid hm; have g0 := D3.out.b0.c0; have g1 := D3.out.b0.c1; have i0 := D3.out.b1.c0; have i1 := D3.out.b1.c1; have j0 := D3.out.b1.f0; have j1 := D3.out.b1.f1; clear k3 hm)
        all_goals
          go_wp2
          have X := D3.out.done s HM.out DD.out.size
          refine res_box2 rfl (w.heap.size + 1) s A' _ c' rfl X.1 rfl ?_
          exact ⟨A', _, c', wo L p (p + k), rfl, rfl, X.2.1, X.2.2⟩
    · have hzy : false = z := by rw [← HZ.out]; simp [q1]
      subst hzy
      go_wp2
      refine res_box2 rfl (w.heap.size + 1) 0 none 0 0 rfl D1.out.none.1 rfl ?_
      exact ⟨none, 0, 0, [], rfl, rfl, D1.out.none.2.1, D1.out.none.2.2⟩
end Go.Proofs.YtgaaieipeiekiaaGreat

namespace Go.Proofs.YtgaaieipeiekiaaGreat
open Go.RowKit
set_option maxRecDepth 100000

/-- Spans as they came from Parts. -/
theorem own_pairs {B : Nat} {w : World} {v : Value} {ps : List (Int × Int)} (h : w.ownsRow B 154 2 v ps.length (Plain.spanCells ps)) : ∃ A c, v = .slice A ps.length c ∧ Pairs w A ps.length ps ∧ ∀ g o, A = some ⟨g, o, none⟩ → B ≤ g := by
  obtain ⟨hl, ⟨rfl, h0⟩ | ⟨g, cap, cur, rfl, hB, hb, hn, hm, hs, ht⟩⟩ := h
  · obtain rfl : ps = [] := List.eq_nil_of_length_eq_zero h0
    exact ⟨none, 0, rfl, pairs_nil w, fun g o h => by cases h⟩
  · refine ⟨some ⟨g, 0, none⟩, cap, rfl, ⟨rfl, by omega, fun hp => ⟨g, 0, rfl, (Array.getElem?_eq_some_iff.1 hb).1, fun j hj => ?_⟩⟩, fun g' o he => by injection he with he; injection he with he; omega⟩
    obtain ⟨h1, h2⟩ := Plain.spanCells_at ps j hj
    rw [← ht, List.getElem?_take_of_lt (by omega)] at h1 h2
    exact ⟨by rw [cell_of_row _ _ _ _ 154 (0, 0) hb, Nat.zero_add]; simpa using h1, by rw [cell_of_row _ _ _ _ 154 (0, 0) hb, Nat.zero_add]; simpa using h2⟩
theorem Pairs.only {S : Nat → Prop} {w w' : World} {A : Option Addr} {n : Nat} {L : List (Int × Int)} (h : Pairs w A n L) (k : Only S w w') (hS : ∀ g o, A = some ⟨g, o, none⟩ → ¬ S g) : Pairs w' A n L := by
  refine ⟨h.len, h.mx, fun hn => ?_⟩
  obtain ⟨b, o, rfl, hb, hc⟩ := h.cells hn
  have hs := hS b o rfl
  exact ⟨b, o, rfl, Nat.lt_of_lt_of_le hb k.size, fun j hj => ⟨(k.cell (p := ⟨b, o + j * 2, none⟩) hb hs).trans (hc j hj).1, (k.cell (p := ⟨b, o + j * 2 + 1, none⟩) hb hs).trans (hc j hj).2⟩⟩
theorem Box.only {S : Nat → Prop} {w w' : World} {b : Nat} {s : Int} {A : Option Addr} {n c : Nat} (h : Box w b s A n c) (k : Only S w w') (hS : ¬ S b) : Box w' b s A n c := (k.block b h.lt hS).trans h
/-- Bytes copied into a row that is known whole. -/
theorem step_copy8 {ops : Array Oper} {o : Oper} {a : Act} {w : World} {K : Act → World → Prop} {Q : Exit → Act → World → Prop} {E : Prop} (hgd : o.guard = none) (d s : Operand)
    (ho : o.op = .call { callee := .builtin .copy, args := #[d, s], argTypes := #[40, 40] }) (g off dLen dCap : Nat) (ad : Addr) (sLen sCap : Nat) (hd : a.eval d = .slice (some ⟨g, off, none⟩) dLen dCap) (hs : a.eval s = .slice (some ad) sLen sCap)
    (cur : List Value) (hg : w.heap[g]? = some (.cells cur.toArray 5 (0, 0))) (cs : List Value) (hn : cs.length = Nat.min sLen dLen) (hsrc : ∀ j v, cs[j]? = some v → w.cell? (ad.add j) = some v) (hfit : off + cs.length ≤ cur.length) (h1 : ∀ v ∈ cs, v.oneCell' = true)
    (h : ∀ w', Hid (w'.heap[g]? = some (.cells (splice cur off cs).toArray 5 (0, 0))) → Only (fun k => k = g) w w' → K (a.put o.dst (goInt cs.length)) w') : if Region.wanted o (yielded ops a.tmps) = true then Oper.wp Tryz.prog o a w K Q else E := by
  have hw : Region.wanted o (yielded ops a.tmps) = true := by simp [Region.wanted, hgd]
  rw [if_pos hw]
  have hrun := run_copy_row (P := Tryz.prog) w 40 40 o.type 5 g off dLen dCap ad sLen sCap cur.toArray 5 cs Tryz.underlying40 (by kernel_rfl) hg hn hsrc (by simpa using hfit) h1
  unfold Oper.wp
  simp [execOp, ho, resolve, invoke, builtin, hd, hs, hrun, Result.andThen]
  exact h _ (show _ = _ by simpa [splice] using setRow_heap w g _ _ 5 _ hg) ⟨rfl, rfl, rfl, by simp [World.setRow], fun k _ hn => setRow_other w g k _ hn⟩
def by8 (zs : List Int) : List Value := zs.map (Value.int .u8)
theorem by8_len (zs : List Int) : (by8 zs).length = zs.length := by simp [by8]
theorem by8_one (zs : List Int) : ∀ v ∈ by8 zs, v.oneCell' = true := by
  intro v hv
  simp [by8] at hv
  obtain ⟨n, _, rfl⟩ := hv
  rfl
/-- make([]byte, m). -/
theorem st_makeb {w : World} {ops : Array Oper} {rest : List Oper} {o : Oper} {a : Act} {Q : Exit → Act → World → Prop} (hgd : o.guard = none) (l c : Operand) (ho : o.op = .makeSlice 40 l c) (C : Int) (m : Nat) (hl : a.eval l = .int .i64 C) (hc : a.eval c = .int .i64 C) (hC : C = (m : Int)) (hm : m ≤ 1000000)
    (hn : ∀ g w', w.heap.size ≤ g → Hid (w'.heap[g]? = some (.cells (by8 (List.replicate m 0)).toArray 5 (0, 0))) → Below w.heap.size w w' → wpList Tryz.prog ops Q rest (a.put o.dst (.slice (some ⟨g, 0, none⟩) m m)) w') :
    wpList Tryz.prog ops Q (o :: rest) a w := by
  obtain ⟨i0, hi, hz0, hz1, hz2⟩ := info_parts info5
  subst hC
  have hrun := run_make (P := Tryz.prog) w 40 5 i0 (.int .u8 0) Tryz.underlying40 hi hz0 .i64 .i64 (m : Int) (m : Int) (by omega) (by omega) (by rw [hz2]; omega) (by omega)
  simp only [Int.toNat_natCast, hz1, Nat.mul_one] at hrun
  refine wpList_plain hgd fun K hK => ?_
  unfold Oper.wp
  simp [execOp, ho, hl, hc, hrun, Result.andThen]
  refine hK _ _ (hn _ _ (Nat.le_refl _) ?_ ((Below.refl _ _).alloc (Nat.le_refl _) _))
  have hb := heap_alloc_new w (.cells (madeCells (Value.int .u8 0).cells m) 5)
  have he : (madeCells (Value.int .u8 0).cells m) = (by8 (List.replicate m 0)).toArray := by
    rw [show (Value.cells (.int .u8 0)) = #[.int .u8 0] from rfl, madeCells]
    apply Array.ext_getElem?
    intro i
    by_cases him : i < m
    · rw [Array.getElem?_map, Array.getElem?_range, if_pos him]; simp [by8, Nat.mod_one, him]
    · rw [Array.getElem?_eq_none (by simp; omega), Array.getElem?_eq_none (by simp [by8]; omega)]
  rw [he] at hb ⊢
  exact hb
theorem read_step (L : List Ex) (p : Int) (m d k : Nat) (hk : d + k ≤ m) (hz : ∀ i, i < k → at_ L (p + ((d + i : Nat) : Int)) = 0) : red L p d ++ List.replicate (m - d) 0 = red L p (d + k) ++ List.replicate (m - (d + k)) 0 := by
  induction k with
  | zero => rfl
  | succ k ih =>
    rw [ih (by omega) (fun i hi => hz i (by omega)), ← Nat.add_assoc, red_succ, hz k (by omega), show m - (d + k) = (m - (d + k + 1)) + 1 by omega, List.replicate_succ, List.append_assoc]
    rfl
theorem red_split (L : List Ex) (p : Int) (d k : Nat) : red L p (d + k) = red L p d ++ (List.range k).map fun (i : Nat) => at_ L (p + ((d + i : Nat) : Int)) := by
  induction k with
  | zero => simp
  | succ k ih => rw [← Nat.add_assoc, red_succ, ih, List.range_succ, List.map_append, List.append_assoc]; rfl
theorem read_copy (L : List Ex) (p : Int) (m d k : Nat) (cs : List Int) (hk : d + k ≤ m) (hcs : cs = (List.range k).map fun (i : Nat) => at_ L (p + ((d + i : Nat) : Int))) : splice (by8 (red L p d ++ List.replicate (m - d) 0)) d (by8 cs) = by8 (red L p (d + k) ++ List.replicate (m - (d + k)) 0) := by
  have hl : cs.length = k := by rw [hcs]; simp
  unfold splice by8
  rw [← List.map_take, ← List.map_drop, ← List.map_append, ← List.map_append, List.take_left' (red_len L p d), List.length_map, hl, red_split, ← hcs]
  congr 1
  rw [List.drop_append, red_len, List.drop_of_length_le (by rw [red_len]; omega), List.nil_append, List.drop_replicate, List.append_assoc]
  congr 3
  omega
def BytesPost (zs : List Int) (w : World) (e : Ending) (w' : World) : Prop := ∃ A c, e = .returned (.slice A zs.length c) ∧ Nums .u8 w' A zs.length c zs ∧ Below w.heap.size w w'
theorem nums_row {w : World} {g : Nat} {zs : List Int} (h : w.heap[g]? = some (.cells (by8 zs).toArray 5 (0, 0))) (hm : zs.length ≤ maxLen) : Nums .u8 w (some ⟨g, 0, none⟩) zs.length zs.length zs := by
  refine ⟨rfl, Nat.le_refl _, hm, (fun h => by cases h), fun hp => ⟨g, 0, rfl, (Array.getElem?_eq_some_iff.1 h).1, fun j hj => ?_⟩⟩
  rw [cell_of_row _ _ _ _ 5 (0, 0) h]
  simp [by8, List.getD_eq_getElem?_getD, hj]
end Go.Proofs.YtgaaieipeiekiaaGreat

namespace Go.Proofs.YtgaaieipeiekiaaGreat
open Go.RowKit
set_option maxRecDepth 100000

theorem at_block {L : List Ex} {P : Int} {bs : List Int} (hl : look L (P / 8) = some bs) (r i : Nat) (hr : P % 8 = (r : Int)) (hi : r + i < 8) : at_ L (P + (i : Int)) = bs.getD (r + i) 0 := by
  have h1 : (P + (i : Int)) / 8 = P / 8 := by omega
  have h2 : ((P + (i : Int)) % 8).toNat = r + i := by omega
  rw [at_, h1, hl, h2]
theorem at_gone {L : List Ex} {P : Int} (hl : look L (P / 8) = none) (r i : Nat) (hr : P % 8 = (r : Int)) (hi : r + i < 8) : at_ L (P + (i : Int)) = 0 := by
  have h1 : (P + (i : Int)) / 8 = P / 8 := by omega
  rw [at_, h1, hl]
theorem parts_at {P l : Int} {F : Nat} {ps : List (Int × Int)} {j : Nat} (hj : j < ps.length) (h : ps.drop j = Plain.partsFrom 8 F P l) (hl : 0 ≤ l) (hF : l.toNat ≤ F) : 0 < l ∧ ps.getD j (0, 0) = (P, Plain.partLen 8 P l) ∧ ps.drop (j + 1) = Plain.partsFrom 8 (F - 1) (P + Plain.partLen 8 P l) (l - Plain.partLen 8 P l) := by
  have h0 : 0 < l := by
    rcases Int.lt_or_le 0 l with h0 | h0
    · exact h0
    · rw [Plain.partsFrom_zero _ _ _ _ (by omega)] at h
      have := congrArg List.length h
      simp at this
      omega
  have hst := Plain.partsFrom_step 8 F P l h0 hF
  rw [hst, List.drop_eq_getElem_cons hj] at h
  injection h with h1 h2
  refine ⟨h0, ?_, h2⟩
  rw [List.getD_eq_getElem?_getD, List.getElem?_eq_getElem hj]
  exact h1
theorem parts_end {P l : Int} {F : Nat} {ps : List (Int × Int)} {j : Nat} (hj : ps.length ≤ j) (h : ps.drop j = Plain.partsFrom 8 F P l) (hF : l.toNat ≤ F) (hl : 0 ≤ l) : l = 0 := by
  rw [List.drop_of_length_le hj] at h
  rcases Int.lt_or_le 0 l with h0 | h0
  · rw [Plain.partsFrom_step 8 F P l h0 hF] at h; cases h
  · omega

end Go.Proofs.YtgaaieipeiekiaaGreat

namespace Go.Proofs.YtgaaieipeiekiaaGreat

theorem getD_eq {L : List Ex} {i : Nat} (h : i < L.length) : L.getD i default = L[i] := by rw [List.getD_eq_getElem?_getD, List.getElem?_eq_getElem h]; rfl
/-- m blocks from f on, holding what D holds. -/
def blk (f : Int) (m : Nat) (D : List Ex) : List Ex := (List.range m).map fun (i : Nat) => ⟨f + (i : Int), (look D (f + (i : Int))).getD nul8⟩
/-- m blocks, the first j of them with their numbers. -/
def blk0 (f : Int) (m j : Nat) : List Ex := (List.range m).map fun (i : Nat) => if i < j then ⟨f + (i : Int), nul8⟩ else ⟨0, nul8⟩
theorem blk_len (f : Int) (m : Nat) (D : List Ex) : (blk f m D).length = m := by simp [blk]
theorem blk0_len (f : Int) (m j : Nat) : (blk0 f m j).length = m := by simp [blk0]
theorem blk0_zero (f : Int) (m : Nat) : blk0 f m 0 = List.replicate m ⟨0, nul8⟩ := by
  apply List.ext_getElem?
  intro i
  by_cases h : i < m
  · simp [blk0, h]
  · rw [List.getElem?_eq_none (by simp [blk0]; omega), List.getElem?_eq_none (by simp; omega)]
theorem blk0_full (f : Int) (m : Nat) : blk0 f m m = blk f m [] := by
  apply List.ext_getElem?
  intro i
  by_cases h : i < m
  · simp [blk0, blk, h, look]
  · rw [List.getElem?_eq_none (by simp [blk0]; omega), List.getElem?_eq_none (by simp [blk]; omega)]
theorem blk0_set (f : Int) (m j : Nat) : (blk0 f m j).set j ⟨f + (j : Int), nul8⟩ = blk0 f m (j + 1) := by
  apply List.ext_getElem?
  intro i
  by_cases h : i < m
  · by_cases hij : i = j
    · subst hij
      rw [List.getElem?_set_self (by simp [blk0]; exact h)]
      simp [blk0, h]
    · rw [List.getElem?_set_ne (fun h => hij h.symm)]
      simp only [blk0, List.getElem?_map, List.getElem?_range h, Option.map_some]
      by_cases h1 : i < j
      · rw [if_pos h1, if_pos (by omega)]
      · rw [if_neg h1, if_neg (by omega)]
  · rw [List.getElem?_eq_none (by simp [blk0]; omega), List.getElem?_eq_none (by simp [blk0]; omega)]
theorem look_snoc (D : List Ex) (e : Ex) (k : Int) : look (D ++ [e]) k = (match look D k with | some x => some x | none => if e.no = k then some e.bs else none) := by
  rw [look_append]; rfl
theorem blk_set {f : Int} {m : Nat} {D : List Ex} {e : Ex} (q : Nat) (hq : q < m) (he : e.no = f + (q : Int)) (hD : ∀ x ∈ D, x.no ≠ e.no) : (blk f m D).set q e = blk f m (D ++ [e]) := by
  apply List.ext_getElem?
  intro i
  by_cases h : i < m
  · by_cases hij : i = q
    · subst hij
      rw [List.getElem?_set_self (by simp [blk]; exact h)]
      have hn : look D (f + (i : Int)) = none := look_none fun x hx => by rw [← he]; exact hD x hx
      simp only [blk, List.getElem?_map, List.getElem?_range h, Option.map_some, look_snoc, hn, he, if_true, Option.getD_some]
      cases e
      simp only at he
      rw [he]
    · rw [List.getElem?_set_ne (fun h => hij h.symm)]
      simp only [blk, List.getElem?_map, List.getElem?_range h, Option.map_some, look_snoc]
      congr 2
      cases hl : look D (f + (i : Int)) with
      | some x => rfl
      | none => rw [if_neg (by omega)]
  · rw [List.getElem?_eq_none (by simp [blk]; omega), List.getElem?_eq_none (by simp [blk]; omega)]
theorem look_map_range (f : Int) (g : Int → List Int) (m : Nat) (k : Int) : look ((List.range m).map fun (i : Nat) => ⟨f + (i : Int), g (f + (i : Int))⟩) k = if f ≤ k ∧ k < f + (m : Int) then some (g k) else none := by
  induction m with
  | zero => rw [if_neg (by omega)]; rfl
  | succ m ih =>
    rw [List.range_succ, List.map_append, look_append, ih]
    by_cases h : f ≤ k ∧ k < f + (m : Int)
    · rw [if_pos h, if_pos (by omega)]
    · rw [if_neg h]
      show look [⟨f + (m : Int), g (f + (m : Int))⟩] k = _
      rw [look]
      by_cases hk : f + (m : Int) = k
      · rw [if_pos hk, if_pos (by omega), hk]
      · rw [if_neg hk, if_neg (by omega)]; rfl
theorem blk_look (f : Int) (m : Nat) (D : List Ex) (k : Int) : look (blk f m D) k = if f ≤ k ∧ k < f + (m : Int) then some ((look D k).getD nul8) else none :=
  look_map_range f (fun k => (look D k).getD nul8) m k
theorem blk_no {f : Int} {m : Nat} {D : List Ex} {x : Ex} (h : x ∈ blk f m D) : f ≤ x.no ∧ x.no < f + (m : Int) := by
  simp [blk] at h
  obtain ⟨i, hi, rfl⟩ := h
  simp only
  omega
theorem up_blk (f : Int) (m : Nat) (D : List Ex) : Up (blk f m D) := by
  unfold blk Up
  rw [List.pairwise_map]
  exact List.pairwise_lt_range.imp (fun h => by simp only; omega)
theorem idx_drop {L : List Ex} (hu : Up L) {f g : Int} (h : f ≤ g) : idx (L.drop (idx L f)) g = idx L g - idx L f := by
  have hm := idx_mono hu h
  have hl := idx_le L g
  refine idx_unique (by simp; omega) (fun j hj => ?_) (fun hj => ?_)
  · have := idx_lt L g (idx L f + j) (by omega)
    simpa [List.getD_eq_getElem?_getD] using this
  · rw [List.length_drop] at hj
    have := idx_ge L g hu (idx L f + (idx L g - idx L f)) (by omega) (by omega)
    simpa [List.getD_eq_getElem?_getD] using this
/-- The blocks from f to l. -/
def seg (L : List Ex) (f l : Int) : List Ex := (L.drop (idx L f)).take (idx L (l + 1) - idx L f)
theorem seg_look {L : List Ex} (hu : Up L) {f l : Int} (h : f ≤ l) (k : Int) : look (seg L f l) k = if f ≤ k ∧ k ≤ l then look L k else none := by
  have hx := idx_drop hu (show f ≤ l + 1 by omega)
  unfold seg
  rw [← hx, look_take (up_drop hu _), look_drop hu]
  by_cases h1 : k < f
  · rw [if_pos (by omega), if_pos h1, if_neg (by omega)]
  · by_cases h2 : k ≤ l
    · rw [if_pos (by omega), if_neg h1, if_pos (by omega)]
    · rw [if_neg (by omega), if_neg (by omega)]
theorem seg_no {L : List Ex} (hu : Up L) {f l : Int} (h : f ≤ l) {x : Ex} (hx : x ∈ seg L f l) : f ≤ x.no ∧ x.no ≤ l := by
  have hi := idx_drop hu (show f ≤ l + 1 by omega)
  unfold seg at hx
  rw [← hi] at hx
  have h1 := take_no hx
  have h2 := drop_no hu (List.mem_of_mem_take hx)
  omega
theorem up_seg {L : List Ex} (hu : Up L) (f l : Int) : Up (seg L f l) := up_take (up_drop hu _) _
/-- All of it. -/
def fil (L : List Ex) (f l : Int) (m : Nat) : List Ex := L.take (idx L f) ++ blk f m (seg L f l) ++ L.drop (idx L (l + 1))
theorem fil_look {L : List Ex} (hu : Up L) {f l : Int} {m : Nat} (hm : l = f + (m : Int) - 1) (h : f ≤ l) (k : Int) : look (fil L f l m) k = flook L f l k := by
  unfold fil flook
  rw [look_append, look_append, look_take hu, blk_look, look_drop hu, seg_look hu h]
  by_cases h1 : k < f
  · rw [if_pos h1, if_neg (by omega), if_pos (by omega), if_neg (by omega)]
    cases look L k <;> rfl
  · rw [if_neg h1]
    by_cases h2 : k ≤ l
    · rw [if_pos (by omega), if_pos (by omega), if_pos (by omega)]
      first | done | (rw [if_pos (show f ≤ k ∧ k ≤ l by omega)])
    · rw [if_neg (by omega), if_neg (by omega), if_neg (by omega)]
      first | done | (rw [if_neg (show ¬ (f ≤ k ∧ k ≤ l) by omega)])
theorem up_fil {L : List Ex} (hu : Up L) {f l : Int} {m : Nat} (hm : l = f + (m : Int) - 1) (h : f ≤ l) : Up (fil L f l m) := by
  unfold fil Up
  rw [List.pairwise_append, List.pairwise_append]
  refine ⟨⟨up_take hu _, up_blk f m _, fun a ha b hb => ?_⟩, up_drop hu _, fun a ha b hb => ?_⟩
  · have := take_no ha; have := blk_no hb; omega
  · have h2 := drop_no hu hb
    rcases List.mem_append.1 ha with ha | ha
    · have h1 := take_no ha; omega
    · have := blk_no ha; omega
end Go.Proofs.YtgaaieipeiekiaaGreat

namespace Go.Proofs.YtgaaieipeiekiaaGreat
open Go.RowKit
set_option maxRecDepth 100000

set_option maxHeartbeats 1000000 in
theorem grow_any (m : Nat) (w : World) (hm : m ≤ 1000000) : Calls Tryz.prog 133 #[.slice none 0 0, .int .i64 (m : Int)] w fun e w' => ∃ v, e = .returned v ∧ Own w.heap.size w' v [] ∧ Below w.heap.size w w' := by
  obtain ⟨i0, hi, hz0, hz1, hz2⟩ := info_parts info32
  rcases Nat.eq_zero_or_pos m with h0 | h0
  · subst h0
    go_enter Tryz.func133, Tryz.ntmps133
    go_wp2
    go_ret
    exact ⟨_, rfl, own_nil _ _, Below.refl _ _⟩
  · have hgc := grownCap_ge w m 0 75
    have hgm := grownCap_le_maxLen w m 0 75 (by unfold maxLen; omega)
    have hrun := fun ty => Lib.run_append_nil_zeros (P := Tryz.prog) w 30 3 ty 75 i0 _ .i64 .i64 Tryz.underlying30 Tryz.underlying3 hi hz0 m h0 (by rw [hz1]; decide) (by omega) (by rw [hz2]; omega)
    generalize grownCap w m 0 75 = C at *
    have HR := Lib.hid hrun
    clear hrun
    have hC0 : ¬ C = 0 := by omega
    have hm0 : (0 : Int) < (m : Int) := by omega
    have hm1 : ¬ (m : Int) < 0 := by omega
    go_enter Tryz.func133, Tryz.ntmps133
    go_wp2_with (at_builtin; refine Lib.wpList_append_run w rfl _ _ 30 3 rfl _ _ rfl rfl _ _ (HR.out _) ?_)
    go_ret
    refine ⟨_, rfl, ?_, ((Below.refl w.heap.size w).drew).alloc (Nat.le_refl _) _⟩
    refine ⟨World.ownsRow_made w.drew _ C (Nat.le_refl _) hgm ?_, by simp⟩
    rw [Array.size_append, size_zeroCells, size_zeroCells]
    simp only [ecl_size (ok_nul 0)]
    omega

set_option maxRecDepth 100000 in
set_option maxHeartbeats 4000000 in
theorem concat_any (b : Nat) (A1 : Option Addr) (n1 c1 : Nat) (L1 : List Ex) (A2 : Option Addr) (n2 c2 : Nat) (L2 : List Ex) (A3 : Option Addr) (n3 c3 : Nat) (L3 : List Ex) (w : World)
    (hb : Row w b 30 #[.slice A1 n1 c1, .slice A2 n2 c2, .slice A3 n3 c3]) (h1 : Exts w A1 n1 c1 L1) (h2 : Exts w A2 n2 c2 L2) (h3 : Exts w A3 n3 c3 L3) (m1 : n1 ≤ 100000) (m2 : n2 ≤ 100000) (m3 : n3 ≤ 100000)
    (LL : List Ex) (hLL : L1 ++ L2 ++ L3 = LL) :
    Calls Tryz.prog 128 #[.slice (some ⟨b, 0, none⟩) 3 3] w (ListPost LL w) := by
  have HLL := Lib.hid hLL
  clear hLL
  have H1 := Lib.hid h1; have H2 := Lib.hid h2; have H3 := Lib.hid h3; have HB := Lib.hid hb
  have e0 := hb.at 0; have e1 := hb.at 1; have e2 := hb.at 2
  simp only [List.getElem?_toArray, List.getElem?_cons_zero, List.getElem?_cons_succ] at e0 e1 e2
  clear h1 h2 h3 hb
  go_enter Tryz.func128, Tryz.ntmps128
  go_wp2
  go_loop [3, 11] (fun s i => (i = .int .i64 0 ∧ s = .int .i64 0) ∨ (i = .int .i64 1 ∧ s = .int .i64 n1) ∨ (i = .int .i64 2 ∧ s = .int .i64 (n1 + n2)) ∨ (i = .int .i64 3 ∧ s = .int .i64 (n1 + n2 + n3))) (fun _ i => 3 - (intOf i).toNat)
  case atStart => exact .inl ⟨rfl, rfl⟩
  case round =>
    rcases hrel with ⟨rfl, rfl⟩ | ⟨rfl, rfl⟩ | ⟨rfl, rfl⟩ | ⟨rfl, rfl⟩
    · go_wp2
      go_round
      case rel => exact .inr (.inl ⟨by go_num, by go_num⟩)
      case measure => simp [intOf]
    · go_wp2
      go_round
      case rel => exact .inr (.inr (.inl ⟨by go_num, by go_num⟩))
      case measure => simp [intOf]
    · go_wp2
      go_round
      case rel => exact .inr (.inr (.inr ⟨by go_num, by go_num⟩))
      case measure => simp [intOf]
    · obtain ⟨m, hm⟩ : ∃ m : Nat, (n1 : Int) + (n2 : Int) + (n3 : Int) = (m : Int) := ⟨n1 + n2 + n3, by omega⟩
      have hm6 : m ≤ 1000000 := by omega
      go_wp2_with fail
      refine (grow_any m w hm6).mono ?_
      rintro e w1 ⟨v, rfl, o1, k1⟩
      have O1 := Lib.hid o1; have K1 := Lib.hid k1
      clear o1 k1
      go_wp2
      go_loopw [6, 27] (fun v i wr => ((i = .int .i64 0 ∧ Hid (Own w.heap.size wr v [])) ∨ (i = .int .i64 1 ∧ Hid (Own w.heap.size wr v L1)) ∨ (i = .int .i64 2 ∧ Hid (Own w.heap.size wr v (L1 ++ L2))) ∨ (i = .int .i64 3 ∧ Hid (Own w.heap.size wr v LL))) ∧ Hid (Below w.heap.size w wr)) (fun _ i _ => 3 - (intOf i).toNat)
      case atStart => exact ⟨.inl ⟨rfl, O1.out⟩, K1.out⟩
      case round =>
        clear K1 O1 e0 e1 e2
        obtain ⟨hrel, K2⟩ := hrel
        have e0 := (HB.out.on K2.out).at 0; have e1 := (HB.out.on K2.out).at 1; have e2 := (HB.out.on K2.out).at 2
        simp only [List.getElem?_toArray, List.getElem?_cons_zero, List.getElem?_cons_succ] at e0 e1 e2
        have l1 := H1.out.len; have l2 := H2.out.len
        rcases hrel with ⟨rfl, HO⟩ | ⟨rfl, HO⟩ | ⟨rfl, HO⟩ | ⟨rfl, HO⟩
        · go_wp2_with (at_builtin; refine st_cat rfl _ _ rfl w.heap.size u6 [] rfl HO.out _ _ _ L1 rfl (H1.out.on K2.out) (by simp; omega) K2.out.size ?_; intro v' w3 q3 k3; have Q3 := Lib.hid q3; have K3 := Lib.hid (K2.out.trans k3); clear q3 k3)
          go_roundw
          case rel => exact ⟨.inr (.inl ⟨by go_num, Q3.out⟩), K3.out⟩
          case measure => simp [intOf]
        · go_wp2_with (at_builtin; refine st_cat rfl _ _ rfl w.heap.size u6 L1 rfl HO.out _ _ _ L2 rfl (H2.out.on K2.out) (by omega) K2.out.size ?_; intro v' w3 q3 k3; have Q3 := Lib.hid q3; have K3 := Lib.hid (K2.out.trans k3); clear q3 k3)
          go_roundw
          case rel => exact ⟨.inr (.inr (.inl ⟨by go_num, Q3.out⟩)), K3.out⟩
          case measure => simp [intOf]
        · go_wp2_with (at_builtin; refine st_cat rfl _ _ rfl w.heap.size u6 (L1 ++ L2) rfl HO.out _ _ _ L3 rfl (H3.out.on K2.out) (by rw [List.length_append]; omega) K2.out.size ?_; intro v' w3 q3 k3; rw [HLL.out] at q3; have Q3 := Lib.hid q3; have K3 := Lib.hid (K2.out.trans k3); clear q3 k3)
          go_roundw
          case rel => exact ⟨.inr (.inr (.inr ⟨by go_num, Q3.out⟩)), K3.out⟩
          case measure => simp [intOf]
        · go_wp2
          go_ret
          obtain ⟨A', c', rfl, hmm⟩ := HO.out.mut
          exact ⟨A', c', rfl, hmm, K2.out⟩
end Go.Proofs.YtgaaieipeiekiaaGreat

namespace Go.Proofs.YtgaaieipeiekiaaGreat
open Go.RowKit
set_option maxRecDepth 100000

/-- One of the blocks turned, cells put into it. -/
theorem Mut.put {B : Nat} {w : World} {g o n c : Nat} {L : List Ex} (h : Mut B w (some ⟨g, o, none⟩) n c L) (j p : Nat) (vs : List Value) (e' : Ex) (hj : j < n) (hp : p + vs.length ≤ 9) (ho : e'.ok) (he : ecl e' = splice (ecl (L.getD j default)) p vs) :
    Mut B (w.setCells g (o + j * 9 + p) vs) (some ⟨g, o, none⟩) n c (L.set j e') := by
  have hx := h.exts.put j p vs e' hj hp ho he
  refine ⟨hx, fun g' o' ha => ?_⟩
  injection ha with ha; injection ha with e1 e2; subst e1 e2
  obtain ⟨h1, h2, h3⟩ := h.own g o rfl
  exact ⟨h1, Nat.lt_of_lt_of_le h2 (only_setCells w g _ vs).size, fun k => by rw [World.frozen?_setCells]; exact h3 k⟩
theorem makes_cells (m : Nat) : (madeCells (ecl ⟨0, nul8⟩).toArray (m * 9)).toList = exCells (List.replicate m ⟨0, nul8⟩) := by
  have hok : ∀ e ∈ List.replicate m (Ex.mk 0 nul8), e.ok := fun e he => by rw [List.eq_of_mem_replicate he]; exact ok_nul 0
  apply List.ext_getElem?
  intro i
  by_cases h : i < m * 9
  · have h2 := exCells_at (List.replicate m ⟨0, nul8⟩) hok (i / 9) (by simp; omega) (i % 9) (by omega)
    rw [show i / 9 * 9 + i % 9 = i by omega] at h2
    rw [h2, Array.getElem?_toList, madeCells, Array.getElem?_map, Array.getElem?_range, if_pos h]
    have h3 : (List.replicate m (Ex.mk 0 nul8)).getD (i / 9) default = ⟨0, nul8⟩ := by rw [List.getD_eq_getElem?_getD, List.getElem?_replicate, if_pos (by omega)]; rfl
    rw [h3, ecl_size (ok_nul 0), Option.map_some]
    have h4 : i % 9 < (ecl ⟨0, nul8⟩).toArray.size := by rw [ecl_size (ok_nul 0)]; omega
    rw [getElem!_pos (ecl ⟨0, nul8⟩).toArray (i % 9) h4]
    simp
  · rw [List.getElem?_eq_none (by simp [madeCells]; omega), List.getElem?_eq_none (by rw [exCells_len _ hok]; simp; omega)]
/-- make([]Ext, m). -/
theorem st_makex {w : World} {ops : Array Oper} {rest : List Oper} {o : Oper} {a : Act} {Q : Exit → Act → World → Prop} (hgd : o.guard = none) (l c : Operand) (ho : o.op = .makeSlice 30 l c) (C : Int) (m : Nat) (hl : a.eval l = .int .i64 C) (hc : a.eval c = .int .i64 C) (hC : C = (m : Int)) (hm0 : 0 < m) (hm : m ≤ 1000000)
    (hn : ∀ g w', Mut w.heap.size w' (some ⟨g, 0, none⟩) m m (List.replicate m ⟨0, nul8⟩) → Below w.heap.size w w' → wpList Tryz.prog ops Q rest (a.put o.dst (.slice (some ⟨g, 0, none⟩) m m)) w') :
    wpList Tryz.prog ops Q (o :: rest) a w := by
  obtain ⟨i0, hi, hz0, hz1, hz2⟩ := info_parts info32
  refine wpList_make_full (P := Tryz.prog) w hgd l c 30 ho w.heap.size 75 i0 _ 9 Tryz.underlying30 hi hz0 hz1 .i64 .i64 C C m hl hc hC hC (by rw [hz2]; omega) (by unfold maxLen; omega) (Nat.le_refl _) ?_
  intro w' h1 h2
  have hO : Own w.heap.size w' (.slice (some ⟨w.heap.size, 0, none⟩) m m) (List.replicate m ⟨0, nul8⟩) := by
    refine ⟨?_, fun e he => by rw [List.eq_of_mem_replicate he]; exact ok_nul 0⟩
    rw [List.length_replicate, ← makes_cells]
    exact h1
  obtain ⟨A, c', hv, hmm⟩ := hO.mut
  injection hv with e1 e2 e3
  rw [List.length_replicate] at hmm
  subst e1
  subst e3
  exact hn _ _ hmm ⟨h2.os, h2.tape, h2.output, h2.size, fun k hk => h2.block k hk (fun h => by cases h)⟩

theorem Mut.weak {B B' : Nat} {w : World} {A : Option Addr} {n c : Nat} {L : List Ex} (h : Mut B w A n c L) (hB : B' ≤ B) : Mut B' w A n c L :=
  ⟨h.exts, fun g o he => by obtain ⟨h1, h2⟩ := h.own g o he; exact ⟨Nat.le_trans hB h1, h2⟩⟩
/-- A block stored whole into such a slice. -/
theorem st_storem {w : World} {ops : Array Oper} {rest : List Oper} {o : Oper} {a : Act} {Q : Exit → Act → World → Prop} (hgd : o.guard = none) (x y : Operand) (ho : o.op = .store 75 x y) (B g n c : Nat) (L : List Ex) (j : Nat) (hj : j < n) (hx : a.eval x = .pointer (some ⟨g, j * 9, none⟩)) (e : Ex) (hy : a.eval y = ev e) (hk : e.ok)
    (hm : Mut B w (some ⟨g, 0, none⟩) n c L) (h : ∀ w1 : World, Mut B w1 (some ⟨g, 0, none⟩) n c (L.set j e) → Only (fun d => d = g) w w1 → wpList Tryz.prog ops Q rest (a.put o.dst undef) w1) : wpList Tryz.prog ops Q (o :: rest) a w := by
  obtain ⟨g', p', he, hg, hc⟩ := hm.exts.cells (by omega)
  injection he with he; injection he with e1 e2; subst e1 e2
  have hth : w.there g (j * 9) (ecl e).toArray.size := fun i hi => ⟨by have := (hc j hj).isSome i (by rw [ecl_len (hm.exts.get j hj)]; rw [ecl_size hk] at hi; exact hi); rwa [Nat.zero_add] at this, (hm.own g 0 rfl).2.2 _⟩
  refine wpList_store_mid hgd 75 x y ho g (j * 9) (ecl e).toArray hx hy hth (by rw [ecl_size hk]; exact size32) (all_oneCell_toArray (ecl_one e)) ?_
  have hp := hm.put j 0 (ecl e) e hj (by rw [ecl_len hk]; omega) hk (splice_all (hm.exts.get j hj) hk)
  rw [show 0 + j * 9 + 0 = j * 9 by omega] at hp
  exact h _ hp (only_setCells _ _ _ _)


set_option maxRecDepth 100000 in
set_option maxHeartbeats 2000000 in
theorem filled_any (A : Option Addr) (n c : Nat) (L : List Ex) (p q : Int) (w : World) (h : Exts w A n c L) (hu : Up L) (hn : n ≤ 10000) (p0 : 0 ≤ p) (pq : p < q) (q1 : q ≤ 1099511627776) (f l : Int) (m : Nat) (hf : p / 8 = f) (hl : (q - 1) / 8 = l) (hm : l = f + (m : Int) - 1) (hm5 : m ≤ 10000) (M : List Ex) (hM : fil L f l m = M) :
    Calls Tryz.prog 120 #[.slice A n c, .int .i64 p, .int .i64 q] w (ListPost M w) := by
  have H := Lib.hid h; have HU := Lib.hid hu; have HM := Lib.hid hM; have HML := Lib.hid hm
  have hmx := h.max
  have f0 : 0 ≤ f := by omega
  have fl : f ≤ l := by omega
  have l1 : l ≤ 137438953471 := by omega
  have hq0 : 0 ≤ q - 1 := by omega
  have m0 : 0 < m := by omega
  have hC : l - f + 1 = (m : Int) := by omega
  clear h hu hM hm
  go_enter Tryz.func120, Tryz.ntmps120
  go_wp2_with fail
  obtain ⟨a, ha⟩ : ∃ a, idx L f = a := ⟨_, rfl⟩
  obtain ⟨y, hy⟩ : ∃ y, (look L f).isSome = y := ⟨_, rfl⟩
  have HA := Lib.hid ha; have HY := Lib.hid hy
  clear ha hy
  refine (find_any A n c L f _ H.out HU.out (by omega) a y HA.out HY.out).mono ?_
  rintro e w1 ⟨rfl, k1⟩
  have K1 := Lib.hid k1
  clear k1
  go_wp2_with fail
  obtain ⟨b, hb⟩ : ∃ b, idx L (l + 1) = b := ⟨_, rfl⟩
  obtain ⟨y', hy'⟩ : ∃ y', (look L (l + 1)).isSome = y' := ⟨_, rfl⟩
  have HB := Lib.hid hb; have HY' := Lib.hid hy'
  clear hb hy'
  refine (find_any A n c L (l + 1) _ (H.out.on K1.out) HU.out (by omega) b y' HB.out HY'.out).mono ?_
  rintro e w2 ⟨rfl, k2⟩
  have K2 := Lib.hid (K1.out.trans (k2.mono K1.out.size))
  clear k2 K1
  have hab : a ≤ b := by rw [← HA.out, ← HB.out]; exact idx_mono HU.out (by omega)
  have hbn : b ≤ n := by rw [← HB.out, ← H.out.len]; exact idx_le _ _
  go_wp2_with (refine st_makex rfl _ _ rfl _ m rfl rfl (by first | rfl | exact hC) m0 (by omega) ?_; intro g w3 m3 k3; rw [← blk0_zero f m] at m3; have M3 := Lib.hid m3; have K3 := Lib.hid (K2.out.trans (k3.mono K2.out.size)); have HG := Lib.hid (show w.heap.size ≤ g from Nat.le_trans K2.out.size (m3.own g 0 rfl).1); clear m3 k3)
  go_loopw [42] (fun i wr => ∃ j : Nat, j ≤ m ∧ i = .int .i64 j ∧ Hid (Mut w2.heap.size wr (some ⟨g, 0, none⟩) m m (blk0 f m j)) ∧ Hid (Below w.heap.size w wr)) (fun i _ => m - (intOf i).toNat)
  case atStart => exact ⟨0, Nat.zero_le _, rfl, M3.out, K3.out⟩
  case round =>
    clear M3 K3
    obtain ⟨j, hj, rfl, M4, K4⟩ := hrel
    by_cases hlt : j < m
    · have cn := M4.out.exts.no j hlt
      have fz := (M4.out.own g 0 rfl).2.2 (0 + j * 9)
      rw [Nat.zero_add] at cn fz
      have hji : (j : Int) < (m : Int) := by omega
      have HP := Lib.hid (show Mut w2.heap.size (wr.setCell ⟨g, j * 9, none⟩ (.int .i64 (f + (j : Int)))) (some ⟨g, 0, none⟩) m m (blk0 f m (j + 1)) by
        have hbs : ((blk0 f m j).getD j default).bs = nul8 := by simp [blk0, List.getD_eq_getElem?_getD, hlt]
        have hp := M4.out.put j 0 [.int .i64 (f + (j : Int))] ⟨f + (j : Int), nul8⟩ hlt (by simp) (ok_nul _) (by rw [← splice_no, hbs])
        rw [blk0_set, show 0 + j * 9 + 0 = j * 9 by omega] at hp
        exact hp)
      have HPo := Lib.hid (show Only (fun d => d = g) wr (wr.setCell ⟨g, j * 9, none⟩ (.int .i64 (f + (j : Int)))) from (Only.refl (fun d => d = g) wr).setCell ⟨g, j * 9, none⟩ (fun _ => rfl) _)
      go_wp2
      go_roundw
      case rel => exact ⟨j + 1, by omega, by go_num, HP.out, K4.out.trans (HPo.out.below K4.out.size (fun d hd => by have := HG.out; omega))⟩
      case measure => simp [intOf]; omega
    · obtain rfl : j = m := by omega
      have M5 := M4.out
      rw [blk0_full] at M5
      have M6 := Lib.hid M5
      clear M5 M4
      obtain ⟨A2, c2, hs2, hx2⟩ := cut_lh H.out a b hab hbn
      have HS2 := Lib.hid (show seg L f l = (L.drop a).take (b - a) by rw [seg, HA.out, HB.out])
      rw [← HS2.out] at hx2
      have HX2 := Lib.hid hx2
      have hkl : b - a ≤ 9223372036854775807 := by omega
      clear hx2
      go_wp2
      go_loopw [58] (fun i wr => ∃ k : Nat, k ≤ b - a ∧ i = .int .i64 k ∧ Hid (Mut w2.heap.size wr (some ⟨g, 0, none⟩) j j (blk f j ((seg L f l).take k))) ∧ Hid (Below w.heap.size w wr)) (fun i _ => (b - a) - (intOf i).toNat)
      case atStart => exact ⟨0, Nat.zero_le _, rfl, M6.out, K4.out⟩
      case round =>
        clear M6 K4
        obtain ⟨k, hk, rfl, M7, K7⟩ := hrel
        by_cases hlt : k < b - a
        · obtain ⟨sb, so, rfl, hsb, hsc⟩ := HX2.out.cells (by omega)
          have hsl : k < (seg L f l).length := by rw [HX2.out.len]; exact hlt
          have HE := Lib.hid (HX2.out.get k hlt)
          have hmem : (seg L f l).getD k default ∈ seg L f l := by rw [getD_eq hsl]; exact List.getElem_mem hsl
          have hno := seg_no HU.out fl hmem
          have HT := Lib.hid (show (seg L f l).take (k + 1) = (seg L f l).take k ++ [(seg L f l).getD k default] by
            rw [List.take_add_one, List.getElem?_eq_getElem hsl, getD_eq hsl]; rfl)
          have HDI := Lib.hid (show ∀ x ∈ (seg L f l).take k, x.no ≠ ((seg L f l).getD k default).no from fun x hx => by
            obtain ⟨i, hi, rfl⟩ := List.mem_iff_getElem.1 hx
            rw [List.length_take] at hi
            have := up_lt (up_seg HU.out f l) i k (by omega) hsl
            rw [getD_eq (by omega)] at this
            rw [List.getElem_take]
            omega)
          have HR := Lib.hid (show wr.rangeAt sb (so + k * 9) (ecl ((seg L f l).getD k default)) from fun i v hv => (K7.out.cell (p := ⟨sb, so + k * 9 + i, none⟩) hsb).trans (hsc k hlt i v hv))
          generalize (seg L f l).getD k default = e at *
          obtain ⟨no, hnn⟩ : ∃ no, e.no = no := ⟨_, rfl⟩
          obtain ⟨t, ht⟩ : ∃ t : Nat, no - f = (t : Int) := ⟨(no - f).toNat, by omega⟩
          have HN := Lib.hid hnn
          have HTl := Lib.hid (show t < j by have := HML.out; rw [hnn] at hno; omega)
          have HTn := Lib.hid (show e.no = f + (t : Int) by omega)
          have hki : (k : Int) < ((b - a : Nat) : Int) := by omega
          have htj : (t : Int) < (j : Int) := by have := HTl.out; omega
          have HBS := Lib.hid (blk_set (f := f) (m := j) t HTl.out HTn.out HDI.out)
          clear hnn hmem hno hsl hsc
          go_wp2_with (first | (refine st_loadx rfl _ rfl sb (so + k * 9) rfl e HR.out HE.out ?_) | (refine st_allocx rfl rfl ?_; intro b1 w8 hb1 x1 k1; have X1 := Lib.hid x1; have K8 := Lib.hid k1; clear x1 k1) | (refine st_storev rfl _ _ rfl b1 rfl e rfl HE.out _ X1.out ?_; intro w9 x2 o2 s2; have X2 := Lib.hid x2; have K9 := Lib.hid (K8.out.trans (o2.below K8.out.size (fun d hd => by omega))); clear x2 o2 s2; have d0 := X2.out.no; rw [HN.out] at d0) | (refine st_loadx rfl _ rfl b1 0 rfl e X2.out.range HE.out ?_) | (refine st_storem rfl _ _ rfl w2.heap.size g j j _ t HTl.out rfl e rfl HE.out (M7.out.on K9.out) ?_; intro w10 m10 o10; rw [HBS.out, ← HT.out] at m10; have M10 := Lib.hid m10; have K10 := Lib.hid ((K7.out.trans (K9.out.mono K7.out.size)).trans (o10.below (Nat.le_trans K7.out.size K9.out.size) (fun d hd => by have := HG.out; omega))); clear m10 o10))
          go_roundw
          case rel => exact ⟨k + 1, by omega, by go_num, M10.out, K10.out⟩
          case measure => simp [intOf]; omega
        · obtain rfl : k = b - a := by omega
          have hM7 := M7.out
          rw [List.take_of_length_le (Nat.le_of_eq HX2.out.len)] at hM7
          obtain ⟨A3, c3, hs3, hx3⟩ := cut_h H.out a (by omega)
          obtain ⟨A4, c4, hs4, hx4⟩ := cut_l H.out b hbn
          have hLL : L.take a ++ blk f j (seg L f l) ++ L.drop b = M := by rw [← HM.out, fil, HA.out, HB.out]
          obtain ⟨WA, hWA⟩ : ∃ WA, (wr.alloc (.cells #[.slice A3 a c3, .slice (some ⟨g, 0, none⟩) j j, .slice A4 (n - b) c4] 30)).drew = WA := ⟨_, rfl⟩
          have KA : Below wr.heap.size wr WA := by rw [← hWA]; exact ((Below.refl _ _).alloc (Nat.le_refl _) _).drew
          have KW := K7.out.trans (KA.mono K7.out.size)
          have RW : Row WA wr.heap.size 30 #[.slice A3 a c3, .slice (some ⟨g, 0, none⟩) j j, .slice A4 (n - b) c4] := by rw [← hWA]; exact Row.new wr 30 _
          have CC := Lib.hid (concat_any wr.heap.size A3 a c3 (L.take a) (some ⟨g, 0, none⟩) j j (blk f j (seg L f l)) A4 (n - b) c4 (L.drop b) WA RW (hx3.on KW) (hM7.on KA).exts (hx4.on KW) (by omega) (by omega) (by omega) M hLL)
          have HWA := Lib.hid hWA
          have HKW := Lib.hid KW
          clear hWA KA RW KW hLL hM7 hx3 hx4
          go_wp2
          go_region_with (rw [HWA.out]; go_at_call 128; refine CC.out.mono ?_; rintro e' w11 ⟨A', c', rfl, hm11, k11⟩; have M11 := Lib.hid (hm11.weak HKW.out.size); have K11 := Lib.hid (HKW.out.trans (k11.mono HKW.out.size)); clear hm11 k11)
          all_goals
            go_wp2
            go_ret
            exact ⟨A', c', rfl, M11.out, K11.out⟩
end Go.Proofs.YtgaaieipeiekiaaGreat

namespace Go.Proofs.YtgaaieipeiekiaaGreat
open Go.RowKit
set_option maxRecDepth 100000

def asz (s : Int) (p k : Int) (keep : Bool) : Int := if keep = true then s else max s (p + k)
def alo (L : List Ex) (p k : Int) : List Ex := fil L (p / 8) ((p + k - 1) / 8) ((p + k - 1) / 8 - p / 8 + 1).toNat

set_option maxRecDepth 100000 in
set_option maxHeartbeats 4000000 in
theorem alloc_any (s : Int) (A : Option Addr) (n c : Nat) (L : List Ex) (p k : Int) (keep : Bool) (w : World) (h : Exts w A n c L) (hn : n ≤ 10000) (z : Bool) (hz : ((eo p k).isSome && decide (1 ≤ k) && decide (k ≤ 32768) && may s L) = z) :
    Calls Tryz.prog 110 #[ct s A n c, .int .i64 p, .int .i64 k, .bool keep] w (CtPost z (if z = true then asz s p k keep else 0) (fun M => M = if z = true then alo L p k else []) w) := by
  have D0 := Lib.hid (duo_new w s A n c)
  have H := Lib.hid h
  have HZ := Lib.hid hz
  clear h hz
  show Calls Tryz.prog 110 #[.agg #[.int .i64 s, .slice A n c], .int .i64 p, .int .i64 k, .bool keep] w _
  go_enter Tryz.func110, Tryz.ntmps110
  go_wp2_with fail
  obtain ⟨d, hd⟩ : ∃ d, eo p k = d := ⟨_, rfl⟩
  have HD := Lib.hid hd
  clear hd
  refine (end_any p k _ d HD.out).mono ?_
  rintro e w1 ⟨rfl, k1⟩
  have D1 := Lib.hid (D0.out.on k1)
  clear k1 D0
  have c0 := D1.out.b0.c0; have c1 := D1.out.b0.c1; have d0 := D1.out.b1.c0; have d1 := D1.out.b1.c1; have f0 := D1.out.b1.f0; have f1 := D1.out.b1.f1
  cases d with
  | none =>
    have hzy : false = z := by rw [← HZ.out, HD.out]; rfl
    subst hzy
    simp only [Option.getD_none, Option.isSome_none]
    go_wp2
    refine res_box2 rfl (w.heap.size + 1) 0 none 0 0 rfl D1.out.none.1 rfl ?_
    exact ⟨none, 0, 0, [], rfl, rfl, D1.out.none.2.1, D1.out.none.2.2⟩
  | some t =>
    obtain ⟨p0, k0, rfl, t1⟩ := eo_some HD.out
    simp only [Option.getD_some, Option.isSome_some]
    by_cases q1 : 1 ≤ k
    · by_cases q2 : k ≤ 32768
      · go_wp2_with fail
        obtain ⟨y, hy⟩ : ∃ y, may s L = y := ⟨_, rfl⟩
        have HY := Lib.hid hy
        have HZY := Lib.hid (show y = z by rw [← HZ.out, HD.out, hy]; simp [q1, q2])
        clear hy
        refine (may_any s A n c L _ (H.out.on D1.out.below) y HY.out).mono ?_
        rintro e w2 ⟨rfl, k2⟩
        have D2 := Lib.hid (D1.out.on k2)
        clear k2 c0 c1 d0 d1 f0 f1 D1
        have c0 := D2.out.b0.c0; have c1 := D2.out.b0.c1; have d0 := D2.out.b1.c0; have d1 := D2.out.b1.c1; have f0 := D2.out.b1.f0; have f1 := D2.out.b1.f1
        have hzy := HZY.out
        subst hzy
        cases y with
        | false =>
          go_wp2
          refine res_box2 rfl (w.heap.size + 1) 0 none 0 0 rfl D2.out.none.1 rfl ?_
          exact ⟨none, 0, 0, [], rfl, rfl, D2.out.none.2.1, D2.out.none.2.2⟩
        | true =>
          have HG := Lib.hid ((may_iff s L).1 HY.out)
          obtain ⟨M, hM⟩ : ∃ M, alo L p k = M := ⟨_, rfl⟩
          have HMM := Lib.hid hM
          have CF := Lib.hid (fun W hW => filled_any A n c L p (p + k) W (H.out.on hW) HG.out.up hn p0 (by omega) t1 (p / 8) ((p + k - 1) / 8) ((p + k - 1) / 8 - p / 8 + 1).toNat rfl rfl (by omega) (by omega) M hM)
          clear hM
          have hs0 := HG.out.s0; have hs1 := HG.out.s1
          cases keep with
          | true =>
            have HV := Lib.hid (show asz s p k true = s by simp [asz])
            by_cases g : s < p + k
            · go_wp2_with fail
              refine (CF.out _ D2.out.below).mono ?_
              rintro e w3 ⟨A', c', rfl, hm, k3⟩
              have D3 := Lib.hid (D2.out.on k3); have HM3 := Lib.hid hm
              clear k3 hm c0 c1 d0 d1 f0 f1
              have c0 := D3.out.b0.c0; have c1 := D3.out.b0.c1; have d0 := D3.out.b1.c0; have d1 := D3.out.b1.c1; have f0 := D3.out.b1.f0; have f1 := D3.out.b1.f1
              go_wp2
              all_goals
                have X := D3.out.done s HM3.out D2.out.size
                refine res_box2 rfl (w.heap.size + 1) s A' _ c' rfl X.1 rfl ?_
                exact ⟨A', _, c', M, by rw [HV.out]; rfl, by first | (rw [HMM.out]; done) | (rw [HMM.out]; rfl), X.2.1, X.2.2⟩
            · have g' : p + k ≤ s := by omega
              go_wp2_with fail
              refine (CF.out _ D2.out.below).mono ?_
              rintro e w3 ⟨A', c', rfl, hm, k3⟩
              have D3 := Lib.hid (D2.out.on k3); have HM3 := Lib.hid hm
              clear k3 hm c0 c1 d0 d1 f0 f1
              have c0 := D3.out.b0.c0; have c1 := D3.out.b0.c1; have d0 := D3.out.b1.c0; have d1 := D3.out.b1.c1; have f0 := D3.out.b1.f0; have f1 := D3.out.b1.f1
              go_wp2
              all_goals
                have X := D3.out.done s HM3.out D2.out.size
                refine res_box2 rfl (w.heap.size + 1) s A' _ c' rfl X.1 rfl ?_
                exact ⟨A', _, c', M, by rw [HV.out]; rfl, by first | (rw [HMM.out]; done) | (rw [HMM.out]; rfl), X.2.1, X.2.2⟩
          | false =>
            by_cases g : s < p + k
            · have HV := Lib.hid (show asz s p k false = p + k by simp [asz]; omega)
              go_wp2_with fail
              refine (CF.out _ D2.out.below).mono ?_
              rintro e w3 ⟨A', c', rfl, hm, k3⟩
              have D3 := Lib.hid (D2.out.on k3); have HM3 := Lib.hid hm
              clear k3 hm c0 c1 d0 d1 f0 f1
              have c0 := D3.out.b0.c0; have c1 := D3.out.b0.c1; have d0 := D3.out.b1.c0; have d1 := D3.out.b1.c1; have f0 := D3.out.b1.f0; have f1 := D3.out.b1.f1
              go_wp2
              all_goals
                have X := D3.out.done (p + k) HM3.out D2.out.size
                refine res_box2 rfl (w.heap.size + 1) (p + k) A' _ c' rfl X.1 rfl ?_
                exact ⟨A', _, c', M, by rw [HV.out]; rfl, by first | (rw [HMM.out]; done) | (rw [HMM.out]; rfl), X.2.1, X.2.2⟩
            · have g' : p + k ≤ s := by omega
              have HV := Lib.hid (show asz s p k false = s by simp [asz]; omega)
              go_wp2_with fail
              refine (CF.out _ D2.out.below).mono ?_
              rintro e w3 ⟨A', c', rfl, hm, k3⟩
              have D3 := Lib.hid (D2.out.on k3); have HM3 := Lib.hid hm
              clear k3 hm c0 c1 d0 d1 f0 f1
              have c0 := D3.out.b0.c0; have c1 := D3.out.b0.c1; have d0 := D3.out.b1.c0; have d1 := D3.out.b1.c1; have f0 := D3.out.b1.f0; have f1 := D3.out.b1.f1
              go_wp2
              all_goals
                have X := D3.out.done s HM3.out D2.out.size
                refine res_box2 rfl (w.heap.size + 1) s A' _ c' rfl X.1 rfl ?_
                exact ⟨A', _, c', M, by rw [HV.out]; rfl, by first | (rw [HMM.out]; done) | (rw [HMM.out]; rfl), X.2.1, X.2.2⟩
      · have hzy : false = z := by rw [← HZ.out]; simp [q2]
        subst hzy
        go_wp2
        refine res_box2 rfl (w.heap.size + 1) 0 none 0 0 rfl D1.out.none.1 rfl ?_
        exact ⟨none, 0, 0, [], rfl, rfl, D1.out.none.2.1, D1.out.none.2.2⟩
    · have hzy : false = z := by rw [← HZ.out]; simp [q1]
      subst hzy
      go_wp2
      refine res_box2 rfl (w.heap.size + 1) 0 none 0 0 rfl D1.out.none.1 rfl ?_
      exact ⟨none, 0, 0, [], rfl, rfl, D1.out.none.2.1, D1.out.none.2.2⟩
end Go.Proofs.YtgaaieipeiekiaaGreat

namespace Go.Proofs.YtgaaieipeiekiaaGreat

theorem ext8 {a b : List Int} (ha : a.length = 8) (hb : b.length = 8) (h : ∀ i, i < 8 → a.getD i 0 = b.getD i 0) : a = b := by
  apply List.ext_getElem?
  intro i
  by_cases hi : i < 8
  · have := h i hi
    rw [List.getD_eq_getElem?_getD, List.getD_eq_getElem?_getD, List.getElem?_eq_getElem (by omega), List.getElem?_eq_getElem (by omega)] at this
    rw [List.getElem?_eq_getElem (by omega), List.getElem?_eq_getElem (by omega)]
    simpa using this
  · rw [List.getElem?_eq_none (by omega), List.getElem?_eq_none (by omega)]
theorem wbytes_len (L : List Ex) (p : Int) (b : List Int) (k : Int) : (wbytes L p b k).length = 8 := by simp [wbytes]
theorem take_get (b : List Int) (d q : Nat) (h : q < d) : (b.take d).getD q 0 = b.getD q 0 := by
  rw [List.getD_eq_getElem?_getD, List.getD_eq_getElem?_getD, List.getElem?_take_of_lt h]
/-- b's first d bytes stand from p on; all its blocks are there. -/
def glook (L : List Ex) (p : Int) (b : List Int) (d : Nat) (k : Int) : Option (List Int) := if p / 8 ≤ k ∧ k ≤ (p + (b.length : Int) - 1) / 8 then some (wbytes L p (b.take d) k) else look L k
theorem glook_zero {L : List Ex} (hok : ∀ e ∈ L, e.ok) (p : Int) (b : List Int) (k : Int) : glook L p b 0 k = flook L (p / 8) ((p + (b.length : Int) - 1) / 8) k := by
  unfold glook flook
  by_cases h : p / 8 ≤ k ∧ k ≤ (p + (b.length : Int) - 1) / 8
  · rw [if_pos h, if_pos h]
    congr 1
    refine ext8 (wbytes_len _ _ _ _) ?_ (fun i hi => ?_)
    · cases hl : look L k with
      | none => rfl
      | some bs => exact (hok _ (look_some hl)).1
    · rw [wbytes_get _ _ _ _ _ hi, if_neg (by simp)]
      have h1 : (k * 8 + (i : Int)) / 8 = k := by omega
      have h2 : ((k * 8 + (i : Int)) % 8).toNat = i := by omega
      rw [at_, h1, h2]
      cases look L k with
      | none => exact (nul8_get i).symm
      | some bs => rfl
  · rw [if_neg h, if_neg h]
theorem glook_full (L : List Ex) (p : Int) (b : List Int) (k : Int) : glook L p b b.length k = wlook L p b k := by
  unfold glook wlook; rw [List.take_length]
theorem wbytes_other (L : List Ex) (p : Int) (b : List Int) (d t : Nat) (k k' : Int) (hdt : d + t ≤ b.length) (hk : (p + (d : Int)) / 8 = k) (ht : (p + (d : Int)) % 8 + (t : Int) ≤ 8) (hne : k' ≠ k) : wbytes L p (b.take (d + t)) k' = wbytes L p (b.take d) k' := by
  refine ext8 (wbytes_len _ _ _ _) (wbytes_len _ _ _ _) (fun i hi => ?_)
  rw [wbytes_get _ _ _ _ _ hi, wbytes_get _ _ _ _ _ hi]
  simp only [List.length_take, Nat.min_eq_left hdt, Nat.min_eq_left (show d ≤ b.length by omega)]
  by_cases h1 : p ≤ k' * 8 + (i : Int) ∧ k' * 8 + (i : Int) < p + (d : Int)
  · rw [if_pos (by omega), if_pos h1, take_get _ _ _ (by omega), take_get _ _ _ (by omega)]
  · rw [if_neg (by omega), if_neg h1]
theorem wbytes_same (L : List Ex) (p : Int) (b : List Int) (d t r : Nat) (k : Int) (hdt : d + t ≤ b.length) (hk : (p + (d : Int)) / 8 = k) (hr : (p + (d : Int)) % 8 = (r : Int)) (ht : r + t ≤ 8) : splice (wbytes L p (b.take d) k) r ((b.drop d).take t) = wbytes L p (b.take (d + t)) k := by
  have hl : ((b.drop d).take t).length = t := by simp; omega
  refine ext8 (by rw [length_splice _ _ _ (by rw [hl, wbytes_len]; omega), wbytes_len]) (wbytes_len _ _ _ _) (fun i hi => ?_)
  rw [wbytes_get _ _ _ _ _ hi]
  simp only [List.length_take, Nat.min_eq_left hdt]
  unfold splice
  rw [List.getD_eq_getElem?_getD]
  by_cases i1 : i < r
  · rw [List.getElem?_append_left (by rw [List.length_take, wbytes_len]; omega), List.getElem?_take_of_lt i1, ← List.getD_eq_getElem?_getD, wbytes_get _ _ _ _ _ hi]
    simp only [List.length_take, Nat.min_eq_left (show d ≤ b.length by omega)]
    by_cases h1 : p ≤ k * 8 + (i : Int) ∧ k * 8 + (i : Int) < p + (d : Int)
    · rw [if_pos h1, if_pos (by omega), take_get _ _ _ (by omega), take_get _ _ _ (by omega)]
    · rw [if_neg h1, if_neg (by omega)]
  · by_cases i2 : i < r + t
    · rw [if_pos (by omega), List.getElem?_append_right (by rw [List.length_take, wbytes_len]; omega), List.getElem?_append_left (by rw [hl, List.length_take, wbytes_len]; omega), List.length_take, wbytes_len, Nat.min_eq_left (by omega), List.getElem?_take_of_lt (by omega), List.getElem?_drop, take_get _ _ _ (by omega), List.getD_eq_getElem?_getD]
      congr 2
      omega
    · rw [List.getElem?_append_right (by rw [List.length_take, wbytes_len]; omega), List.getElem?_append_right (by rw [hl, List.length_take, wbytes_len]; omega), List.getElem?_drop, hl, List.length_take, wbytes_len, Nat.min_eq_left (by omega), show r + t + (i - r - t) = i by omega, ← List.getD_eq_getElem?_getD, wbytes_get _ _ _ _ _ hi]
      simp only [List.length_take, Nat.min_eq_left (show d ≤ b.length by omega)]
      rw [if_neg (by omega)]
      rw [if_neg (by omega)]
theorem look_set {M : List Ex} (hu : Up M) (j : Nat) (e : Ex) (hj : j < M.length) (hn : (M.getD j default).no = e.no) (k : Int) : look (M.set j e) k = if e.no = k then some e.bs else look M k := by
  induction M generalizing j with
  | nil => simp at hj
  | cons a M ih =>
    cases j with
    | zero =>
      have h0 : a.no = e.no := by simpa using hn
      rw [List.set_cons_zero, look, look, h0]
      by_cases hk : e.no = k
      · rw [if_pos hk, if_pos hk]
      · rw [if_neg hk, if_neg hk, if_neg hk]
    | succ j =>
      have hn' : (M.getD j default).no = e.no := by simpa using hn
      have hj' : j < M.length := by simpa using hj
      have hlt := up_head hu (M.getD j default) (by rw [getD_eq hj']; exact List.getElem_mem hj')
      rw [List.set_cons_succ, look, look, ih (up_tail hu) j hj' hn']
      by_cases hk : e.no = k
      · rw [if_neg (by omega), if_pos hk, if_pos hk]
      · rw [if_neg hk, if_neg hk]
theorem set_nos (M : List Ex) (j : Nat) (e : Ex) (hn : (M.getD j default).no = e.no) : (M.set j e).map (·.no) = M.map (·.no) := by
  apply List.ext_getElem?
  intro i
  rw [List.map_set]
  by_cases hij : i = j
  · subst hij
    by_cases hi : i < M.length
    · rw [List.getElem?_set_self (by simpa using hi), List.getElem?_map, List.getElem?_eq_getElem hi, Option.map_some, ← hn, getD_eq hi]
    · rw [List.getElem?_eq_none (by simp; omega), List.getElem?_eq_none (by simp; omega)]
  · rw [List.getElem?_set_ne (fun h => hij h.symm)]
theorem up_set {M : List Ex} (hu : Up M) (j : Nat) (e : Ex) (hn : (M.getD j default).no = e.no) : Up (M.set j e) := by
  unfold Up at *
  rw [← List.pairwise_map (f := fun (e : Ex) => e.no) (R := fun a b => a < b)] at hu ⊢
  rw [set_nos M j e hn]
  exact hu
theorem idx_nos : ∀ (L M : List Ex) (k : Int), L.map (·.no) = M.map (·.no) → idx L k = idx M k
  | [], [], _, _ => rfl
  | [], _ :: _, _, h => by cases h
  | _ :: _, [], _, h => by cases h
  | a :: L, b :: M, k, h => by
    simp only [List.map_cons, List.cons.injEq] at h
    rw [idx, idx, h.1, idx_nos L M k h.2]
theorem idx_succ {M : List Ex} (hu : Up M) {k : Int} (h : look M k ≠ none) : idx M (k + 1) = idx M k + 1 ∧ idx M k < M.length ∧ (M.getD (idx M k) default).no = k := by
  have h1 := look_idx hu k
  by_cases hc : idx M k < M.length ∧ (M.getD (idx M k) default).no = k
  · refine ⟨idx_unique (by omega) (fun j hj => ?_) (fun hj => ?_), hc⟩
    · by_cases hjk : j = idx M k
      · rw [hjk, hc.2]; omega
      · have := idx_lt M k j (by omega); omega
    · have := up_lt hu (idx M k) (idx M k + 1) (by omega) hj; omega
  · rw [if_neg hc] at h1; exact absurd h1 h
theorem run_pos {M : List Ex} (hu : Up M) {f : Int} {m : Nat} (h : ∀ i : Nat, i < m → look M (f + (i : Int)) ≠ none) (i : Nat) (hi : i < m) : idx M f + i < M.length ∧ (M.getD (idx M f + i) default).no = f + (i : Int) := by
  have key : ∀ i : Nat, i < m → idx M (f + (i : Int)) = idx M f + i := by
    intro i
    induction i with
    | zero => intro _; simp
    | succ i ih =>
      intro hi
      have h1 := (idx_succ hu (h i (by omega))).1
      rw [show f + ((i + 1 : Nat) : Int) = f + (i : Int) + 1 by omega, h1, ih (by omega)]
      omega
  have h2 := idx_succ hu (h i hi)
  rw [key i hi] at h2
  exact ⟨h2.2.1, h2.2.2⟩
end Go.Proofs.YtgaaieipeiekiaaGreat
