/- Contract of extent's filled. -/
import Derived.Test.YtigfimlpjmmpoaaWalksK
import Derived.Test.YtigfimlpjmmpoaaWalksB
import Derived.Test.YtigfimlpjmmpoaaSpecD
import Derived.WalkKit
import Derived.WalkSpells
import Derived.WalkLawsBesides
import Derived.Lib.Hide
import Derived.BigQuiet
import Derived.Deep.RegionWith
namespace Go.Proofs.Ytigfimlpjmmpoaa
open Go.RowKit

/-- One of the blocks turned, cells put into it. -/
theorem Mut.put {B : Nat} {w : World} {g o n c : Nat} {L : List Ex} (h : Mut B w (some ⟨g, o, none⟩) n c L) (j p : Nat) (vs : List Value) (e' : Ex) (hj : j < n) (hp : p + vs.length ≤ 9) (ho : e'.ok) (he : ecl e' = splice (ecl (L.getD j default)) p vs) :
    Mut B (w.setCells g (o + j * 9 + p) vs) (some ⟨g, o, none⟩) n c (L.set j e') := by
  have hx := h.exts.put j p vs e' hj hp ho he
  refine ⟨hx, fun g' o' ha => ?_⟩
  injection ha with ha; injection ha with e1 e2; subst e1 e2
  obtain ⟨h1, h2, h3⟩ := h.own g o rfl
  exact ⟨h1, Nat.lt_of_lt_of_le h2 (only_setCells w g _ vs).size, fun k => by rw [World.frozen?_setCells]; exact h3 k⟩
theorem makes_cells (m : Nat) : (madeCells (ecl ⟨0, nul8⟩).toArray (m * 9)).toList = exCells (List.replicate m ⟨0, nul8⟩) := by
  have hok : ∀ e ∈ List.replicate m (Ex.mk 0 nul8), e.ok := fun e he => by rw [List.eq_of_mem_replicate he]; exact ok_nul 0
  apply List.ext_getElem?
  intro i
  by_cases h : i < m * 9
  · have h2 := exCells_at (List.replicate m ⟨0, nul8⟩) hok (i / 9) (by simp; omega) (i % 9) (by omega)
    rw [show i / 9 * 9 + i % 9 = i by omega] at h2
    rw [h2, Array.getElem?_toList, madeCells, Array.getElem?_map, Array.getElem?_range, if_pos h]
    have h3 : (List.replicate m (Ex.mk 0 nul8)).getD (i / 9) default = ⟨0, nul8⟩ := by rw [List.getD_eq_getElem?_getD, List.getElem?_replicate, if_pos (by omega)]; rfl
    rw [h3, ecl_size (ok_nul 0), Option.map_some]
    have h4 : i % 9 < (ecl ⟨0, nul8⟩).toArray.size := by rw [ecl_size (ok_nul 0)]; omega
    rw [getElem!_pos (ecl ⟨0, nul8⟩).toArray (i % 9) h4]
    simp
  · rw [List.getElem?_eq_none (by simp [madeCells]; omega), List.getElem?_eq_none (by rw [exCells_len _ hok]; simp; omega)]
/-- make([]Ext, m). -/
theorem st_makex {w : World} {ops : Array Oper} {rest : List Oper} {o : Oper} {a : Act} {Q : Exit → Act → World → Prop} (hgd : o.guard = none) (l c : Operand) (ho : o.op = .makeSlice 22 l c) (C : Int) (m : Nat) (hl : a.eval l = .int .i64 C) (hc : a.eval c = .int .i64 C) (hC : C = (m : Int)) (hm0 : 0 < m) (hm : m ≤ 1000000)
    (hn : ∀ g w', Mut w.heap.size w' (some ⟨g, 0, none⟩) m m (List.replicate m ⟨0, nul8⟩) → Below w.heap.size w w' → wpList Try.prog ops Q rest (a.put o.dst (.slice (some ⟨g, 0, none⟩) m m)) w') :
    wpList Try.prog ops Q (o :: rest) a w := by
  obtain ⟨i0, hi, hz0, hz1, hz2⟩ := info_parts info32
  refine wpList_make_full (P := Try.prog) w hgd l c 22 ho w.heap.size 32 i0 _ 9 Try.underlying22 hi hz0 hz1 .i64 .i64 C C m hl hc hC hC (by rw [hz2]; omega) (by unfold maxLen; omega) (Nat.le_refl _) ?_
  intro w' h1 h2
  have hO : Own w.heap.size w' (.slice (some ⟨w.heap.size, 0, none⟩) m m) (List.replicate m ⟨0, nul8⟩) := by
    refine ⟨?_, fun e he => by rw [List.eq_of_mem_replicate he]; exact ok_nul 0⟩
    rw [List.length_replicate, ← makes_cells]
    exact h1
  obtain ⟨A, c', hv, hmm⟩ := hO.mut
  injection hv with e1 e2 e3
  rw [List.length_replicate] at hmm
  subst e1
  subst e3
  exact hn _ _ hmm ⟨h2.os, h2.tape, h2.output, h2.size, fun k hk => h2.block k hk (fun h => by cases h)⟩

theorem Mut.weak {B B' : Nat} {w : World} {A : Option Addr} {n c : Nat} {L : List Ex} (h : Mut B w A n c L) (hB : B' ≤ B) : Mut B' w A n c L :=
  ⟨h.exts, fun g o he => by obtain ⟨h1, h2⟩ := h.own g o he; exact ⟨Nat.le_trans hB h1, h2⟩⟩
/-- A block stored whole into such a slice. -/
theorem st_storem {w : World} {ops : Array Oper} {rest : List Oper} {o : Oper} {a : Act} {Q : Exit → Act → World → Prop} (hgd : o.guard = none) (x y : Operand) (ho : o.op = .store 32 x y) (B g n c : Nat) (L : List Ex) (j : Nat) (hj : j < n) (hx : a.eval x = .pointer (some ⟨g, j * 9, none⟩)) (e : Ex) (hy : a.eval y = ev e) (hk : e.ok)
    (hm : Mut B w (some ⟨g, 0, none⟩) n c L) (h : ∀ w1 : World, Mut B w1 (some ⟨g, 0, none⟩) n c (L.set j e) → Only (fun d => d = g) w w1 → wpList Try.prog ops Q rest (a.put o.dst undef) w1) : wpList Try.prog ops Q (o :: rest) a w := by
  obtain ⟨g', p', he, hg, hc⟩ := hm.exts.cells (by omega)
  injection he with he; injection he with e1 e2; subst e1 e2
  have hth : w.there g (j * 9) (ecl e).toArray.size := fun i hi => ⟨by have := (hc j hj).isSome i (by rw [ecl_len (hm.exts.get j hj)]; rw [ecl_size hk] at hi; exact hi); rwa [Nat.zero_add] at this, (hm.own g 0 rfl).2.2 _⟩
  refine wpList_store_mid hgd 32 x y ho g (j * 9) (ecl e).toArray hx hy hth (by rw [ecl_size hk]; exact size32) (all_oneCell_toArray (ecl_one e)) ?_
  have hp := hm.put j 0 (ecl e) e hj (by rw [ecl_len hk]; omega) hk (splice_all (hm.exts.get j hj) hk)
  rw [show 0 + j * 9 + 0 = j * 9 by omega] at hp
  exact h _ hp (only_setCells _ _ _ _)


set_option maxRecDepth 100000 in
set_option maxHeartbeats 2000000 in
theorem filled_any (A : Option Addr) (n c : Nat) (L : List Ex) (p q : Int) (w : World) (h : Exts w A n c L) (hu : Up L) (hn : n ≤ 10000) (p0 : 0 ≤ p) (pq : p < q) (q1 : q ≤ 1099511627776) (f l : Int) (m : Nat) (hf : p / 8 = f) (hl : (q - 1) / 8 = l) (hm : l = f + (m : Int) - 1) (hm5 : m ≤ 10000) (M : List Ex) (hM : fil L f l m = M) :
    Calls Try.prog 34 #[.slice A n c, .int .i64 p, .int .i64 q] w (ListPost M w) := by
  have H := Lib.hid h; have HU := Lib.hid hu; have HM := Lib.hid hM; have HML := Lib.hid hm
  have hmx := h.max
  have f0 : 0 ≤ f := by omega
  have fl : f ≤ l := by omega
  have l1 : l ≤ 137438953471 := by omega
  have hq0 : 0 ≤ q - 1 := by omega
  have m0 : 0 < m := by omega
  have hC : l - f + 1 = (m : Int) := by omega
  clear h hu hM hm
  go_enter Try.func34, Try.ntmps34
  go_wp2_with fail
  obtain ⟨a, ha⟩ : ∃ a, idx L f = a := ⟨_, rfl⟩
  obtain ⟨y, hy⟩ : ∃ y, (look L f).isSome = y := ⟨_, rfl⟩
  have HA := Lib.hid ha; have HY := Lib.hid hy
  clear ha hy
  refine (find_any A n c L f _ H.out HU.out (by omega) a y HA.out HY.out).mono ?_
  rintro e w1 ⟨rfl, k1⟩
  have K1 := Lib.hid k1
  clear k1
  go_wp2_with fail
  obtain ⟨b, hb⟩ : ∃ b, idx L (l + 1) = b := ⟨_, rfl⟩
  obtain ⟨y', hy'⟩ : ∃ y', (look L (l + 1)).isSome = y' := ⟨_, rfl⟩
  have HB := Lib.hid hb; have HY' := Lib.hid hy'
  clear hb hy'
  refine (find_any A n c L (l + 1) _ (H.out.on K1.out) HU.out (by omega) b y' HB.out HY'.out).mono ?_
  rintro e w2 ⟨rfl, k2⟩
  have K2 := Lib.hid (K1.out.trans (k2.mono K1.out.size))
  clear k2 K1
  have hab : a ≤ b := by rw [← HA.out, ← HB.out]; exact idx_mono HU.out (by omega)
  have hbn : b ≤ n := by rw [← HB.out, ← H.out.len]; exact idx_le _ _
  go_wp2_with (refine st_makex rfl _ _ rfl _ m rfl rfl (by first | rfl | exact hC) m0 (by omega) ?_; intro g w3 m3 k3; rw [← blk0_zero f m] at m3; have M3 := Lib.hid m3; have K3 := Lib.hid (K2.out.trans (k3.mono K2.out.size)); have HG := Lib.hid (show w.heap.size ≤ g from Nat.le_trans K2.out.size (m3.own g 0 rfl).1); clear m3 k3)
  go_loopw [42] (fun i wr => ∃ j : Nat, j ≤ m ∧ i = .int .i64 j ∧ Hid (Mut w2.heap.size wr (some ⟨g, 0, none⟩) m m (blk0 f m j)) ∧ Hid (Below w.heap.size w wr)) (fun i _ => m - (intOf i).toNat)
  case atStart => exact ⟨0, Nat.zero_le _, rfl, M3.out, K3.out⟩
  case round =>
    clear M3 K3
    obtain ⟨j, hj, rfl, M4, K4⟩ := hrel
    by_cases hlt : j < m
    · have cn := M4.out.exts.no j hlt
      have fz := (M4.out.own g 0 rfl).2.2 (0 + j * 9)
      rw [Nat.zero_add] at cn fz
      have hji : (j : Int) < (m : Int) := by omega
      have HP := Lib.hid (show Mut w2.heap.size (wr.setCell ⟨g, j * 9, none⟩ (.int .i64 (f + (j : Int)))) (some ⟨g, 0, none⟩) m m (blk0 f m (j + 1)) by
        have hbs : ((blk0 f m j).getD j default).bs = nul8 := by simp [blk0, List.getD_eq_getElem?_getD, hlt]
        have hp := M4.out.put j 0 [.int .i64 (f + (j : Int))] ⟨f + (j : Int), nul8⟩ hlt (by simp) (ok_nul _) (by rw [← splice_no, hbs])
        rw [blk0_set, show 0 + j * 9 + 0 = j * 9 by omega] at hp
        exact hp)
      have HPo := Lib.hid (show Only (fun d => d = g) wr (wr.setCell ⟨g, j * 9, none⟩ (.int .i64 (f + (j : Int)))) from (Only.refl (fun d => d = g) wr).setCell ⟨g, j * 9, none⟩ (fun _ => rfl) _)
      go_wp2
      go_roundw
      case rel => exact ⟨j + 1, by omega, by go_num, HP.out, K4.out.trans (HPo.out.below K4.out.size (fun d hd => by have := HG.out; omega))⟩
      case measure => simp [intOf]; omega
    · obtain rfl : j = m := by omega
      have M5 := M4.out
      rw [blk0_full] at M5
      have M6 := Lib.hid M5
      clear M5 M4
      obtain ⟨A2, c2, hs2, hx2⟩ := cut_lh H.out a b hab hbn
      have HS2 := Lib.hid (show seg L f l = (L.drop a).take (b - a) by rw [seg, HA.out, HB.out])
      rw [← HS2.out] at hx2
      have HX2 := Lib.hid hx2
      have hkl : b - a ≤ 9223372036854775807 := by omega
      clear hx2
      go_wp2
      go_loopw [58] (fun i wr => ∃ k : Nat, k ≤ b - a ∧ i = .int .i64 k ∧ Hid (Mut w2.heap.size wr (some ⟨g, 0, none⟩) j j (blk f j ((seg L f l).take k))) ∧ Hid (Below w.heap.size w wr)) (fun i _ => (b - a) - (intOf i).toNat)
      case atStart => exact ⟨0, Nat.zero_le _, rfl, M6.out, K4.out⟩
      case round =>
        clear M6 K4
        obtain ⟨k, hk, rfl, M7, K7⟩ := hrel
        by_cases hlt : k < b - a
        · obtain ⟨sb, so, rfl, hsb, hsc⟩ := HX2.out.cells (by omega)
          have hsl : k < (seg L f l).length := by rw [HX2.out.len]; exact hlt
          have HE := Lib.hid (HX2.out.get k hlt)
          have hmem : (seg L f l).getD k default ∈ seg L f l := by rw [getD_eq hsl]; exact List.getElem_mem hsl
          have hno := seg_no HU.out fl hmem
          have HT := Lib.hid (show (seg L f l).take (k + 1) = (seg L f l).take k ++ [(seg L f l).getD k default] by
            rw [List.take_add_one, List.getElem?_eq_getElem hsl, getD_eq hsl]; rfl)
          have HDI := Lib.hid (show ∀ x ∈ (seg L f l).take k, x.no ≠ ((seg L f l).getD k default).no from fun x hx => by
            obtain ⟨i, hi, rfl⟩ := List.mem_iff_getElem.1 hx
            rw [List.length_take] at hi
            have := up_lt (up_seg HU.out f l) i k (by omega) hsl
            rw [getD_eq (by omega)] at this
            rw [List.getElem_take]
            omega)
          have HR := Lib.hid (show wr.rangeAt sb (so + k * 9) (ecl ((seg L f l).getD k default)) from fun i v hv => (K7.out.cell (p := ⟨sb, so + k * 9 + i, none⟩) hsb).trans (hsc k hlt i v hv))
          generalize (seg L f l).getD k default = e at *
          obtain ⟨no, hnn⟩ : ∃ no, e.no = no := ⟨_, rfl⟩
          obtain ⟨t, ht⟩ : ∃ t : Nat, no - f = (t : Int) := ⟨(no - f).toNat, by omega⟩
          have HN := Lib.hid hnn
          have HTl := Lib.hid (show t < j by have := HML.out; rw [hnn] at hno; omega)
          have HTn := Lib.hid (show e.no = f + (t : Int) by omega)
          have hki : (k : Int) < ((b - a : Nat) : Int) := by omega
          have htj : (t : Int) < (j : Int) := by have := HTl.out; omega
          have HBS := Lib.hid (blk_set (f := f) (m := j) t HTl.out HTn.out HDI.out)
          clear hnn hmem hno hsl hsc
          go_wp2_with (first | (refine st_loadx rfl _ rfl sb (so + k * 9) rfl e HR.out HE.out ?_) | (refine st_allocx rfl rfl ?_; intro b1 w8 hb1 x1 k1; have X1 := Lib.hid x1; have K8 := Lib.hid k1; clear x1 k1) | (refine st_storev rfl _ _ rfl b1 rfl e rfl HE.out _ X1.out ?_; intro w9 x2 o2 s2; have X2 := Lib.hid x2; have K9 := Lib.hid (K8.out.trans (o2.below K8.out.size (fun d hd => by omega))); clear x2 o2 s2; have d0 := X2.out.no; rw [HN.out] at d0) | (refine st_loadx rfl _ rfl b1 0 rfl e X2.out.range HE.out ?_) | (refine st_storem rfl _ _ rfl w2.heap.size g j j _ t HTl.out rfl e rfl HE.out (M7.out.on K9.out) ?_; intro w10 m10 o10; rw [HBS.out, ← HT.out] at m10; have M10 := Lib.hid m10; have K10 := Lib.hid ((K7.out.trans (K9.out.mono K7.out.size)).trans (o10.below (Nat.le_trans K7.out.size K9.out.size) (fun d hd => by have := HG.out; omega))); clear m10 o10))
          go_roundw
          case rel => exact ⟨k + 1, by omega, by go_num, M10.out, K10.out⟩
          case measure => simp [intOf]; omega
        · obtain rfl : k = b - a := by omega
          have hM7 := M7.out
          rw [List.take_of_length_le (Nat.le_of_eq HX2.out.len)] at hM7
          obtain ⟨A3, c3, hs3, hx3⟩ := cut_h H.out a (by omega)
          obtain ⟨A4, c4, hs4, hx4⟩ := cut_l H.out b hbn
          have hLL : L.take a ++ blk f j (seg L f l) ++ L.drop b = M := by rw [← HM.out, fil, HA.out, HB.out]
          obtain ⟨WA, hWA⟩ : ∃ WA, (wr.alloc (.cells #[.slice A3 a c3, .slice (some ⟨g, 0, none⟩) j j, .slice A4 (n - b) c4] 22)).drew = WA := ⟨_, rfl⟩
          have KA : Below wr.heap.size wr WA := by rw [← hWA]; exact ((Below.refl _ _).alloc (Nat.le_refl _) _).drew
          have KW := K7.out.trans (KA.mono K7.out.size)
          have RW : Row WA wr.heap.size 22 #[.slice A3 a c3, .slice (some ⟨g, 0, none⟩) j j, .slice A4 (n - b) c4] := by rw [← hWA]; exact Row.new wr 22 _
          have CC := Lib.hid (concat_any wr.heap.size A3 a c3 (L.take a) (some ⟨g, 0, none⟩) j j (blk f j (seg L f l)) A4 (n - b) c4 (L.drop b) WA RW (hx3.on KW) (hM7.on KA).exts (hx4.on KW) (by omega) (by omega) (by omega) M hLL)
          have HWA := Lib.hid hWA
          have HKW := Lib.hid KW
          clear hWA KA RW KW hLL hM7 hx3 hx4
          go_wp2
          go_region_with (rw [HWA.out]; go_at_call 45; refine CC.out.mono ?_; rintro e' w11 ⟨A', c', rfl, hm11, k11⟩; have M11 := Lib.hid (hm11.weak HKW.out.size); have K11 := Lib.hid (HKW.out.trans (k11.mono HKW.out.size)); clear hm11 k11)
          all_goals
            go_wp2
            go_ret
            exact ⟨A', c', rfl, M11.out, K11.out⟩
end Go.Proofs.Ytigfimlpjmmpoaa
