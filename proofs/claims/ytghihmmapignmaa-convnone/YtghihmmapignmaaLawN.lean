/- The law ConvNone, walked. -/
import Derived.Test.YtghihmmapignmaaLawU
import Derived.WalkKit
import Derived.WalkSpells
import Derived.WalkLawsBesides
import Derived.Lib.Hide
import Derived.Deep.RegionHeld3
import Derived.Deep.DeepCutAuto
namespace Go.Proofs.Ytghihmmapignmaa
open Go.RowKit

def nU : Cf := ⟨false, false, false, false, true, false, false, false, 0⟩
def nL : Cf := ⟨false, false, false, true, false, false, false, false, 9⟩
theorem n_zero {z : List Int} (h : Are z) : Cf.zero.all z = z := by
  rw [all_plain rfl rfl]
  show mapL ids (mapL ids z) = z
  rw [map_ids h, map_ids h]
theorem n_upper {z : List Int} (h : Are z) : nU.all z = mapL upper z := by
  rw [all_plain rfl rfl]
  have e : mapL nU.t1 z = mapL upper z := by rw [map_t1 _ h]; rfl
  show mapL ids (mapL nU.t1 z) = mapL upper z
  rw [e, map_ids (mapL_are good_upper h)]
theorem n_lower {z : List Int} (h : Are z) : nL.all z = mapL lower z := by
  rw [all_plain rfl rfl]
  have e : mapL nL.t1 z = mapL lower z := by rw [map_t1 _ h]; rfl
  show mapL ids (mapL nL.t1 z) = mapL lower z
  rw [e, map_ids (mapL_are good_lower h)]

/-- A list, and an empty one, in a slice just written out. -/
theorem lists_two (w : World) (x : El) (t : TypeId) (s : Nat) (hs : s = w.heap.size) (hx : ElOk w x) : Lists (w.alloc (.cells #[.slice x.a x.n x.c, .slice none 0 0] t)) (some ⟨s, 0, none⟩) 2 [x, ⟨none, 0, 0, []⟩] := by
  subst hs
  have hk : Below w.heap.size w (w.alloc (.cells #[.slice x.a x.n x.c, .slice none 0 0] t)) := (Below.refl _ _).alloc (Nat.le_refl _) _
  refine ⟨rfl, fun _ => ⟨_, _, rfl, by simp, fun k hk => ?_⟩, fun k hk' => ?_⟩
  · match k, hk with
    | 0, _ => rw [cell_of_row _ _ _ _ t (0, 0) (heap_alloc_new w _)]; rfl
    | 1, _ => rw [cell_of_row _ _ _ _ t (0, 0) (heap_alloc_new w _)]; rfl
  · match k, hk' with
    | 0, _ => exact hx.on hk
    | 1, _ => exact ⟨(Buf.nil _).bytes.1, fun _ => ⟨rfl, rfl⟩, Are.nil⟩

/-- What is held: the variable, the bytes. -/
def NS (w : World) (x : Cf) (A : Option Addr) (m ac : Nat) (zs : List Int) (w' : World) : Prop := Row w' w.heap.size 23 x.cells ∧ Bytes w' A m ac zs ∧ Below w.heap.size w w'
theorem NS.on {w : World} {x : Cf} {A : Option Addr} {m ac : Nat} {zs : List Int} {w1 w2 : World} (h : NS w x A m ac zs w1) (k : Below w1.heap.size w1 w2) : NS w x A m ac zs w2 := ⟨h.1.on k, h.2.1.on k, h.2.2.trans (k.mono h.2.2.size)⟩
/-- The bytes, and what came of them. -/
def NT (w : World) (A : Option Addr) (m ac : Nat) (zs : List Int) (A5 : Option Addr) (m5 c5 : Nat) (u1 : List Int) (A6 : Option Addr) (m6 c6 : Nat) (l1 : List Int) (w' : World) : Prop := Bytes w' A m ac zs ∧ Bytes w' A5 m5 c5 u1 ∧ Bytes w' A6 m6 c6 l1 ∧ Below w.heap.size w w'
theorem NT.on {w : World} {A A5 A6 : Option Addr} {m ac m5 c5 m6 c6 : Nat} {zs u1 l1 : List Int} {w1 w2 : World} (h : NT w A m ac zs A5 m5 c5 u1 A6 m6 c6 l1 w1) (k : Below w1.heap.size w1 w2) : NT w A m ac zs A5 m5 c5 u1 A6 m6 c6 l1 w2 := ⟨h.1.on k, h.2.1.on k, h.2.2.1.on k, h.2.2.2.trans (k.mono h.2.2.2.size)⟩

set_option maxRecDepth 100000 in
set_option maxHeartbeats 16000000 in
theorem none_walk (x : Cf) (A : Option Addr) (m ac : Nat) (zs0 : List Int) (w : World) (_ : (Lit.int .i64 x.cb).wf = true) (hL : IsRow .u8 w A m ac zs0) :
    Calls Try.prog 7 #[x.val, .slice A m ac] w fun e w' => e = .returned (.bool true) ∧ Below w.heap.size w w' := by
  have E0 := Lib.hid hL.el
  have CR := Lib.hid law_runs
  have hzl0 : (zs0.take m).length = m := hL.bytes.1.1
  have hmm : m ≤ 9223372036854775807 := by have := hL.bytes.1.2.1; have := hL.bytes.1.2.2.1; unfold maxLen at this; omega
  clear hL
  generalize zs0.take m = zs at *
  have CM := Lib.hid (may_any x)
  have HX : x.val = .agg #[.bool x.sw, .bool x.bl, .bool x.ub, .bool x.lc, .bool x.uc, .bool x.ac, .bool x.eb, .bool x.ib, .int .i64 x.cb] := rfl
  rw [HX]
  clear HX
  have AZ := Lib.hid E0.out.are; have HN := Lib.hid E0.out.nil
  have K0 := Lib.hid (show Below w.heap.size w (w.alloc (.cells x.cells 23)) from (Below.refl _ _).alloc (Nat.le_refl _) _)
  have H0 := Lib.hid (show NS w x A m ac zs (w.alloc (.cells x.cells 23)) from ⟨row_new w x.cells 23, E0.out.bytes.on K0.out, K0.out⟩)
  have EZ := Lib.hid (n_zero AZ.out)
  have ENN := Lib.hid (show x.may = false → x.eff = Cf.zero from fun h => eff_not h)
  obtain ⟨u1, hu1⟩ : ∃ u1, mapL upper zs = u1 := ⟨_, rfl⟩
  obtain ⟨l1, hl1⟩ : ∃ l1, mapL lower zs = l1 := ⟨_, rfl⟩
  have HU := Lib.hid hu1; have HL := Lib.hid hl1
  have EU := Lib.hid (show nU.all zs = u1 by rw [n_upper AZ.out, hu1]); have EL := Lib.hid (show nL.all zs = l1 by rw [n_lower AZ.out, hl1])
  have CU := Lib.hid upper_any; have CL := Lib.hid lower_any; have GU := Lib.hid good_upper; have GL := Lib.hid good_lower
  clear hu1 hl1 K0
  generalize upper = tU at *
  generalize lower = tL at *
  generalize hmay : x.may = z at *
  clear hmay
  go_enter Try.func7, Try.ntmps7
  by_cases hbad : 300 < m
  · have hd : decide ((300 : Int) < (m : Int)) = true := by simp; omega
    go_wp2_with fail
    refine (CR.out _).mono ?_
    rintro e w2 ⟨rfl, k2⟩
    have K2 := H0.out.2.2.trans (k2.mono H0.out.2.2.size)
    go_wp2
    go_ret
    exact ⟨rfl, K2⟩
  have hd : decide ((300 : Int) < (m : Int)) = false := by simp; omega
  have hzl : zs.length ≤ 1500 := by omega
  go_upto_region 3 with fail
  go_cut [23] (fun v wr => v = .bool false ∧ Hid (NS w x A m ac zs wr))
  case first =>
   have hS := H0.out.on (Below.refl _ _).drew
   cases z
   · have EFF := Lib.hid (ENN.out rfl)
     refine wp_region_held_drew (S := fun w' => NS w x A m ac zs w') (by kernel_rfl) hS (fun hHeld => ?_)
     clear hS
     show wpAnyH _ _ _ _ _ 13 _ _ _
     refine take_box 0 11 (fuel := 12) _ w.heap.size x rfl rfl (by kernel_rfl) (by kernel_rfl) (by kernel_rfl) (fun _ _ _ h => h) (by rfl) hHeld rfl rfl (fun _ h => h.1) ?_
     simp only [Act.put, List.setIfInBounds_toArray, List.set_cons_zero, List.set_cons_succ]
     refine wpAnyH_ready (rs := [1]) (fuel := 11) (by kernel_rfl) (by simp) ?_
     refine AllReadyH.cons rfl (fun Kq hK => ?_) AllReadyH.nil
     go_simp
     refine (CM.out _).mono ?_
     rintro e w1 ⟨rfl, k1⟩
     have H1 := Lib.hid (NS.on hHeld k1)
     go_simp
     refine hK.out _ _ H1.out (fun hH1 => ?_)
     clear hK Kq hHeld k1
     (try simp only [Act.put, List.setIfInBounds_toArray, List.set_cons_zero, List.set_cons_succ])
     refine take_at 2 13 (v := ?vb2) (fuel := 10) rfl rfl (by kernel_rfl) (by kernel_rfl) (by kernel_rfl) (fun _ _ _ h => h) (by rfl) hH1 ?hyb2 ?restb2
     case hyb2 => (intro w' hSw; (try dsimp only at hSw); go_simp <;> with_reducible rfl)
     simp only [Act.put, List.setIfInBounds_toArray, List.set_cons_zero, List.set_cons_succ]
     refine take_at 3 14 (v := ?vb3) (fuel := 9) rfl rfl (by kernel_rfl) (by kernel_rfl) (by kernel_rfl) (fun _ _ _ h => h) (by rfl) hH1 ?hyb3 ?restb3
     case hyb3 => (intro w' hSw; (try dsimp only at hSw); go_simp <;> with_reducible rfl)
     simp only [Act.put, List.setIfInBounds_toArray, List.set_cons_zero, List.set_cons_succ]
     refine take_box 4 15 (fuel := 8) _ w.heap.size x rfl rfl (by kernel_rfl) (by kernel_rfl) (by kernel_rfl) (fun _ _ _ h => h) (by rfl) hH1 rfl rfl (fun _ h => h.1) ?_
     simp only [Act.put, List.setIfInBounds_toArray, List.set_cons_zero, List.set_cons_succ]
     refine take_at 5 16 (v := ?vb5) (fuel := 7) rfl rfl (by kernel_rfl) (by kernel_rfl) (by kernel_rfl) (fun _ _ _ h => h) (by rfl) hH1 ?hyb5 ?restb5
     case hyb5 => (intro w' hSw; (try dsimp only at hSw); go_simp <;> with_reducible rfl)
     simp only [Act.put, List.setIfInBounds_toArray, List.set_cons_zero, List.set_cons_succ]
     refine take_at 9 20 (v := ?vb9) (fuel := 6) rfl rfl (by kernel_rfl) (by kernel_rfl) (by kernel_rfl) (fun _ _ _ h => h) (by rfl) hH1 ?hyb9 ?restb9
     case hyb9 => (intro w' hSw; (try dsimp only at hSw); go_simp <;> with_reducible rfl)
     simp only [Act.put, List.setIfInBounds_toArray, List.set_cons_zero, List.set_cons_succ]
     refine take_text 10 21 (fuel := 5) _ A m ac zs rfl rfl (by kernel_rfl) (by kernel_rfl) (by kernel_rfl) (fun _ _ _ h => h) (by rfl) hH1 rfl rfl (fun _ h => h.2.1) HN.out ?_
     simp only [Act.put, List.setIfInBounds_toArray, List.set_cons_zero, List.set_cons_succ]
     refine wpAnyH_ready (rs := [6]) (fuel := 4) (by kernel_rfl) (by simp) ?_
     refine AllReadyH.cons rfl (fun Kq hK => ?_) AllReadyH.nil
     go_simp
     refine hK.out _ _ (NS.on hH1 ((Below.refl _ _).alloc (Nat.le_refl _) _)) (fun hH2 => ?_)
     clear hK Kq hH1
     (try simp only [Act.put, List.setIfInBounds_toArray, List.set_cons_zero, List.set_cons_succ])
     refine wpAnyH_ready (rs := [7]) (fuel := 3) (by kernel_rfl) (by simp) ?_
     refine AllReadyH.cons rfl (fun Kq hK => ?_) AllReadyH.nil
     go_simp
     refine (all_one x Cf.zero A m ac zs zs _ EFF.out (by decide) ⟨H1.out.2.1, HN.out, AZ.out⟩ hzl EZ.out).mono ?_
     rintro e w3 ⟨A3, m3, c3, rfl, q1, q2, q3⟩
     have H3 := Lib.hid (NS.on H1.out q3); have B3 := Lib.hid q1.bytes
     go_simp
     refine hK.out _ _ H3.out (fun hH3 => ?_)
     refine wpAnyH_more (S' := fun w' => NS w x A m ac zs w' ∧ Bytes w' A3 m3 c3 zs) (fun _ h => h.1) _ _ _ _ ?_
     have hH4 := (show (fun w' : World => NS w x A m ac zs w' ∧ Bytes w' A3 m3 c3 zs) w3 from ⟨hH3, B3.out.1⟩)
     clear hK Kq hH2 hH3 q1 q2 q3
     (try simp only [Act.put, List.setIfInBounds_toArray, List.set_cons_zero, List.set_cons_succ])
     refine take_text 8 19 (fuel := 2) _ A3 m3 c3 zs rfl rfl (by kernel_rfl) (by kernel_rfl) (by kernel_rfl) (fun _ _ _ h => h) (by rfl) hH4 rfl rfl (fun _ h => h.2) B3.out.2 ?_
     simp only [Act.put, List.setIfInBounds_toArray, List.set_cons_zero, List.set_cons_succ]
     refine take_at 11 22 (v := ?vb11) (fuel := 1) rfl rfl (by kernel_rfl) (by kernel_rfl) (by kernel_rfl) (fun _ _ _ h => h) (by rfl) hH4 ?hyb11 ?restb11
     case hyb11 => (intro w' hSw; (try dsimp only at hSw); go_simp <;> with_reducible rfl)
     simp only [Act.put, List.setIfInBounds_toArray, List.set_cons_zero, List.set_cons_succ]
     refine take_at 12 23 (v := ?vb12) (fuel := 0) rfl rfl (by kernel_rfl) (by kernel_rfl) (by kernel_rfl) (fun _ _ _ h => h) (by rfl) hH4 ?hyb12 ?restb12
     case hyb12 => (intro w' hSw; (try dsimp only at hSw); go_simp <;> with_reducible rfl)
     simp only [Act.put, List.setIfInBounds_toArray, List.set_cons_zero, List.set_cons_succ]
     refine wpAnyH_done (by kernel_rfl) ?_ _
     have HF := Lib.hid hH4.1
     clear hH4
     go_wp2_with fail
     go_meet
     exact ⟨rfl, HF.out⟩
   · refine wp_region_held_drew (S := fun w' => NS w x A m ac zs w') (by kernel_rfl) hS (fun hHeld => ?_)
     clear hS
     show wpAnyH _ _ _ _ _ 13 _ _ _
     refine take_box 0 11 (fuel := 12) _ w.heap.size x rfl rfl (by kernel_rfl) (by kernel_rfl) (by kernel_rfl) (fun _ _ _ h => h) (by rfl) hHeld rfl rfl (fun _ h => h.1) ?_
     simp only [Act.put, List.setIfInBounds_toArray, List.set_cons_zero, List.set_cons_succ]
     refine wpAnyH_ready (rs := [1]) (fuel := 11) (by kernel_rfl) (by simp) ?_
     refine AllReadyH.cons rfl (fun Kq hK => ?_) AllReadyH.nil
     go_simp
     refine (CM.out _).mono ?_
     rintro e w1 ⟨rfl, k1⟩
     have H1 := Lib.hid (NS.on hHeld k1)
     go_simp
     refine hK.out _ _ H1.out (fun hH1 => ?_)
     clear hK Kq hHeld k1
     (try simp only [Act.put, List.setIfInBounds_toArray, List.set_cons_zero, List.set_cons_succ])
     refine take_at 2 13 (v := ?va2) (fuel := 10) rfl rfl (by kernel_rfl) (by kernel_rfl) (by kernel_rfl) (fun _ _ _ h => h) (by rfl) hH1 ?hya2 ?resta2
     case hya2 => (intro w' hSw; (try dsimp only at hSw); go_simp <;> with_reducible rfl)
     simp only [Act.put, List.setIfInBounds_toArray, List.set_cons_zero, List.set_cons_succ]
     refine take_at 3 14 (v := ?va3) (fuel := 9) rfl rfl (by kernel_rfl) (by kernel_rfl) (by kernel_rfl) (fun _ _ _ h => h) (by rfl) hH1 ?hya3 ?resta3
     case hya3 => (intro w' hSw; (try dsimp only at hSw); go_simp <;> with_reducible rfl)
     simp only [Act.put, List.setIfInBounds_toArray, List.set_cons_zero, List.set_cons_succ]
     refine skip_at 4 15 (fuel := 8) rfl rfl (by kernel_rfl) (by kernel_rfl) (by kernel_rfl) (fun _ _ _ h => h) (by rfl) hH1 ?_
     simp only [Act.put, List.setIfInBounds_toArray, List.set_cons_zero, List.set_cons_succ]
     refine skip_at 5 16 (fuel := 7) rfl rfl (by kernel_rfl) (by kernel_rfl) (by kernel_rfl) (fun _ _ _ h => h) (by rfl) hH1 ?_
     simp only [Act.put, List.setIfInBounds_toArray, List.set_cons_zero, List.set_cons_succ]
     refine skip_at 6 17 (fuel := 6) rfl rfl (by kernel_rfl) (by kernel_rfl) (by kernel_rfl) (fun _ _ _ h => h) (by rfl) hH1 ?_
     simp only [Act.put, List.setIfInBounds_toArray, List.set_cons_zero, List.set_cons_succ]
     refine skip_at 7 18 (fuel := 5) rfl rfl (by kernel_rfl) (by kernel_rfl) (by kernel_rfl) (fun _ _ _ h => h) (by rfl) hH1 ?_
     simp only [Act.put, List.setIfInBounds_toArray, List.set_cons_zero, List.set_cons_succ]
     refine skip_at 8 19 (fuel := 4) rfl rfl (by kernel_rfl) (by kernel_rfl) (by kernel_rfl) (fun _ _ _ h => h) (by rfl) hH1 ?_
     simp only [Act.put, List.setIfInBounds_toArray, List.set_cons_zero, List.set_cons_succ]
     refine skip_at 9 20 (fuel := 3) rfl rfl (by kernel_rfl) (by kernel_rfl) (by kernel_rfl) (fun _ _ _ h => h) (by rfl) hH1 ?_
     simp only [Act.put, List.setIfInBounds_toArray, List.set_cons_zero, List.set_cons_succ]
     refine skip_at 10 21 (fuel := 2) rfl rfl (by kernel_rfl) (by kernel_rfl) (by kernel_rfl) (fun _ _ _ h => h) (by rfl) hH1 ?_
     simp only [Act.put, List.setIfInBounds_toArray, List.set_cons_zero, List.set_cons_succ]
     refine skip_at 11 22 (fuel := 1) rfl rfl (by kernel_rfl) (by kernel_rfl) (by kernel_rfl) (fun _ _ _ h => h) (by rfl) hH1 ?_
     simp only [Act.put, List.setIfInBounds_toArray, List.set_cons_zero, List.set_cons_succ]
     refine take_at 12 23 (v := ?va12) (fuel := 0) rfl rfl (by kernel_rfl) (by kernel_rfl) (by kernel_rfl) (fun _ _ _ h => h) (by rfl) hH1 ?hya12 ?resta12
     case hya12 => (intro w' hSw; (try dsimp only at hSw); go_simp <;> with_reducible rfl)
     simp only [Act.put, List.setIfInBounds_toArray, List.set_cons_zero, List.set_cons_succ]
     refine wpAnyH_done (by kernel_rfl) ?_ _
     have HF := Lib.hid hH1
     clear hH1
     go_wp2_with fail
     go_meet
     exact ⟨rfl, HF.out⟩
  case rest =>
   obtain ⟨rfl, hwc⟩ := hcut
   have E1 := Lib.hid (show ElOk wc ⟨A, m, ac, zs⟩ from ⟨hwc.out.2.1, HN.out, AZ.out⟩)
   have K1 := Lib.hid hwc.out.2.2
   clear hwc H0 E0 ENN CM
   go_wp2_with fail
   refine (all_one nU nU A m ac zs u1 _ (eff_of rfl) (by decide) E1.out hzl EU.out).mono ?_
   rintro e w5 ⟨A5, m5, c5, rfl, q1, _, q3⟩
   have E5 := Lib.hid (E1.out.on q3); have K5 := Lib.hid (K1.out.trans (q3.mono K1.out.size)); have B5 := Lib.hid q1.bytes.1; have U5 := Lib.hid q1.bytes.2
   clear q1 q3 E1 K1
   go_wp2_with fail
   refine (all_one nL nL A m ac zs l1 _ (eff_of rfl) (by decide) E5.out hzl EL.out).mono ?_
   rintro e w6 ⟨A6, m6, c6, rfl, q1, _, q3⟩
   have I0 := Lib.hid (show NT w A m ac zs A5 m5 c5 u1 A6 m6 c6 l1 w6 from ⟨E5.out.bytes.on q3, B5.out.on q3, q1.bytes.1, K5.out.trans (q3.mono K5.out.size)⟩); have U6 := Lib.hid q1.bytes.2
   clear q1 q3 E5 K5 B5
   go_wp2_with fail
   have hS := I0.out.on (Below.refl _ _).drew
   refine wp_region_held_drew (S := fun w' => NT w A m ac zs A5 m5 c5 u1 A6 m6 c6 l1 w') (by kernel_rfl) hS (fun hHeld => ?_)
   clear hS
   show wpAnyH _ _ _ _ _ 30 _ _ _
   refine take_at 0 32 (v := ?vc0) (fuel := 29) rfl rfl (by kernel_rfl) (by kernel_rfl) (by kernel_rfl) (fun _ _ _ h => h) (by rfl) hHeld ?hyc0 ?restc0
   case hyc0 => (intro w' hSw; (try dsimp only at hSw); go_simp <;> with_reducible rfl)
   simp only [Act.put, List.setIfInBounds_toArray, List.set_cons_zero, List.set_cons_succ]
   refine take_at 1 33 (v := ?vc1) (fuel := 28) rfl rfl (by kernel_rfl) (by kernel_rfl) (by kernel_rfl) (fun _ _ _ h => h) (by rfl) hHeld ?hyc1 ?restc1
   case hyc1 => (intro w' hSw; (try dsimp only at hSw); go_simp <;> with_reducible rfl)
   simp only [Act.put, List.setIfInBounds_toArray, List.set_cons_zero, List.set_cons_succ]
   refine take_at 5 37 (v := ?vc5) (fuel := 27) rfl rfl (by kernel_rfl) (by kernel_rfl) (by kernel_rfl) (fun _ _ _ h => h) (by rfl) hHeld ?hyc5 ?restc5
   case hyc5 => (intro w' hSw; (try dsimp only at hSw); go_simp <;> with_reducible rfl)
   simp only [Act.put, List.setIfInBounds_toArray, List.set_cons_zero, List.set_cons_succ]
   refine take_text 6 38 (fuel := 26) _ A m ac zs rfl rfl (by kernel_rfl) (by kernel_rfl) (by kernel_rfl) (fun _ _ _ h => h) (by rfl) hHeld rfl rfl (fun _ h => h.1) HN.out ?_
   simp only [Act.put, List.setIfInBounds_toArray, List.set_cons_zero, List.set_cons_succ]
   refine wpAnyH_ready (rs := [2]) (fuel := 25) (by kernel_rfl) (by simp) ?_
   refine AllReadyH.cons rfl (fun Kq hK => ?_) AllReadyH.nil
   go_simp
   have L2 := Lib.hid (lists_two _ ⟨A, m, ac, zs⟩ 24 _ rfl ⟨hHeld.1, HN.out, AZ.out⟩)
   refine hK.out _ _ (NT.on hHeld ((Below.refl _ _).alloc (Nat.le_refl _) _)) (fun hI1 => ?_)
   clear hK Kq hHeld
   (try simp only [Act.put, List.setIfInBounds_toArray, List.set_cons_zero, List.set_cons_succ])
   refine wpAnyH_ready (rs := [3]) (fuel := 24) (by kernel_rfl) (by simp) ?_
   refine AllReadyH.cons rfl (fun Kq hK => ?_) AllReadyH.nil
   go_simp
   refine (allc_any Cf.zero Cf.zero _ 2 2 [⟨A, m, ac, zs⟩, ⟨none, 0, 0, []⟩] zs zs _ (eff_of zero_may) (by decide) L2.out (by omega) (by simp [cat]) hzl EZ.out).mono ?_
   rintro e v3 ⟨B1, n1, d1, rfl, q1, q2, q3⟩
   have I3 := Lib.hid (NT.on hI1 q3); have T3 := Lib.hid q1.bytes
   go_simp
   refine hK.out _ _ I3.out (fun hI2 => ?_)
   refine wpAnyH_more (S' := fun w' => NT w A m ac zs A5 m5 c5 u1 A6 m6 c6 l1 w' ∧ Bytes w' B1 n1 d1 zs) (fun _ h => h.1) _ _ _ _ ?_
   have hI3 := (show (fun w' : World => NT w A m ac zs A5 m5 c5 u1 A6 m6 c6 l1 w' ∧ Bytes w' B1 n1 d1 zs) v3 from ⟨hI2, T3.out.1⟩)
   clear hK Kq hI1 hI2 q1 q2 q3
   (try simp only [Act.put, List.setIfInBounds_toArray, List.set_cons_zero, List.set_cons_succ])
   refine take_text 4 36 (fuel := 23) _ B1 n1 d1 zs rfl rfl (by kernel_rfl) (by kernel_rfl) (by kernel_rfl) (fun _ _ _ h => h) (by rfl) hI3 rfl rfl (fun _ h => h.2) T3.out.2 ?_
   simp only [Act.put, List.setIfInBounds_toArray, List.set_cons_zero, List.set_cons_succ]
   refine take_at 7 39 (v := ?vc7) (fuel := 22) rfl rfl (by kernel_rfl) (by kernel_rfl) (by kernel_rfl) (fun _ _ _ h => h) (by rfl) hI3 ?hyc7 ?restc7
   case hyc7 => (intro w' hSw; (try dsimp only at hSw); go_simp <;> with_reducible rfl)
   simp only [Act.put, List.setIfInBounds_toArray, List.set_cons_zero, List.set_cons_succ]
   refine take_at 8 40 (v := ?vc8) (fuel := 21) rfl rfl (by kernel_rfl) (by kernel_rfl) (by kernel_rfl) (fun _ _ _ h => h) (by rfl) hI3 ?hyc8 ?restc8
   case hyc8 => (intro w' hSw; (try dsimp only at hSw); go_simp <;> with_reducible rfl)
   simp only [Act.put, List.setIfInBounds_toArray, List.set_cons_zero, List.set_cons_succ]
   refine take_at 9 41 (v := ?vc9) (fuel := 20) rfl rfl (by kernel_rfl) (by kernel_rfl) (by kernel_rfl) (fun _ _ _ h => h) (by rfl) hI3 ?hyc9 ?restc9
   case hyc9 => (intro w' hSw; (try dsimp only at hSw); go_simp <;> with_reducible rfl)
   simp only [Act.put, List.setIfInBounds_toArray, List.set_cons_zero, List.set_cons_succ]
   refine take_text 10 42 (fuel := 19) _ A5 m5 c5 u1 rfl rfl (by kernel_rfl) (by kernel_rfl) (by kernel_rfl) (fun _ _ _ h => h) (by rfl) hI3 rfl rfl (fun _ h => h.1.2.1) U5.out ?_
   simp only [Act.put, List.setIfInBounds_toArray, List.set_cons_zero, List.set_cons_succ]
   refine take_at 12 44 (v := ?vc12) (fuel := 18) rfl rfl (by kernel_rfl) (by kernel_rfl) (by kernel_rfl) (fun _ _ _ h => h) (by rfl) hI3 ?hyc12 ?restc12
   case hyc12 => (intro w' hSw; (try dsimp only at hSw); go_simp <;> with_reducible rfl)
   simp only [Act.put, List.setIfInBounds_toArray, List.set_cons_zero, List.set_cons_succ]
   refine wpAnyH_ready (rs := [11]) (fuel := 17) (by kernel_rfl) (by simp) ?_
   refine AllReadyH.cons rfl (fun Kq hK => ?_) AllReadyH.nil
   go_simp
   refine (CU.out _).mono ?_
   rintro e v11 ⟨rfl, q⟩
   go_simp
   refine hK.out _ _ ⟨NT.on hI3.1 q, hI3.2.on q⟩ (fun hI11 => ?_)
   clear hK Kq hI3 q
   (try simp only [Act.put, List.setIfInBounds_toArray, List.set_cons_zero, List.set_cons_succ])
   refine wpAnyH_ready (rs := [13]) (fuel := 16) (by kernel_rfl) (by simp) ?_
   refine AllReadyH.cons rfl (fun Kq hK => ?_) AllReadyH.nil
   go_simp
   refine (map_any tU A m ac zs _ GU.out hI11.1.1 AZ.out (by omega) u1 HU.out).mono ?_
   rintro e v13 ⟨B13, n13, d13, rfl, q1, q2, q3⟩
   have T13 := Lib.hid q1.bytes
   go_simp
   refine hK.out _ _ ⟨NT.on hI11.1 q3, hI11.2.on q3⟩ (fun hI13 => ?_)
   have hJ13 := (show (fun w' : World => (NT w A m ac zs A5 m5 c5 u1 A6 m6 c6 l1 w' ∧ Bytes w' B1 n1 d1 zs) ∧ Bytes w' B13 n13 d13 u1) v13 from ⟨hI13, T13.out.1⟩)
   refine wpAnyH_more (S' := fun w' => (NT w A m ac zs A5 m5 c5 u1 A6 m6 c6 l1 w' ∧ Bytes w' B1 n1 d1 zs) ∧ Bytes w' B13 n13 d13 u1) (fun _ h => h.1) _ _ _ _ ?_
   clear hK Kq hI11 hI13 q1 q2 q3
   (try simp only [Act.put, List.setIfInBounds_toArray, List.set_cons_zero, List.set_cons_succ])
   refine take_text 14 46 (fuel := 15) _ B13 n13 d13 u1 rfl rfl (by kernel_rfl) (by kernel_rfl) (by kernel_rfl) (fun _ _ _ h => h) (by rfl) hJ13 rfl rfl (fun _ h => h.2) T13.out.2 ?_
   simp only [Act.put, List.setIfInBounds_toArray, List.set_cons_zero, List.set_cons_succ]
   refine take_at 15 47 (v := ?vc15) (fuel := 14) rfl rfl (by kernel_rfl) (by kernel_rfl) (by kernel_rfl) (fun _ _ _ h => h) (by rfl) hJ13 ?hyc15 ?restc15
   case hyc15 => (intro w' hSw; (try dsimp only at hSw); go_simp <;> with_reducible rfl)
   simp only [Act.put, List.setIfInBounds_toArray, List.set_cons_zero, List.set_cons_succ]
   refine take_at 16 48 (v := ?vc16) (fuel := 13) rfl rfl (by kernel_rfl) (by kernel_rfl) (by kernel_rfl) (fun _ _ _ h => h) (by rfl) hJ13 ?hyc16 ?restc16
   case hyc16 => (intro w' hSw; (try dsimp only at hSw); go_simp <;> with_reducible rfl)
   simp only [Act.put, List.setIfInBounds_toArray, List.set_cons_zero, List.set_cons_succ]
   refine take_at 17 49 (v := ?vc17) (fuel := 12) rfl rfl (by kernel_rfl) (by kernel_rfl) (by kernel_rfl) (fun _ _ _ h => h) (by rfl) hJ13 ?hyc17 ?restc17
   case hyc17 => (intro w' hSw; (try dsimp only at hSw); go_simp <;> with_reducible rfl)
   simp only [Act.put, List.setIfInBounds_toArray, List.set_cons_zero, List.set_cons_succ]
   refine take_at 18 50 (v := ?vc18) (fuel := 11) rfl rfl (by kernel_rfl) (by kernel_rfl) (by kernel_rfl) (fun _ _ _ h => h) (by rfl) hJ13 ?hyc18 ?restc18
   case hyc18 => (intro w' hSw; (try dsimp only at hSw); go_simp <;> with_reducible rfl)
   simp only [Act.put, List.setIfInBounds_toArray, List.set_cons_zero, List.set_cons_succ]
   refine take_text 19 51 (fuel := 10) _ A6 m6 c6 l1 rfl rfl (by kernel_rfl) (by kernel_rfl) (by kernel_rfl) (fun _ _ _ h => h) (by rfl) hJ13 rfl rfl (fun _ h => h.1.1.2.2.1) U6.out ?_
   simp only [Act.put, List.setIfInBounds_toArray, List.set_cons_zero, List.set_cons_succ]
   refine take_at 21 53 (v := ?vc21) (fuel := 9) rfl rfl (by kernel_rfl) (by kernel_rfl) (by kernel_rfl) (fun _ _ _ h => h) (by rfl) hJ13 ?hyc21 ?restc21
   case hyc21 => (intro w' hSw; (try dsimp only at hSw); go_simp <;> with_reducible rfl)
   simp only [Act.put, List.setIfInBounds_toArray, List.set_cons_zero, List.set_cons_succ]
   refine wpAnyH_ready (rs := [20]) (fuel := 8) (by kernel_rfl) (by simp) ?_
   refine AllReadyH.cons rfl (fun Kq hK => ?_) AllReadyH.nil
   go_simp
   refine (CL.out _).mono ?_
   rintro e v20 ⟨rfl, q⟩
   go_simp
   refine hK.out _ _ ⟨⟨NT.on hJ13.1.1 q, hJ13.1.2.on q⟩, hJ13.2.on q⟩ (fun hI20 => ?_)
   clear hK Kq hJ13 q
   (try simp only [Act.put, List.setIfInBounds_toArray, List.set_cons_zero, List.set_cons_succ])
   refine wpAnyH_ready (rs := [22]) (fuel := 7) (by kernel_rfl) (by simp) ?_
   refine AllReadyH.cons rfl (fun Kq hK => ?_) AllReadyH.nil
   go_simp
   refine (map_any tL A m ac zs _ GL.out hI20.1.1.1 AZ.out (by omega) l1 HL.out).mono ?_
   rintro e v22 ⟨B22, n22, d22, rfl, q1, q2, q3⟩
   have T22 := Lib.hid q1.bytes
   go_simp
   refine hK.out _ _ ⟨⟨NT.on hI20.1.1 q3, hI20.1.2.on q3⟩, hI20.2.on q3⟩ (fun hI22 => ?_)
   have hJ22 := (show (fun w' : World => ((NT w A m ac zs A5 m5 c5 u1 A6 m6 c6 l1 w' ∧ Bytes w' B1 n1 d1 zs) ∧ Bytes w' B13 n13 d13 u1) ∧ Bytes w' B22 n22 d22 l1) v22 from ⟨hI22, T22.out.1⟩)
   refine wpAnyH_more (S' := fun w' => ((NT w A m ac zs A5 m5 c5 u1 A6 m6 c6 l1 w' ∧ Bytes w' B1 n1 d1 zs) ∧ Bytes w' B13 n13 d13 u1) ∧ Bytes w' B22 n22 d22 l1) (fun _ h => h.1) _ _ _ _ ?_
   clear hK Kq hI20 hI22 q1 q2 q3
   (try simp only [Act.put, List.setIfInBounds_toArray, List.set_cons_zero, List.set_cons_succ])
   refine take_text 23 55 (fuel := 6) _ B22 n22 d22 l1 rfl rfl (by kernel_rfl) (by kernel_rfl) (by kernel_rfl) (fun _ _ _ h => h) (by rfl) hJ22 rfl rfl (fun _ h => h.2) T22.out.2 ?_
   simp only [Act.put, List.setIfInBounds_toArray, List.set_cons_zero, List.set_cons_succ]
   refine take_at 24 56 (v := ?vc24) (fuel := 5) rfl rfl (by kernel_rfl) (by kernel_rfl) (by kernel_rfl) (fun _ _ _ h => h) (by rfl) hJ22 ?hyc24 ?restc24
   case hyc24 => (intro w' hSw; (try dsimp only at hSw); go_simp <;> with_reducible rfl)
   simp only [Act.put, List.setIfInBounds_toArray, List.set_cons_zero, List.set_cons_succ]
   refine take_at 25 57 (v := ?vc25) (fuel := 4) rfl rfl (by kernel_rfl) (by kernel_rfl) (by kernel_rfl) (fun _ _ _ h => h) (by rfl) hJ22 ?hyc25 ?restc25
   case hyc25 => (intro w' hSw; (try dsimp only at hSw); go_simp <;> with_reducible rfl)
   simp only [Act.put, List.setIfInBounds_toArray, List.set_cons_zero, List.set_cons_succ]
   refine take_at 26 58 (v := ?vc26) (fuel := 3) rfl rfl (by kernel_rfl) (by kernel_rfl) (by kernel_rfl) (fun _ _ _ h => h) (by rfl) hJ22 ?hyc26 ?restc26
   case hyc26 => (intro w' hSw; (try dsimp only at hSw); go_simp <;> with_reducible rfl)
   simp only [Act.put, List.setIfInBounds_toArray, List.set_cons_zero, List.set_cons_succ]
   refine wpAnyH_ready (rs := [27]) (fuel := 2) (by kernel_rfl) (by simp) ?_
   refine AllReadyH.cons rfl (fun Kq hK => ?_) AllReadyH.nil
   go_simp
   refine (CR.out _).mono ?_
   rintro e v27 ⟨rfl, q⟩
   go_simp
   refine hK.out _ _ ⟨⟨⟨NT.on hJ22.1.1.1 q, hJ22.1.1.2.on q⟩, hJ22.1.2.on q⟩, hJ22.2.on q⟩ (fun hI27 => ?_)
   clear hK Kq hJ22 q
   (try simp only [Act.put, List.setIfInBounds_toArray, List.set_cons_zero, List.set_cons_succ])
   refine take_at 28 60 (v := ?vc28) (fuel := 1) rfl rfl (by kernel_rfl) (by kernel_rfl) (by kernel_rfl) (fun _ _ _ h => h) (by rfl) hI27 ?hyc28 ?restc28
   case hyc28 => (intro w' hSw; (try dsimp only at hSw); go_simp <;> with_reducible rfl)
   simp only [Act.put, List.setIfInBounds_toArray, List.set_cons_zero, List.set_cons_succ]
   refine take_at 29 4 (v := ?vc29) (fuel := 0) rfl rfl (by kernel_rfl) (by kernel_rfl) (by kernel_rfl) (fun _ _ _ h => h) (by rfl) hI27 ?hyc29 ?restc29
   case hyc29 => (intro w' hSw; (try dsimp only at hSw); go_simp <;> with_reducible rfl)
   simp only [Act.put, List.setIfInBounds_toArray, List.set_cons_zero, List.set_cons_succ]
   refine wpAnyH_done (by kernel_rfl) ?_ _
   have KF := Lib.hid hI27.1.1.1.2.2.2
   clear hI27
   go_wp2
   go_ret
   exact ⟨rfl, KF.out⟩

end Go.Proofs.Ytghihmmapignmaa
