/- Contract of the reference's NewDisk. -/
import Derived.Test.YtdfjhgibdabeeaaWalksD
import Derived.WalkKit
import Derived.WalkSpells
import Derived.WalkLawsBesides
import Derived.Lib.Hide
import Derived.OwnWalk
import Derived.BigQuiet
import Derived.Deep.RegionHeld3
namespace Go.Proofs.Ytdfjhgibdabeeaa
open Go.RowKit

def goneRow (m : Nat) : Obj := .cells (madeCells #[.int .i64 0] m) 3
theorem run_make_gone (w : World) (m : Nat) (hm : m ≤ 1000000) : (Instr.makeSlice 28 (.int .i64 (m : Int)) (.int .i64 (m : Int))).run Try.prog w = .ok (.slice (some ⟨w.heap.size, 0, none⟩) m m) (w.alloc (goneRow m)) := by
  obtain ⟨i0, hi, hz0, hz1, hz2⟩ := info_parts info3
  have hrun := run_make (P := Try.prog) w 28 3 i0 (.int .i64 0) Try.underlying28 hi hz0 .i64 .i64 (m : Int) (m : Int) (by omega) (by omega) (by rw [hz2]; omega) (by omega)
  simp only [Int.toNat_natCast, hz1, Nat.mul_one] at hrun
  exact hrun
theorem gone_new (w : World) (m : Nat) : Gone (w.alloc (goneRow m)) (some ⟨w.heap.size, 0, none⟩) m zero := by
  have hb := heap_alloc_new w (goneRow m)
  unfold goneRow at hb
  refine ⟨(fun h => by cases h), fun _ => ⟨w.heap.size, rfl, by simp, fun j hj => ⟨?_, frozen_of_row _ _ _ _ 3 hb⟩⟩⟩
  unfold goneRow
  rw [cell_of_row _ _ _ _ 3 (0, 0) hb, madeCells, Array.getElem?_map, Array.getElem?_range, if_pos (by omega)]
  simp [zero, Nat.mod_one]

def Hd.eff (x : Hd) (D : Dev) : Hd := if D.may then x else Hd.none
theorem DevIn.eff {w : World} {x : Hd} {D : Dev} (h : DevIn w x D) : DevIn w (x.eff D) D.eff := by
  unfold Hd.eff Dev.eff
  split
  · exact h
  · exact dev_none w
def RNewPost (x : Hd) (m : Nat) (w : World) (e : Ending) (w' : World) : Prop :=
  ∃ b ga S, e = .returned (.pointer (some ⟨b, 0, none⟩)) ∧ Rd b x ga m zero 0 w' S ∧ (∀ d, S d → w.heap.size ≤ d) ∧ Below w.heap.size w w'
theorem rnew_post (x : Hd) (m : Nat) (w w1 : World) (k : Below w.heap.size w w1) :
    RNewPost x m w (.returned (.pointer (some ⟨w1.heap.size + 1, 0, none⟩))) ((w1.alloc (goneRow m)).alloc (.cells #[.slice x.da x.dn x.dc, .slice x.ba x.bn x.bc, .slice x.sa x.sn x.sc, .slice x.ha x.hn x.hc, .slice (some ⟨w1.heap.size, 0, none⟩) m m, .int .i64 0] 41)) := by
  have hg := gone_new w1 m
  have hz : (w1.alloc (goneRow m)).heap.size = w1.heap.size + 1 := by simp
  have kg : Below w1.heap.size w1 (w1.alloc (goneRow m)) := (Below.refl _ _).alloc (Nat.le_refl _) _
  rw [← hz]
  generalize w1.alloc (goneRow m) = w2 at *
  have hb := heap_alloc_new w2 (.cells #[.slice x.da x.dn x.dc, .slice x.ba x.bn x.bc, .slice x.sa x.sn x.sc, .slice x.ha x.hn x.hc, .slice (some ⟨w1.heap.size, 0, none⟩) m m, .int .i64 0] 41)
  have s1 := k.size
  have kk : Below w2.heap.size w2 (w2.alloc (.cells #[.slice x.da x.dn x.dc, .slice x.ba x.bn x.bc, .slice x.sa x.sn x.sc, .slice x.ha x.hn x.hc, .slice (some ⟨w1.heap.size, 0, none⟩) m m, .int .i64 0] 41)) := (Below.refl _ _).alloc (Nat.le_refl _) _
  refine ⟨w2.heap.size, some ⟨w1.heap.size, 0, none⟩, fun d => d = w2.heap.size ∨ d = w1.heap.size, rfl, ⟨.inl rfl, ?_, ?_, ?_, ?_, ?_, ?_, ?_, ?_, frozen_of_row _ _ _ _ 41 hb, hg.only (S := fun _ => False) (Only.of_below kk) (fun _ _ _ _ h => h)⟩, ?_, (k.trans (kg.mono s1)).trans (kk.mono (by omega))⟩
  · rintro d (rfl | rfl)
    · simp
    · simp; omega
  · rintro d ⟨o, he⟩ _
    injection he with he; injection he with he
    exact ⟨.inr he.symm, by omega⟩
  · rw [cell_of_row _ _ _ _ 41 (0, 0) hb]; rfl
  · rw [cell_of_row _ _ _ _ 41 (0, 0) hb]; rfl
  · rw [cell_of_row _ _ _ _ 41 (0, 0) hb]; rfl
  · rw [cell_of_row _ _ _ _ 41 (0, 0) hb]; rfl
  · rw [cell_of_row _ _ _ _ 41 (0, 0) hb]; rfl
  · rw [cell_of_row _ _ _ _ 41 (0, 0) hb]; rfl
  · rintro d (rfl | rfl) <;> omega

theorem rnew_drew {x : Hd} {m : Nat} {w w' : World} {e : Ending} (h : RNewPost x m w e w') : RNewPost x m w e w'.drew := by
  obtain ⟨b, ga, S, h1, h2, h3, h4⟩ := h
  exact ⟨b, ga, S, h1, h2.on (Below.refl _ _).drew, h3, h4.drew⟩

set_option maxRecDepth 100000 in
set_option maxHeartbeats 4000000 in
theorem rnew_any (x : Hd) (D : Dev) (w : World) (h : DevIn w x D) (hf : D.few = true) : Calls Try.prog 14 #[x.val] w (RNewPost (x.eff D) D.eff.m w) := by
  have H := Lib.hid h
  have HM := Lib.hid (show (x.dn + 7) / 8 = D.m from by rw [Dev.m, h.data.len])
  have hdn : x.dn ≤ 400 := by
    have h1 := h.data.len
    simp [Dev.few] at hf
    omega
  clear h hf
  have K0 := Lib.hid (show Below w.heap.size w (w.alloc (.cells x.cells 30)) from (Below.refl _ _).alloc (Nat.le_refl _) _)
  have R0 := Lib.hid (Row.new w 30 x.cells)
  obtain ⟨da, dn, dc, ba, bn, bc, sa, sn, sc, ha, hn, hc⟩ := x
  replace K0 : Hid (Below w.heap.size w (w.alloc (.cells #[.slice da dn dc, .slice ba bn bc, .slice sa sn sc, .slice ha hn hc] 30))) := K0
  replace R0 : Hid (Row (w.alloc (.cells #[.slice da dn dc, .slice ba bn bc, .slice sa sn sc, .slice ha hn hc] 30)) w.heap.size 30 #[.slice da dn dc, .slice ba bn bc, .slice sa sn sc, .slice ha hn hc]) := R0
  show Calls Try.prog 14 #[.agg #[.slice da dn dc, .slice ba bn bc, .slice sa sn sc, .slice ha hn hc]] w _
  simp only at hdn HM
  go_enter Try.func14, Try.ntmps14
  go_wp2_with fail
  refine (rmay_any ⟨da, dn, dc, ba, bn, bc, sa, sn, sc, ha, hn, hc⟩ D _ (H.out.on K0.out)).mono ?_
  rintro e w1 ⟨rfl, k1⟩
  have K1 := Lib.hid (K0.out.trans (k1.mono K0.out.size)); have R1 := Lib.hid (R0.out.on k1)
  clear k1 K0 R0
  obtain ⟨z, hz⟩ : ∃ z, D.may = z := ⟨_, rfl⟩
  rw [hz]
  have HZ := Lib.hid hz
  clear hz
  cases z with
  | false =>
    have HE := Lib.hid (show D.eff.m = 0 ∧ Hd.eff ⟨da, dn, dc, ba, bn, bc, sa, sn, sc, ha, hn, hc⟩ D = Hd.none by simp [Dev.eff, Hd.eff, HZ.out, Dev.m, Dev.none])
    have hbl := R1.out.lt
    have f0 := R1.out.free 0; have f1 := R1.out.free 1; have f2 := R1.out.free 2; have f3 := R1.out.free 3
    have e0 := R1.out.at 0; have e1 := R1.out.at 1; have e2 := R1.out.at 2; have e3 := R1.out.at 3
    have RZ := Lib.hid ((((R1.out.setv 0 (.slice none 0 0)).setv 1 (.slice none 0 0)).setv 2 (.slice none 0 0)).setv 3 (.slice none 0 0))
    obtain ⟨W, hW⟩ : ∃ W, (((w1.setCell ⟨w.heap.size, 0, none⟩ (.slice none 0 0)).setCell ⟨w.heap.size, 1, none⟩ (.slice none 0 0)).setCell ⟨w.heap.size, 2, none⟩ (.slice none 0 0)).setCell ⟨w.heap.size, 3, none⟩ (.slice none 0 0) = W := ⟨_, rfl⟩
    have BZ := Lib.hid (show Box W w.heap.size Hd.none by rw [← hW]; exact box_of_row (show Row _ _ 30 Hd.none.cells from RZ.out))
    have KZ := Lib.hid (show Below w.heap.size w W by rw [← hW]; exact (((K1.out.setCell (Nat.le_refl _) _).setCell (Nat.le_refl _) _).setCell (Nat.le_refl _) _).setCell (Nat.le_refl _) _)
    go_upto_region 3 with fail
    clear hW RZ e0 e1 e2 e3 f0 f1 f2 f3 R1 hbl
    have BD := Lib.hid (BZ.out.on (Below.refl _ _).drew)
    obtain ⟨_, e0, e1, e2, e3⟩ := BD.out
    simp only [Hd.none] at e0 e1 e2 e3
    have S0 := And.intro e0 (And.intro e1 (And.intro e2 e3))
    clear e0 e1 e2 e3
    have hmk : ∀ w' : World, (Instr.makeSlice 28 (.int .i64 0) (.int .i64 0)).run Try.prog w' = .ok (.slice (some ⟨w'.heap.size, 0, none⟩) 0 0) (w'.alloc (goneRow 0)) := fun w' => run_make_gone w' 0 (by omega)
    have BG := BD.out.on ((Below.refl _ _).alloc (Nat.le_refl _) (goneRow 0))
    have S1 := And.intro BG.c0 (And.intro BG.c1 (And.intro BG.c2 BG.c3))
    have BH := BG.on ((Below.refl _ _).alloc (Nat.le_refl _) (.cells #[.slice none 0 0, .slice none 0 0, .slice none 0 0, .slice none 0 0, .slice (some ⟨W.drew.heap.size, 0, none⟩) 0 0, .int .i64 0] 41))
    have S2 := And.intro BH.c0 (And.intro BH.c1 (And.intro BH.c2 BH.c3))
    simp only [Hd.none] at S1 S2
    have h8 : IntKind.i64.wrap 8 = 8 := rfl
    have h7 : IntKind.i64.wrap (8 - 1) = 7 := rfl
    have h71 : IntKind.i64.wrap 7 = 7 := rfl
    have h0 : IntKind.i64.wrap ((7 : Int).tdiv 8) = 0 := rfl
    have h01 : (7 : Int).tdiv 8 = 0 := rfl
    have h02 : IntKind.i64.wrap 0 = 0 := rfl
    go_region_held3 (fun w' => w'.cell? ⟨w.heap.size, 0, none⟩ = some (.slice none 0 0) ∧ w'.cell? ⟨w.heap.size, 1, none⟩ = some (.slice none 0 0) ∧ w'.cell? ⟨w.heap.size, 2, none⟩ = some (.slice none 0 0) ∧ w'.cell? ⟨w.heap.size, 3, none⟩ = some (.slice none 0 0))
      (first | assumption | exact S1 | exact S2)
      (fail)
    have Z := Lib.hid (rnew_drew (rnew_post Hd.none 0 w W KZ.out))
    clear S0 S1 S2 BD BG BH
    go_wp2
    go_ret
    rw [HE.out.1, HE.out.2]
    exact Z.out
  | true =>
    have HE := Lib.hid (show D.eff.m = D.m ∧ Hd.eff ⟨da, dn, dc, ba, bn, bc, sa, sn, sc, ha, hn, hc⟩ D = ⟨da, dn, dc, ba, bn, bc, sa, sn, sc, ha, hn, hc⟩ by rw [Dev.eff, Hd.eff, HZ.out]; exact ⟨rfl, rfl⟩)
    have BZ := Lib.hid (show Box w1 w.heap.size ⟨da, dn, dc, ba, bn, bc, sa, sn, sc, ha, hn, hc⟩ from box_of_row R1.out)
    have hw1 : IntKind.i64.wrap ((dn : Int) + 8) = (dn : Int) + 8 := IntWalk.i64_in _ (by omega)
    have hw2 : IntKind.i64.wrap ((dn : Int) + 8 - 1) = (dn : Int) + 8 - 1 := IntWalk.i64_in _ (by omega)
    obtain ⟨m, hm⟩ : ∃ m, D.m = m := ⟨_, rfl⟩
    have HM2 := Lib.hid hm
    have hmm : m ≤ 100 := by have := HM.out; omega
    have hq : ((dn : Int) + 8 - 1) / 8 = (m : Int) := by have := HM.out; omega
    have hq2 : ((dn : Int) + 8 - 1).tdiv 8 = (m : Int) := by rw [Int.tdiv_eq_ediv_of_nonneg (by omega)]; exact hq
    have hw3 : IntKind.i64.wrap (m : Int) = (m : Int) := IntWalk.i64_in _ (by omega)
    clear hm
    have BD := Lib.hid (BZ.out.on (Below.refl _ _).drew)
    obtain ⟨_, e0, e1, e2, e3⟩ := BD.out
    simp only at e0 e1 e2 e3
    have S0 := And.intro e0 (And.intro e1 (And.intro e2 e3))
    clear e0 e1 e2 e3
    have hmk : ∀ w' : World, (Instr.makeSlice 28 (.int .i64 (m : Int)) (.int .i64 (m : Int))).run Try.prog w' = .ok (.slice (some ⟨w'.heap.size, 0, none⟩) m m) (w'.alloc (goneRow m)) := fun w' => run_make_gone w' m (by omega)
    have BG := BD.out.on ((Below.refl _ _).alloc (Nat.le_refl _) (goneRow m))
    have S1 := And.intro BG.c0 (And.intro BG.c1 (And.intro BG.c2 BG.c3))
    have BH := BG.on ((Below.refl _ _).alloc (Nat.le_refl _) (.cells #[.slice da dn dc, .slice ba bn bc, .slice sa sn sc, .slice ha hn hc, .slice (some ⟨w1.drew.heap.size, 0, none⟩) m m, .int .i64 0] 41))
    have S2 := And.intro BH.c0 (And.intro BH.c1 (And.intro BH.c2 BH.c3))
    simp only at S1 S2
    go_wp2_with fail
    go_region_held3 (fun w' => w'.cell? ⟨w.heap.size, 0, none⟩ = some (.slice da dn dc) ∧ w'.cell? ⟨w.heap.size, 1, none⟩ = some (.slice ba bn bc) ∧ w'.cell? ⟨w.heap.size, 2, none⟩ = some (.slice sa sn sc) ∧ w'.cell? ⟨w.heap.size, 3, none⟩ = some (.slice ha hn hc))
      (first | assumption | exact S1 | exact S2)
      (fail)
    have Z := Lib.hid (rnew_drew (rnew_post ⟨da, dn, dc, ba, bn, bc, sa, sn, sc, ha, hn, hc⟩ m w w1 K1.out))
    clear S0 S1 S2 BD BG BH
    go_wp2
    go_ret
    rw [HE.out.1, HE.out.2, HM2.out]
    exact Z.out

end Go.Proofs.Ytdfjhgibdabeeaa
