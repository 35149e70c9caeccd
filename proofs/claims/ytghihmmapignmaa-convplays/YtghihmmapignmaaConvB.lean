/- Contracts of conv's Pad and May, and of the reference's Pad. -/
import Derived.Test.YtghihmmapignmaaConvA
import Derived.WalkKit
import Derived.WalkSpells
import Derived.WalkLawsBesides
import Derived.Lib.Hide
import Derived.BigQuiet
namespace Go.Proofs.Ytghihmmapignmaa
open Go.RowKit

/-- Conversions in a variable, or in a struct, from a cell on. -/
structure Box (w : World) (b o : Nat) (x : Cf) : Prop where
  lt : b < w.heap.size
  c0 : w.cell? ⟨b, o, none⟩ = some (.bool x.sw)
  c1 : w.cell? ⟨b, o + 1, none⟩ = some (.bool x.bl)
  c2 : w.cell? ⟨b, o + 2, none⟩ = some (.bool x.ub)
  c3 : w.cell? ⟨b, o + 3, none⟩ = some (.bool x.lc)
  c4 : w.cell? ⟨b, o + 4, none⟩ = some (.bool x.uc)
  c5 : w.cell? ⟨b, o + 5, none⟩ = some (.bool x.ac)
  c6 : w.cell? ⟨b, o + 6, none⟩ = some (.bool x.eb)
  c7 : w.cell? ⟨b, o + 7, none⟩ = some (.bool x.ib)
  c8 : w.cell? ⟨b, o + 8, none⟩ = some (.int .i64 x.cb)
theorem Box.only {S : Nat → Prop} {w w' : World} {b o : Nat} {x : Cf} (h : Box w b o x) (k : Only S w w') (hn : ¬ S b) : Box w' b o x :=
  ⟨Nat.lt_of_lt_of_le h.lt k.size, (k.cell (p := ⟨b, o, none⟩) h.lt hn).trans h.c0, (k.cell (p := ⟨b, o + 1, none⟩) h.lt hn).trans h.c1, (k.cell (p := ⟨b, o + 2, none⟩) h.lt hn).trans h.c2, (k.cell (p := ⟨b, o + 3, none⟩) h.lt hn).trans h.c3,
    (k.cell (p := ⟨b, o + 4, none⟩) h.lt hn).trans h.c4, (k.cell (p := ⟨b, o + 5, none⟩) h.lt hn).trans h.c5, (k.cell (p := ⟨b, o + 6, none⟩) h.lt hn).trans h.c6, (k.cell (p := ⟨b, o + 7, none⟩) h.lt hn).trans h.c7, (k.cell (p := ⟨b, o + 8, none⟩) h.lt hn).trans h.c8⟩
theorem Box.on {w w' : World} {b o : Nat} {x : Cf} (h : Box w b o x) (k : Below w.heap.size w w') : Box w' b o x := h.only (S := fun _ => False) (Only.of_below k) (fun h => h)
theorem box_new (w : World) (x : Cf) : Box (w.alloc (.cells x.cells 23)) w.heap.size 0 x := by
  have hb := heap_alloc_new w (.cells x.cells 23)
  refine ⟨by simp, ?_, ?_, ?_, ?_, ?_, ?_, ?_, ?_, ?_⟩ <;> (rw [cell_of_row _ _ _ _ 23 (0, 0) hb]; rfl)

/-- A byte comes back; what was there is as it was. -/
def BytePost (n : Int) (w : World) (e : Ending) (w' : World) : Prop := e = .returned (.int .u8 n) ∧ Below w.heap.size w w'
def Cf.pad (x : Cf) : Int := bif (x.blocks || x.unblocks) then 32 else 0

set_option maxHeartbeats 1000000 in
theorem pad_any (x : Cf) (w : World) : Calls Try.prog 12 #[x.val] w (BytePost x.pad w) := by
  have P := Lib.hid (show (bif (x.blocks || x.unblocks) then 32 else 0) = x.pad from rfl)
  have B0 := Lib.hid (box_new w x)
  have CB := Lib.hid (blocks_any x)
  have CU := Lib.hid (unblocks_any x)
  generalize x.blocks = p at *
  generalize x.unblocks = q at *
  generalize x.pad = z at *
  obtain ⟨sw, bl, ub, lc, uc, ac, eb, ib, cb⟩ := x
  show Calls Try.prog 12 #[.agg #[.bool sw, .bool bl, .bool ub, .bool lc, .bool uc, .bool ac, .bool eb, .bool ib, .int .i64 cb]] w _
  go_enter Try.func12, Try.ntmps12
  go_wp2_with fail
  refine (CB.out _).mono ?_
  rintro e w1 ⟨rfl, k1⟩
  have K1 := Lib.hid (((Below.refl _ w).alloc (Nat.le_refl _) _).trans (k1.mono (by simp)))
  have B1 := Lib.hid (B0.out.on k1)
  clear k1 B0
  cases p
  · obtain ⟨_, c0, c1, c2, c3, c4, c5, c6, c7, c8⟩ := B1.out
    simp only [Nat.zero_add] at c1 c2 c3 c4 c5 c6 c7 c8
    go_wp2_with fail
    refine (CU.out _).mono ?_
    rintro e w2 ⟨rfl, k2⟩
    have K2 := Lib.hid (K1.out.trans (k2.mono K1.out.size))
    clear k2 c0 c1 c2 c3 c4 c5 c6 c7 c8
    cases q
    · go_wp2
      go_ret
      exact ⟨by rw [← P.out]; rfl, K2.out⟩
    · go_wp2
      go_ret
      exact ⟨by rw [← P.out]; rfl, K2.out⟩
  · go_wp2
    go_ret
    exact ⟨by rw [← P.out]; rfl, K1.out⟩

set_option maxHeartbeats 1000000 in
theorem rpad_any (x : Cf) (w : World) : Calls Try.prog 14 #[x.val] w (BytePost x.pad w) := by
  have P := Lib.hid (show (bif (x.blocks || x.unblocks) then 32 else 0) = x.pad from rfl)
  have B0 := Lib.hid (box_new w x)
  have CB := Lib.hid (rblocks_any x)
  have CU := Lib.hid (runblocks_any x)
  generalize x.blocks = p at *
  generalize x.unblocks = q at *
  generalize x.pad = z at *
  obtain ⟨sw, bl, ub, lc, uc, ac, eb, ib, cb⟩ := x
  show Calls Try.prog 14 #[.agg #[.bool sw, .bool bl, .bool ub, .bool lc, .bool uc, .bool ac, .bool eb, .bool ib, .int .i64 cb]] w _
  go_enter Try.func14, Try.ntmps14
  go_wp2_with fail
  refine (CB.out _).mono ?_
  rintro e w1 ⟨rfl, k1⟩
  have K1 := Lib.hid (((Below.refl _ w).alloc (Nat.le_refl _) _).trans (k1.mono (by simp)))
  have B1 := Lib.hid (B0.out.on k1)
  clear k1 B0
  cases p
  · obtain ⟨_, c0, c1, c2, c3, c4, c5, c6, c7, c8⟩ := B1.out
    simp only [Nat.zero_add] at c1 c2 c3 c4 c5 c6 c7 c8
    go_wp2_with fail
    refine (CU.out _).mono ?_
    rintro e w2 ⟨rfl, k2⟩
    have K2 := Lib.hid (K1.out.trans (k2.mono K1.out.size))
    clear k2 c0 c1 c2 c3 c4 c5 c6 c7 c8
    cases q
    · go_wp2
      go_ret
      exact ⟨by rw [← P.out]; rfl, K2.out⟩
    · go_wp2
      go_ret
      exact ⟨by rw [← P.out]; rfl, K2.out⟩
  · go_wp2
    go_ret
    exact ⟨by rw [← P.out]; rfl, K1.out⟩

set_option maxHeartbeats 4000000 in
theorem may_any (x : Cf) (w : World) : Calls Try.prog 11 #[x.val] w (TruthPost x.may w) := by
  have P := Lib.hid (show (!(decide (1 < x.codes) || (x.lc && x.uc) || (x.blocks && x.unblocks)) && (decide ((bif (x.blocks || x.unblocks) then (1 : Int) else 0) ≤ x.cb) && decide (x.cb ≤ 4096))) = x.may from rfl)
  have B0 := Lib.hid (box_new w x)
  have CB := Lib.hid (blocks_any x)
  have CU := Lib.hid (unblocks_any x)
  have CN := Lib.hid (codes_any x)
  generalize x.blocks = p at *
  generalize x.unblocks = q at *
  generalize x.codes = n at *
  generalize x.may = z at *
  obtain ⟨sw, bl, ub, lc, uc, ac, eb, ib, cb⟩ := x
  simp only at P
  show Calls Try.prog 11 #[.agg #[.bool sw, .bool bl, .bool ub, .bool lc, .bool uc, .bool ac, .bool eb, .bool ib, .int .i64 cb]] w _
  go_enter Try.func11, Try.ntmps11
  go_wp2_with fail
  refine (CN.out _).mono ?_
  rintro e w1 ⟨rfl, k1⟩
  have K1 := Lib.hid (((Below.refl _ w).alloc (Nat.le_refl _) _).trans (k1.mono (by simp)))
  have B1 := Lib.hid (B0.out.on k1)
  clear k1 B0
  obtain ⟨_, c0, c1, c2, c3, c4, c5, c6, c7, c8⟩ := B1.out
  simp only [Nat.zero_add] at c1 c2 c3 c4 c5 c6 c7 c8
  by_cases hn : 1 < n
  · have hn1 : decide ((1 : Int) < (n : Int)) = true := by simp; omega
    go_wp2
    go_ret
    exact ⟨by rw [← P.out]; simp [hn], K1.out⟩
  · have hn1 : decide ((1 : Int) < (n : Int)) = false := by simp; omega
    have P1 := Lib.hid (show (!((lc && uc) || (p && q)) && (decide ((bif (p || q) then (1 : Int) else 0) ≤ cb) && decide (cb ≤ 4096))) = z by rw [← P.out]; simp [hn])
    clear P hn
    cases hlu : (lc && uc)
    · have P2 := Lib.hid (show (!(p && q) && (decide ((bif (p || q) then (1 : Int) else 0) ≤ cb) && decide (cb ≤ 4096))) = z by rw [← P1.out, hlu]; rfl)
      clear P1
      cases lc
      case' false => clear hlu
      case' true =>
        obtain rfl : uc = false := by simpa using hlu
        clear hlu
      all_goals
        go_wp2_with fail
        refine (CB.out _).mono ?_
        rintro e w2 ⟨rfl, k2⟩
        have K2 := Lib.hid (K1.out.trans (k2.mono K1.out.size))
        have B2 := Lib.hid (B1.out.on k2)
        clear k2 B1 c0 c1 c2 c3 c4 c5 c6 c7 c8 K1
        obtain ⟨_, c0, c1, c2, c3, c4, c5, c6, c7, c8⟩ := B2.out
        simp only [Nat.zero_add] at c1 c2 c3 c4 c5 c6 c7 c8
        cases p
        · go_wp2_with fail
          refine (CB.out _).mono ?_
          rintro e w3 ⟨rfl, k3⟩
          have K3 := Lib.hid (K2.out.trans (k3.mono K2.out.size))
          have B3 := Lib.hid (B2.out.on k3)
          clear k3 B2 c0 c1 c2 c3 c4 c5 c6 c7 c8 K2
          obtain ⟨_, c0, c1, c2, c3, c4, c5, c6, c7, c8⟩ := B3.out
          simp only [Nat.zero_add] at c1 c2 c3 c4 c5 c6 c7 c8
          go_wp2_with fail
          refine (CU.out _).mono ?_
          rintro e w4 ⟨rfl, k4⟩
          have K4 := Lib.hid (K3.out.trans (k4.mono K3.out.size))
          have B4 := Lib.hid (B3.out.on k4)
          clear k4 B3 c0 c1 c2 c3 c4 c5 c6 c7 c8 K3
          obtain ⟨_, c0, c1, c2, c3, c4, c5, c6, c7, c8⟩ := B4.out
          simp only [Nat.zero_add] at c1 c2 c3 c4 c5 c6 c7 c8
          cases q
          · have P3 := Lib.hid (show (decide ((0 : Int) ≤ cb) && decide (cb ≤ 4096)) = z by rw [← P2.out]; rfl)
            clear P2
            by_cases h1 : 0 ≤ cb
            · have d1 : decide (0 ≤ cb) = true := by simp; omega
              go_wp2
              go_ret
              exact ⟨by rw [← P3.out, d1]; simp, K4.out⟩
            · have d1 : decide (0 ≤ cb) = false := by simp; omega
              go_wp2
              go_ret
              exact ⟨by rw [← P3.out, d1]; simp, K4.out⟩
          · have P3 := Lib.hid (show (decide ((1 : Int) ≤ cb) && decide (cb ≤ 4096)) = z by rw [← P2.out]; rfl)
            clear P2
            by_cases h1 : 1 ≤ cb
            · have d1 : decide (1 ≤ cb) = true := by simp; omega
              go_wp2
              go_ret
              exact ⟨by rw [← P3.out, d1]; simp, K4.out⟩
            · have d1 : decide (1 ≤ cb) = false := by simp; omega
              go_wp2
              go_ret
              exact ⟨by rw [← P3.out, d1]; simp, K4.out⟩
        · go_wp2_with fail
          refine (CU.out _).mono ?_
          rintro e w3 ⟨rfl, k3⟩
          have K3 := Lib.hid (K2.out.trans (k3.mono K2.out.size))
          have B3 := Lib.hid (B2.out.on k3)
          clear k3 B2 c0 c1 c2 c3 c4 c5 c6 c7 c8 K2
          obtain ⟨_, c0, c1, c2, c3, c4, c5, c6, c7, c8⟩ := B3.out
          simp only [Nat.zero_add] at c1 c2 c3 c4 c5 c6 c7 c8
          cases q
          · have P3 := Lib.hid (show (decide ((1 : Int) ≤ cb) && decide (cb ≤ 4096)) = z by rw [← P2.out]; rfl)
            clear P2
            go_wp2_with fail
            refine (CB.out _).mono ?_
            rintro e w4 ⟨rfl, k4⟩
            have K4 := Lib.hid (K3.out.trans (k4.mono K3.out.size))
            have B4 := Lib.hid (B3.out.on k4)
            clear k4 B3 c0 c1 c2 c3 c4 c5 c6 c7 c8 K3
            obtain ⟨_, c0, c1, c2, c3, c4, c5, c6, c7, c8⟩ := B4.out
            simp only [Nat.zero_add] at c1 c2 c3 c4 c5 c6 c7 c8
            by_cases h1 : 1 ≤ cb
            · have d1 : decide (1 ≤ cb) = true := by simp; omega
              go_wp2
              go_ret
              exact ⟨by rw [← P3.out, d1]; simp, K4.out⟩
            · have d1 : decide (1 ≤ cb) = false := by simp; omega
              go_wp2
              go_ret
              exact ⟨by rw [← P3.out, d1]; simp, K4.out⟩
          · go_wp2
            go_ret
            exact ⟨by rw [← P2.out]; rfl, K3.out⟩
    · obtain ⟨rfl, rfl⟩ : lc = true ∧ uc = true := by simpa using hlu
      go_wp2
      go_ret
      exact ⟨by rw [← P1.out]; rfl, K1.out⟩

end Go.Proofs.Ytghihmmapignmaa
