/- Contracts of off.Parts and of the reference Parts. -/
import Derived.Test.YtamignakfliocaaRows
import Derived.Test.YtamignakfliocaaPlainP
import Derived.Test.YtamignakfliocaaWalksF
import Derived.WalkKit
import Derived.WalkSpells
import Derived.WalkLawsBesides
import Derived.Lib.Hide
import Derived.Deep.QuietTactic
import Derived.BigQuiet
namespace Go.Proofs.Ytamignakfliocaa
open Go.RowKit

theorem info27 : (Try.prog.info? 27).map (fun i => (i.zero, i.size, i.bytes)) = some (some (.agg #[.int .i64 0, .int .i64 0]), 2, 16) := by kernel_rfl

/-- What Parts leaves: a row of its own, with the parts; nothing else has turned. -/
def PartsPost (u p l : Int) (w : World) (e : Ending) (w' : World) : Prop :=
  ∃ v, e = .returned v ∧ w'.ownsRow (w.heap.size + 1) 27 2 v (Plain.partsOf u p l).length (Plain.spanCells (Plain.partsOf u p l)) ∧ Below w.heap.size w w'

def boxLen (w : World) (b : Nat) : Nat := (intOf ((w.cell? ⟨b, 1, none⟩).getD undef)).toNat

theorem boxLen_of {w : World} {b : Nat} {t : TypeId} {p l : Int} (h : BoxAt w b t p l) : boxLen w b = l.toNat := by
  unfold boxLen
  rw [h.one.2.1]
  rfl

set_option maxHeartbeats 400000 in
theorem parts_noA (p l u : Int) (w : World) (hs : Plain.spanB p l = false) :
    Calls Try.prog 13 #[.agg #[.int .i64 p, .int .i64 l], .int .i64 u] w (PartsPost u p l w) := by
  have hv : Plain.partsOf u p l = [] := by rw [Plain.partsOf, if_neg (by simp [hs])]
  have HV := Lib.hid hv; clear hv
  have HS := Lib.hid hs; clear hs
  go_enter Try.func13, Try.ntmps13
  go_wp2_with fail
  refine (span_any _ _ _).mono ?_
  rintro e w1 ⟨rfl, k1⟩
  rw [HS.out]
  have k4 : Below w.heap.size w w1 := ((Below.refl w.heap.size w).alloc (Nat.le_refl _) _).trans (k1.mono (by simp))
  go_wp2
  go_ret
  exact ⟨_, rfl, by rw [HV.out]; exact World.ownsRow_nil _ _ _ _, k4⟩

set_option maxHeartbeats 400000 in
theorem parts_yes (p l u : Int) (w : World) (hs : Plain.spanB p l = true) (hl : l ≤ 4096) (hu : 1 ≤ u) (hu2 : u ≤ 9223372036854775807) :
    Calls Try.prog 13 #[.agg #[.int .i64 p, .int .i64 l], .int .i64 u] w (PartsPost u p l w) := by
  obtain ⟨i0, hi, hz0, hz1, hz2⟩ := info_parts info27
  have hv : Plain.partsOf u p l = Plain.partsFrom u l.toNat p l := by rw [Plain.partsOf, if_pos ⟨hs, hl, hu⟩]
  have HV := Lib.hid hv; clear hv
  have HS := Lib.hid hs
  rw [Plain.span_iff] at hs
  obtain ⟨hp0, hp1, hl0, hl1⟩ := hs
  go_enter Try.func13, Try.ntmps13
  go_wp2_with fail
  refine (span_any _ _ _).mono ?_
  rintro e w1 ⟨rfl, k1⟩
  rw [HS.out]
  have s1 : w.heap.size + 1 ≤ w1.heap.size := by have := k1.size; simpa using this
  have b1 : BoxAt w1 w.heap.size 27 p l := (BoxAt.new w 27 p l).below k1 (by simp)
  obtain ⟨c0, c1, f0, f1⟩ := b1.one
  have k4 : Below w.heap.size w w1 := ((Below.refl w.heap.size w).alloc (Nat.le_refl _) _).trans (k1.mono (by simp))
  go_wp2
  go_loopw [5] (fun v wr => ∃ (f : Nat) (p' l' : Int) (acc : List (Int × Int)), BoxAt wr w.heap.size 27 p' l' ∧ wr.ownsRow (w.heap.size + 1) 27 2 v acc.length (Plain.spanCells acc) ∧ Below w.heap.size w wr ∧ 0 ≤ p' ∧ 0 ≤ l' ∧ l' ≤ 4611686018427387904 - p' ∧ acc.length + l'.toNat ≤ 4096 ∧ l'.toNat ≤ f ∧ Hid (Plain.partsFrom u l.toNat p l = acc ++ Plain.partsFrom u f p' l'))
    (fun _ wr => boxLen wr w.heap.size)
  case atStart => exact ⟨l.toNat, p, l, [], b1, World.ownsRow_nil _ _ _ _, k4, hp0, hl0, hl1, by simp; omega, Nat.le_refl _, by simp [Hid]⟩
  case round =>
    clear c0 c1 f0 f1 b1 k4 k1 s1
    obtain ⟨f, p', l', acc, hbox, hown, hbel, hp', hl', hpl, hacc, hf, HE⟩ := hrel
    obtain ⟨c0, c1, f0, f1⟩ := hbox.one
    have hlt := hbox.lt
    by_cases hpos : 0 < l'
    · obtain ⟨r0, r1, r2⟩ := Plain.rem_bounds p' u hp' hu
      obtain ⟨n0, n1, n2⟩ := Plain.partLen_bounds u p' l' hu hp' hpos
      have hst := Plain.partsFrom_step u f p' l' hpos hf
      have HST := Lib.hid hst; clear hst
      have hn : Plain.partLen u p' l' = if l' < u - p' % u then l' else u - p' % u := rfl
      have HN := Lib.hid hn; clear hn
      have hownD : ∀ m, (wr.drewN m).ownsRow (w.heap.size + 1) 27 2 u5 acc.length (Plain.spanCells acc) := fun _ => hown
      have hln := hown.lt
      rcases Int.lt_or_le l' (u - p' % u) with hmin | hmin
      · rw [show Plain.partLen u p' l' = l' from HN.out.trans (if_pos hmin)] at HST n0 n1 n2
        go_wp2
        go_quiet (fail)
        go_wp2_with (at_builtin; refine wpList_append_own _ rfl _ _ 24 rfl (w.heap.size + 1) 27 i0 (.agg #[.int .i64 0, .int .i64 0]) 2 16 Try.underlying24 hi hz0 hz1 hz2 rfl (by decide) _ _ _ rfl ((hownD nq).alloc _) ⟨wr.heap.size, 0, none⟩ 1 1 [.int .i64 p', .int .i64 (l')] rfl rfl (cell_two_new _ _ _ _) ?_ ?_ ?_ ?_ ?_)
        · intro x hx
          simp at hx
          rcases hx with rfl | rfl <;> rfl
        · unfold maxLen; omega
        · omega
        · simp; omega
        · intro v' w3 hown3 hgrow hnil
          clear hnil
          have hblk : w3.heap[w.heap.size]? = wr.heap[w.heap.size]? := by
            rw [hgrow.block w.heap.size (by simp; omega) (fun h => by have := (hln _ h.symm).1; omega)]
            exact Below.heap_alloc (wr.drewN nq) _ _ hlt
          have hbox3 := hbox.of_block hblk
          have hbel3 : Below w.heap.size w w3 := Below.grown ((below_drewN hbel nq).alloc (by simp; omega) _) hgrow (by simp; omega) (fun j hj => by have := (hln _ hj).1; omega)
          have hlt3 := hbox3.lt
          have hput := hbox3.put (p' + (l')) 0
          have hown4 := ownsRow_setCell_below (ownsRow_setCell_below hown3 (a := ⟨w.heap.size, 0, none⟩) (by simp) (.int .i64 (p' + (l')))) (a := ⟨w.heap.size, 1, none⟩) (by simp) (.int .i64 0)
          have hbel4 := below_set2 hbel3 (b := w.heap.size) (Nat.le_refl _) (.int .i64 (p' + (l'))) (.int .i64 0)
          obtain ⟨e0, e1, g0, g1⟩ := hbox3.one
          clear c0 c1 f0 f1 hownD hown
          have X := Lib.hid hput
          have Y := Lib.hid hown4
          have Z := Lib.hid hbel4
          clear hput hown4 hbel4 hown3 hblk hgrow
          go_wp2
          go_roundw
          case rel => exact ⟨f - 1, p' + (l'), 0, acc ++ [(p', l')], X.out, by rw [List.length_append, Plain.spanCells_append]; exact Y.out, Z.out, by omega, by omega, by omega, by simp; omega, by omega, by unfold Hid; rw [HE.out, HST.out]; simp⟩
          case measure => rw [boxLen_of X.out, boxLen_of hbox]; omega
      · rw [show Plain.partLen u p' l' = u - p' % u from HN.out.trans (if_neg (by omega))] at HST n0 n1 n2
        go_wp2
        go_quiet (fail)
        go_wp2_with (at_builtin; refine wpList_append_own _ rfl _ _ 24 rfl (w.heap.size + 1) 27 i0 (.agg #[.int .i64 0, .int .i64 0]) 2 16 Try.underlying24 hi hz0 hz1 hz2 rfl (by decide) _ _ _ rfl ((hownD nq).alloc _) ⟨wr.heap.size, 0, none⟩ 1 1 [.int .i64 p', .int .i64 (u - p' % u)] rfl rfl (cell_two_new _ _ _ _) ?_ ?_ ?_ ?_ ?_)
        · intro x hx
          simp at hx
          rcases hx with rfl | rfl <;> rfl
        · unfold maxLen; omega
        · omega
        · simp; omega
        · intro v' w3 hown3 hgrow hnil
          clear hnil
          have hblk : w3.heap[w.heap.size]? = wr.heap[w.heap.size]? := by
            rw [hgrow.block w.heap.size (by simp; omega) (fun h => by have := (hln _ h.symm).1; omega)]
            exact Below.heap_alloc (wr.drewN nq) _ _ hlt
          have hbox3 := hbox.of_block hblk
          have hbel3 : Below w.heap.size w w3 := Below.grown ((below_drewN hbel nq).alloc (by simp; omega) _) hgrow (by simp; omega) (fun j hj => by have := (hln _ hj).1; omega)
          have hlt3 := hbox3.lt
          have hput := hbox3.put (p' + (u - p' % u)) (l' - (u - p' % u))
          have hown4 := ownsRow_setCell_below (ownsRow_setCell_below hown3 (a := ⟨w.heap.size, 0, none⟩) (by simp) (.int .i64 (p' + (u - p' % u)))) (a := ⟨w.heap.size, 1, none⟩) (by simp) (.int .i64 (l' - (u - p' % u)))
          have hbel4 := below_set2 hbel3 (b := w.heap.size) (Nat.le_refl _) (.int .i64 (p' + (u - p' % u))) (.int .i64 (l' - (u - p' % u)))
          obtain ⟨e0, e1, g0, g1⟩ := hbox3.one
          clear c0 c1 f0 f1 hownD hown
          have X := Lib.hid hput
          have Y := Lib.hid hown4
          have Z := Lib.hid hbel4
          clear hput hown4 hbel4 hown3 hblk hgrow
          go_wp2
          go_roundw
          case rel => exact ⟨f - 1, p' + (u - p' % u), l' - (u - p' % u), acc ++ [(p', u - p' % u)], X.out, by rw [List.length_append, Plain.spanCells_append]; exact Y.out, Z.out, by omega, by omega, by omega, by simp; omega, by omega, by unfold Hid; rw [HE.out, HST.out]; simp⟩
          case measure => rw [boxLen_of X.out, boxLen_of hbox]; omega
    · have hq : Plain.partsFrom u l.toNat p l = acc := by rw [HE.out, Plain.partsFrom_zero _ _ _ _ hpos, List.append_nil]
      have HQ := Lib.hid hq; clear hq
      go_wp2
      go_ret
      exact ⟨_, rfl, by rw [HV.out, HQ.out]; exact hown, hbel⟩

set_option maxHeartbeats 400000 in
theorem parts_noB (p l u : Int) (w : World) (hs : Plain.spanB p l = true) (hl : ¬ (l ≤ 4096 ∧ 1 ≤ u)) :
    Calls Try.prog 13 #[.agg #[.int .i64 p, .int .i64 l], .int .i64 u] w (PartsPost u p l w) := by
  have hv : Plain.partsOf u p l = [] := by rw [Plain.partsOf, if_neg (fun h => hl h.2)]
  have HV := Lib.hid hv; clear hv
  have HS := Lib.hid hs; clear hs
  by_cases h1 : l ≤ 4096
  · have h2 : u < 1 := by omega
    clear hl
    go_enter Try.func13, Try.ntmps13
    go_wp2_with fail
    refine (span_any _ _ _).mono ?_
    rintro e w1 ⟨rfl, k1⟩
    rw [HS.out]
    have b1 : BoxAt w1 w.heap.size 27 p l := (BoxAt.new w 27 p l).below k1 (by simp)
    obtain ⟨c0, c1, f0, f1⟩ := b1.one
    have k4 : Below w.heap.size w w1 := ((Below.refl w.heap.size w).alloc (Nat.le_refl _) _).trans (k1.mono (by simp))
    go_wp2
    go_ret
    exact ⟨_, rfl, by rw [HV.out]; exact World.ownsRow_nil _ _ _ _, k4⟩
  · clear hl
    go_enter Try.func13, Try.ntmps13
    go_wp2_with fail
    refine (span_any _ _ _).mono ?_
    rintro e w1 ⟨rfl, k1⟩
    rw [HS.out]
    have b1 : BoxAt w1 w.heap.size 27 p l := (BoxAt.new w 27 p l).below k1 (by simp)
    obtain ⟨c0, c1, f0, f1⟩ := b1.one
    have k4 : Below w.heap.size w w1 := ((Below.refl w.heap.size w).alloc (Nat.le_refl _) _).trans (k1.mono (by simp))
    go_wp2
    go_ret
    exact ⟨_, rfl, by rw [HV.out]; exact World.ownsRow_nil _ _ _ _, k4⟩

theorem parts_any (p l u : Int) (w : World) (hu2 : u ≤ 9223372036854775807) :
    Calls Try.prog 13 #[.agg #[.int .i64 p, .int .i64 l], .int .i64 u] w (PartsPost u p l w) := by
  cases hs : Plain.spanB p l
  · exact parts_noA p l u w hs
  · by_cases h : l ≤ 4096 ∧ 1 ≤ u
    · exact parts_yes p l u w hs h.1 h.2 hu2
    · exact parts_noB p l u w hs h

end Go.Proofs.Ytamignakfliocaa
