/- Contract of runs.join. -/
import Derived.Test.YtjmgdnkfhfbbiaaRows
import Derived.Test.YtjmgdnkfhfbbiaaWalksA
import Derived.WalkKit
import Derived.WalkSpells
import Derived.WalkLawsBesides
import Derived.Lib.Hide
import Derived.Deep.QuietTactic
import Derived.BigQuiet
import Derived.StillTailTactics
import Derived.Deep.AppendLies
import Derived.Laws.OwnMore
import Derived.Maps.AppendAt
namespace Go.Proofs.Ytjmgdnkfhfbbiaa
open Go.RowKit

theorem info26 : (Try.prog.info? 26).map (fun i => (i.zero, i.size, i.bytes)) = some (some (.agg #[.int .i64 0, .int .i64 0, .bool false]), 3, 24) := by kernel_rfl

theorem own_below {w w' : World} {base : Nat} {e : TypeId} {size : Nat} {v : Value} {n : Nat} {xs : List Value} (h : w.ownsRow base e size v n xs) (hb : Below w.heap.size w w') : w'.ownsRow base e size v n xs :=
  h.kept (row := none) ⟨hb.os, hb.tape, hb.output, hb.size, fun k hk _ => hb.block k hk⟩ (by cases v.ownBlock <;> simp)

/-- append of one run onto a row of runs of the call's own. -/
theorem append_run {w : World} {ops : Array Oper} {rest : List Oper} {o : Oper} {a : Act} {Q : Exit → Act → World → Prop} (hgd : o.guard = none) (s x : Operand)
    (ho : o.op = .call { callee := .builtin .append, args := #[s, x], argTypes := #[22, 22] })
    (base : Nat) (v : Value) (acc : List Plain.Run) (hs : a.eval s = v) (hown : w.ownsRow base 26 3 v acc.length (Plain.runCells acc)) (p l : Int) (z : Bool) (b : Nat) (hbn : b = w.heap.size)
    (hx : a.eval x = .slice (some ⟨b, 0, none⟩) 1 1)
    (hb : acc.length + 1 ≤ 1000000) (hbase : base ≤ w.heap.size)
    (h : ∀ v' w', w'.ownsRow base 26 3 v' (acc ++ [(⟨p, l, z⟩ : Plain.Run)]).length (Plain.runCells (acc ++ [(⟨p, l, z⟩ : Plain.Run)])) → Below base w w' → wpList Try.prog ops Q rest (a.put o.dst v') w') :
    wpList Try.prog ops Q (o :: rest) a (w.alloc (.cells #[.int .i64 p, .int .i64 l, .bool z] 26)) := by
  obtain ⟨i0, hi, hz0, hz1, hz2⟩ := info_parts info26
  subst hbn
  refine wpList_append_own _ hgd s x 22 ho base 26 i0 (.agg #[.int .i64 0, .int .i64 0, .bool false]) 3 24 Try.underlying22 hi hz0 hz1 hz2 rfl (by decide) v acc.length _ hs (hown.alloc _) ⟨w.heap.size, 0, none⟩ 1 1 [.int .i64 p, .int .i64 l, .bool z] hx rfl (World.news_of_block (heap_alloc_new w _)) ?_ (by unfold maxLen; omega) (by omega) (by simp; omega) ?_
  · intro u hu
    simp at hu
    rcases hu with rfl | rfl | rfl <;> rfl
  · intro v' w' h1 h2 _
    refine h v' w' ?_ ?_
    · rw [List.length_append, Plain.runCells_append]
      exact h1
    · exact Below.grown ((Below.refl base w).alloc hbase _) h2 (by simp; omega) (fun k hk => (hown.lt k hk).1)

def JoinPost (base : Nat) (acc : List Plain.Run) (r : Plain.Run) (w : World) (e : Ending) (w' : World) : Prop :=
  ∃ v', e = .returned v' ∧ w'.ownsRow base 26 3 v' (Plain.joinS acc r).length (Plain.runCells (Plain.joinS acc r)) ∧ Below base w w'

/-- The piece lies in a variable. -/
theorem box3 (w : World) (t : TypeId) (p l : Int) (z : Bool) (m : Nat) :
    ((w.alloc (.cells #[.int .i64 p, .int .i64 l, .bool z] t)).drewN m).cell? ⟨w.heap.size, 0, none⟩ = some (.int .i64 p) ∧ ((w.alloc (.cells #[.int .i64 p, .int .i64 l, .bool z] t)).drewN m).cell? ⟨w.heap.size, 1, none⟩ = some (.int .i64 l) ∧ ((w.alloc (.cells #[.int .i64 p, .int .i64 l, .bool z] t)).drewN m).cell? ⟨w.heap.size, 2, none⟩ = some (.bool z) := by
  refine ⟨?_, ?_, ?_⟩ <;> simp [go_sem]

set_option maxHeartbeats 1000000 in
theorem join_nil (v : Value) (p l : Int) (z : Bool) (w : World) (base : Nat) (hown : w.ownsRow base 26 3 v 0 []) (hbase : base ≤ w.heap.size) :
    Calls Try.prog 17 #[v, .agg #[.int .i64 p, .int .i64 l, .bool z]] w (JoinPost base [] ⟨p, l, z⟩ w) := by
  have OWN := Lib.hid hown
  have hform : ∃ A c, v = .slice A 0 c := by
    rcases hown.2 with ⟨rfl, _⟩ | ⟨g, cap, cur, rfl, _⟩
    · exact ⟨_, _, rfl⟩
    · exact ⟨_, _, rfl⟩
  obtain ⟨A, c, rfl⟩ := hform
  clear hown
  have k0 : Below base w (w.alloc (.cells #[.int .i64 p, .int .i64 l, .bool z] 26)) := (Below.refl base w).alloc hbase _
  have K0 := Lib.hid k0
  clear k0
  go_enter Try.func17, Try.ntmps17
  go_wp2
  go_quiet (fail)
  obtain ⟨c0, c1, c2⟩ := box3 w 26 p l z nq
  go_wp2_with (at_builtin; refine append_run rfl _ _ rfl base _ [] rfl (show World.ownsRow _ base 26 3 _ 0 [] from OWN.out.alloc _) p l z _ (by simp) rfl (by simp) (by simp; omega) ?_; intro v2 w2 o2 b2; have O2 := Lib.hid o2; have B2 := Lib.hid ((below_drewN K0.out nq).trans b2); clear o2 b2)
  go_ret
  exact ⟨_, rfl, O2.out, B2.out⟩

/-- What is known of a row of runs that is not empty. -/
theorem own_last {w : World} {base : Nat} {v : Value} {i : List Plain.Run} {q : Plain.Run} (h : w.ownsRow base 26 3 v (i ++ [q]).length (Plain.runCells (i ++ [q]))) :
    ∃ g c, v = .slice (some ⟨g, 0, none⟩) (i.length + 1) c ∧ base ≤ g ∧ g < w.heap.size ∧ w.cell? ⟨g, i.length * 3 + 1, none⟩ = some (.int .i64 q.l) ∧ w.cell? ⟨g, i.length * 3 + 2, none⟩ = some (.bool q.z) ∧ w.frozen? ⟨g, i.length * 3 + 1, none⟩ = false := by
  have h3 := h.lt
  obtain ⟨g, c, rfl⟩ : ∃ g c, v = .slice (some ⟨g, 0, none⟩) (i ++ [q]).length c := by
    rcases h.2 with ⟨_, h0⟩ | ⟨g, cap, cur, rfl, _⟩
    · simp at h0
    · exact ⟨_, _, rfl⟩
  obtain ⟨_, p1, p2⟩ := Plain.runCells_at (i ++ [q]) i.length (by simp)
  have e : (i ++ [q]).getD i.length default = q := by simp
  rw [e] at p1 p2
  refine ⟨g, c, by simp, (h3 g rfl).1, (h3 g rfl).2, ?_, ?_, h.frozenAt _⟩
  · rw [h.cellAt _ (by simp; omega)]; exact p1
  · rw [h.cellAt _ (by simp; omega)]; exact p2

set_option maxHeartbeats 1000000 in
theorem join_other (v : Value) (i : List Plain.Run) (q : Plain.Run) (p l : Int) (z : Bool) (w : World) (base : Nat) (hown : w.ownsRow base 26 3 v (i ++ [q]).length (Plain.runCells (i ++ [q]))) (hbase : base ≤ w.heap.size) (hi : i.length ≤ 100000) (hz : q.z ≠ z) :
    Calls Try.prog 17 #[v, .agg #[.int .i64 p, .int .i64 l, .bool z]] w (JoinPost base (i ++ [q]) ⟨p, l, z⟩ w) := by
  have OWN := Lib.hid hown
  have HJ := Lib.hid (Plain.joinS_other i q ⟨p, l, z⟩ hz)
  obtain ⟨g, c, rfl, hg0, hg, e1, e2, e3⟩ := own_last hown
  clear hown
  have hzz : (q.z == z) = false := by simpa using hz
  clear hz
  have k0 : Below base w (w.alloc (.cells #[.int .i64 p, .int .i64 l, .bool z] 26)) := (Below.refl base w).alloc hbase _
  have K0 := Lib.hid k0
  clear k0
  generalize q.z = qz at *
  generalize hm : i.length = m at *
  have HM := Lib.hid hm
  clear hm
  have hneg : decide ((m : Int) < 0) = false := by simp
  go_enter Try.func17, Try.ntmps17
  go_wp2
  go_quiet (fail)
  obtain ⟨c0, c1, c2⟩ := box3 w 26 p l z nq
  go_wp2_with (at_builtin; refine append_run rfl _ _ rfl base _ (i ++ [q]) rfl (show World.ownsRow _ base 26 3 _ _ _ from OWN.out.alloc _) p l z _ (by simp) rfl (by have := HM.out; simp; omega) (by simp; omega) ?_; intro v2 w2 o2 b2; have O2 := Lib.hid o2; have B2 := Lib.hid ((below_drewN K0.out nq).trans b2); clear o2 b2)
  go_ret
  exact ⟨_, rfl, by rw [HJ.out]; exact O2.out, B2.out⟩

set_option maxHeartbeats 1000000 in
theorem join_same (v : Value) (i : List Plain.Run) (q : Plain.Run) (p l : Int) (z : Bool) (w : World) (base : Nat) (hown : w.ownsRow base 26 3 v (i ++ [q]).length (Plain.runCells (i ++ [q]))) (hbase : base ≤ w.heap.size) (hi : i.length ≤ 100000) (hz : q.z = z)
    (hq0 : 0 ≤ q.l) (hq1 : q.l ≤ 1000000) (hl0 : 0 ≤ l) (hl1 : l ≤ 1000000) :
    Calls Try.prog 17 #[v, .agg #[.int .i64 p, .int .i64 l, .bool z]] w (JoinPost base (i ++ [q]) ⟨p, l, z⟩ w) := by
  have OWN := Lib.hid hown
  have HJ := Lib.hid (Plain.joinS_same i q ⟨p, l, z⟩ hz)
  obtain ⟨g, c, rfl, hg0, hg, e1, e2, e3⟩ := own_last hown
  clear hown
  have hzz : (q.z == z) = true := by simpa using hz
  clear hz
  have k0 : Below base w (w.alloc (.cells #[.int .i64 p, .int .i64 l, .bool z] 26)) := (Below.refl base w).alloc hbase _
  have K0 := Lib.hid k0
  clear k0
  obtain ⟨qz, hqz⟩ : ∃ x, x = q.z := ⟨_, rfl⟩
  have HQZ := Lib.hid hqz
  rw [← hqz] at e2 hzz HJ
  clear hqz
  generalize q.l = ql at *
  generalize hm : i.length = m at *
  have HM := Lib.hid hm
  clear hm
  have hneg : decide ((m : Int) < 0) = false := by simp
  go_enter Try.func17, Try.ntmps17
  go_wp2
  go_quiet (fail)
  obtain ⟨c0, c1, c2⟩ := box3 w 26 p l z nq
  go_wp2
  generalize hW : (w.alloc (Obj.cells #[Value.int IntKind.i64 p, Value.int IntKind.i64 l, Value.bool z] 26)).drewN nq = W at *
  have f1 : W.cell? ⟨g, m * 3 + 1, none⟩ = some (.int .i64 ql) := by
    have hk := (below_drewN ((Below.refl w.heap.size w).alloc (Nat.le_refl _) (.cells #[.int .i64 p, .int .i64 l, .bool z] 26)) nq).cell (p := ⟨g, m * 3 + 1, none⟩) hg
    rw [← hW]; exact hk.trans e1
  have f3 : W.frozen? ⟨g, m * 3 + 1, none⟩ = false := by
    have hk := World.frozen?_of_block (a := ⟨g, m * 3 + 1, none⟩) ((below_drewN ((Below.refl w.heap.size w).alloc (Nat.le_refl _) (.cells #[.int .i64 p, .int .i64 l, .bool z] 26)) nq).block g hg)
    rw [← hW]; exact hk.trans e3
  have o1 : W.ownsRow base 26 3 (Value.slice (some { block := g, off := 0 }) (m + 1) c) (i ++ [q]).length (Plain.runCells (i ++ [q])) := by
    rw [← hW]; exact OWN.out.alloc _
  have b1 : Below base w W := by rw [← hW]; exact below_drewN K0.out nq
  have O1 := Lib.hid o1; have B1 := Lib.hid b1
  clear o1 b1 hW K0 OWN e1 e2 e3
  have hmm : (m : Int) < (m : Int) + 1 := by omega
  have hwr : IntKind.i64.wrap (ql + l) = ql + l := IntWalk.i64_in _ (by omega)
  go_still_tail 10, (by kernel_rfl)
  go_wp2
  go_ret
  have hlen : (i ++ [q]).length = m + 1 := by simp [HM.out]
  have X := O1.out.drew
  rw [hlen] at X
  have Y := X.stored (m * 3 + 1) (.int .i64 (ql + l))
  have e := Plain.runCells_set i q (ql + l)
  rw [HM.out] at e
  rw [e] at Y
  have HQ : qz = q.z := HQZ.out
  refine ⟨_, rfl, ?_, ?_⟩
  · rw [HJ.out, HQ, show (i ++ [({ p := q.p, l := ql + l, z := q.z } : Plain.Run)]).length = m + 1 by simp [HM.out]]
    exact Y.1
  · exact Below.grown B1.out.drew Y.2 (by have := B1.out.size; simp; omega) (fun k hk => by injection hk with hk; omega)

theorem join_any (v : Value) (acc : List Plain.Run) (r : Plain.Run) (w : World) (base : Nat) (hown : w.ownsRow base 26 3 v acc.length (Plain.runCells acc)) (hbase : base ≤ w.heap.size) (hi : acc.length ≤ 100000)
    (ha : ∀ q ∈ acc, 0 ≤ q.l ∧ q.l ≤ 1000000) (hl0 : 0 ≤ r.l) (hl1 : r.l ≤ 1000000) :
    Calls Try.prog 17 #[v, .agg #[.int .i64 r.p, .int .i64 r.l, .bool r.z]] w (JoinPost base acc r w) := by
  by_cases hn : acc = []
  · subst hn
    exact join_nil v r.p r.l r.z w base hown hbase
  · obtain ⟨i, q, rfl⟩ := Plain.last_run acc hn
    have hq := ha q (by simp)
    have hi2 : i.length ≤ 100000 := by simp at hi; omega
    by_cases hz : q.z = r.z
    · exact join_same v i q r.p r.l r.z w base hown hbase hi2 hz hq.1 hq.2 hl0 hl1
    · exact join_other v i q r.p r.l r.z w base hown hbase hi2 hz

end Go.Proofs.Ytjmgdnkfhfbbiaa
