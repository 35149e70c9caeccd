/- Arrays of 256 in memory, each a block known whole: how one is made, boxed, loaded, stored, indexed, compared. -/
import Derived.Test.YtghihmmapignmaaRead
import Derived.Test.YtghihmmapignmaaPlainT
import Derived.WalkKit
import Derived.Deep.WholeRow
import Derived.Deep.MidRow
import Derived.ChangeKeysEq
import Derived.Lib.Hide
namespace Go.Proofs.Ytghihmmapignmaa
open Go.RowKit

/-- A block known whole. -/
def Row (w : World) (b : Nat) (t : TypeId) (c : Array Value) : Prop := w.heap[b]? = some (.cells c t (0, 0))
def cs (l : List Int) : Array Value := (l.map (Value.int .u8)).toArray
def bc (l : List Bool) : Array Value := (l.map Value.bool).toArray
def tv (l : List Int) : Value := .agg (cs l)

theorem cs_size (l : List Int) : (cs l).size = l.length := by simp [cs]
theorem bc_size (l : List Bool) : (bc l).size = l.length := by simp [bc]
theorem cs_one (l : List Int) : (cs l).all (·.oneCell') = true :=
  Array.all_eq_true_iff_forall_mem.2 (fun v hv => by simp [cs] at hv; obtain ⟨n, _, rfl⟩ := hv; rfl)

theorem Row.lt {w : World} {b : Nat} {t : TypeId} {c : Array Value} (h : Row w b t c) : b < w.heap.size := (Array.getElem?_eq_some_iff.1 h).1
theorem Row.only {S : Nat → Prop} {w w' : World} {b : Nat} {t : TypeId} {c : Array Value} (h : Row w b t c) (k : Only S w w') (hn : ¬ S b) : Row w' b t c := (k.block b h.lt hn).trans h
theorem Row.on {w w' : World} {b : Nat} {t : TypeId} {c : Array Value} (h : Row w b t c) (k : Below w.heap.size w w') : Row w' b t c := (k.block b h.lt).trans h
theorem Row.cell {w : World} {b : Nat} {t : TypeId} {l : List Int} (h : Row w b t (cs l)) (k : Nat) (hk : k < l.length) : w.cell? ⟨b, k, none⟩ = some (.int .u8 (l.getD k 0)) := by
  rw [cell_of_row w b k _ t (0, 0) h]
  simp [cs, List.getD_eq_getElem?_getD, List.getElem?_eq_getElem hk]
theorem Row.bcell {w : World} {b : Nat} {t : TypeId} {l : List Bool} (h : Row w b t (bc l)) (k : Nat) (hk : k < l.length) : w.cell? ⟨b, k, none⟩ = some (.bool (l.getD k false)) := by
  rw [cell_of_row w b k _ t (0, 0) h]
  simp [bc, List.getD_eq_getElem?_getD, List.getElem?_eq_getElem hk]
theorem Row.free {w : World} {b : Nat} {t : TypeId} {c : Array Value} (h : Row w b t c) (k : Nat) : w.frozen? ⟨b, k, none⟩ = false := frozen_of_row w b k c t h
theorem Row.set {w : World} {b : Nat} {t : TypeId} {l : List Int} (h : Row w b t (cs l)) (k : Nat) (x : Int) : Row (w.setCell ⟨b, k, none⟩ (.int .u8 x)) b t (cs (l.set k x)) := by
  have := heap_setCell_same w b k (cs l) t (.int .u8 x) h
  unfold Row
  rw [this]
  congr 2
  simp [cs, List.map_set]
theorem Row.bset {w : World} {b : Nat} {t : TypeId} {l : List Bool} (h : Row w b t (bc l)) (k : Nat) (x : Bool) : Row (w.setCell ⟨b, k, none⟩ (.bool x)) b t (bc (l.set k x)) := by
  have := heap_setCell_same w b k (bc l) t (.bool x) h
  unfold Row
  rw [this]
  congr 2
  simp [bc, List.map_set]
theorem Row.past {w : World} {b : Nat} {t : TypeId} {c : Array Value} (h : Row w b t c) (b' k : Nat) (x : Value) (hn : b ≠ b') : Row (w.setCell ⟨b', k, none⟩ x) b t c :=
  (heap_setCell_other w ⟨b', k, none⟩ b x hn).trans h

theorem zero24 : (Try.prog.info? 50).map (fun i => (i.zero, i.size)) = some (some (tv zeros), 256) := by kernel_rfl
theorem zero37 : (Try.prog.info? 88).map (fun i => (i.zero, i.size)) = some (some (.agg (bc nos)), 256) := by kernel_rfl

theorem row_new (w : World) (c : Array Value) (t : TypeId) : Row (w.alloc (.cells c t)) w.heap.size t c := heap_alloc_new w _

section
variable {ops : Array Oper} {rest : List Oper} {o : Oper} {a : Act} {w : World} {Q : Exit → Act → World → Prop}

/-- var t [256]byte -/
theorem st_alloc (hgd : o.guard = none) (ho : o.op = .alloc 50)
    (h : ∀ (b : Nat) (w1 : World), Row w1 b 50 (cs zeros) → Below w.heap.size w w1 → w.heap.size ≤ b → wpList Try.prog ops Q rest (a.put o.dst (.pointer (some ⟨b, 0, none⟩))) w1) :
    wpList Try.prog ops Q (o :: rest) a w := by
  refine wpList_plain hgd fun K hK => ?_
  unfold Oper.wp execOp
  simp [ho, Instr.alloc, (zero_of_info zero24).1, newVar, newRow, Result.andThen]
  exact hK _ _ (h _ _ (row_new w (cs zeros) 50) ((Below.refl _ _).alloc (Nat.le_refl _) _) (Nat.le_refl _))
/-- var t [256]bool -/
theorem st_allocb (hgd : o.guard = none) (ho : o.op = .alloc 88)
    (h : ∀ (b : Nat) (w1 : World), Row w1 b 88 (bc nos) → Below w.heap.size w w1 → w.heap.size ≤ b → wpList Try.prog ops Q rest (a.put o.dst (.pointer (some ⟨b, 0, none⟩))) w1) :
    wpList Try.prog ops Q (o :: rest) a w := by
  refine wpList_plain hgd fun K hK => ?_
  unfold Oper.wp execOp
  simp [ho, Instr.alloc, (zero_of_info zero37).1, newVar, newRow, Result.andThen]
  exact hK _ _ (h _ _ (row_new w (bc nos) 88) ((Below.refl _ _).alloc (Nat.le_refl _) _) (Nat.le_refl _))
/-- A parameter that is a table gets a variable. -/
theorem st_box (hgd : o.guard = none) (x : Operand) (ho : o.op = .box 50 x) (l : List Int) (hx : a.eval x = tv l)
    (h : ∀ (b : Nat) (w1 : World), Row w1 b 50 (cs l) → Below w.heap.size w w1 → w.heap.size ≤ b → wpList Try.prog ops Q rest (a.put o.dst (.pointer (some ⟨b, 0, none⟩))) w1) :
    wpList Try.prog ops Q (o :: rest) a w := by
  refine wpList_plain hgd fun K hK => ?_
  unfold Oper.wp execOp
  simp [ho, hx, Instr.box, newVar, newRow, Result.andThen]
  exact hK _ _ (h _ _ (row_new w (cs l) 50) ((Below.refl _ _).alloc (Nat.le_refl _) _) (Nat.le_refl _))
/-- The whole table read. -/
theorem run_load_tab {w : World} {b : Nat} {l : List Int} (hr : Row w b 50 (cs l)) (hl : l.length = 256) : (Instr.loadAt 50 (.pointer (some ⟨b, 0, none⟩))).run Try.prog w = .ok (tv l) w := by
  simp only [Instr.loadAt, Instr.sureAddr, Sem.run_bind, Sem.run_pure, Result.andThen_ok]
  exact run_loadVar_row w b 50 50 (cs l) (0, 0) _ hr Try.underlying50 rfl (by rw [(zero_of_info zero24).2, cs_size, hl])
theorem st_load (hgd : o.guard = none) (x : Operand) (ho : o.op = .load 50 x) (b : Nat) (hx : a.eval x = .pointer (some ⟨b, 0, none⟩)) (l : List Int) (hr : Row w b 50 (cs l)) (hl : l.length = 256)
    (h : wpList Try.prog ops Q rest (a.put o.dst (tv l)) w) : wpList Try.prog ops Q (o :: rest) a w := by
  refine wpList_plain hgd fun K hK => ?_
  unfold Oper.wp execOp
  simp only [ho, hx, run_load_tab hr hl, Sem.run_bind, Sem.run_pure, Result.andThen_ok]
  exact hK _ _ h
/-- A table stored whole. -/
theorem st_store (hgd : o.guard = none) (x y : Operand) (ho : o.op = .store 50 x y) (b : Nat) (hx : a.eval x = .pointer (some ⟨b, 0, none⟩)) (l : List Int) (hy : a.eval y = tv l) (l0 : List Int) (hr : Row w b 50 (cs l0)) (h0 : l0.length = 256) (hl : l.length = 256)
    (h : ∀ w1 : World, Row w1 b 50 (cs l) → Only (fun d => d = b) w w1 → wpList Try.prog ops Q rest (a.put o.dst undef) w1) : wpList Try.prog ops Q (o :: rest) a w := by
  refine wpList_plain hgd fun K hK => ?_
  unfold Oper.wp execOp
  have hrun := run_storeVar_row w b 50 50 (cs l0) (cs l) (P := Try.prog) hr (by rw [(zero_of_info zero24).2, cs_size, hl]) (by rw [cs_size, cs_size, h0, hl]) (cs_one l)
  simp only [ho, hx, hy, tv, Instr.storeAt, Instr.sureAddr, Sem.run_bind, Sem.run_pure, Result.andThen_ok, hrun]
  exact hK _ _ (h _ (setRow_heap w b _ _ 50 (0, 0) hr) ⟨rfl, rfl, rfl, by simp, fun k _ hn => setRow_other w b k _ hn⟩)
/-- One of its bytes, of a value. -/
theorem run_index_tab (w : World) (l : List Int) (kd : IntKind) (n : Int) (k : Nat) (hn : n = k) (hl : l.length = 256) (hk : k < 256) : (Instr.index 50 (tv l) (.int kd n)).run Try.prog w = .ok (.int .u8 (l.getD k 0)) w := by
  subst hn
  have h3 : (part 5 (cs l) k).run Try.prog w = .ok (.int .u8 (l.getD k 0)) w := by
    simp [part, Try.isAgg5, cs, List.getElem?_eq_getElem (show k < l.length by omega), List.getD_eq_getElem?_getD]
  simp [Instr.index, asIntOf, run_underlying Try.underlying50, tv, Try.sizeOf5, h3]
  intro h; omega
theorem st_index (hgd : o.guard = none) (x ix : Operand) (ho : o.op = .index 50 x ix) (l : List Int) (hx : a.eval x = tv l) (kd : IntKind) (n : Int) (hi : a.eval ix = .int kd n) (k : Nat) (hn : n = k) (hl : l.length = 256) (hk : k < 256)
    (h : wpList Try.prog ops Q rest (a.put o.dst (.int .u8 (l.getD k 0))) w) : wpList Try.prog ops Q (o :: rest) a w := by
  refine wpList_plain hgd fun K hK => ?_
  unfold Oper.wp execOp
  simp only [ho, hx, hi, run_index_tab w l kd n k hn hl hk, Sem.run_bind, Sem.run_pure, Result.andThen_ok]
  exact hK _ _ h
end

/-- What comes back through a variable. -/
theorem res_tab {fn : Func} {p : Tmp} (h : fn.results = #[.cell p 50]) {R : Ending → World → Prop} {a : Act} {w : World} (b : Nat) (hp : a.tmps.getD p undef = .pointer (some ⟨b, 0, none⟩)) (l : List Int) (hr : Row w b 50 (cs l)) (hl : l.length = 256)
    (hd : a.defers = []) (hR : R (.returned (tv l)) w) : bodyPost Try.prog fn R .ret a w :=
  bodyPost_ret (results_cell_row h a.tmps w b 50 (cs l) (0, 0) _ hp hr Try.underlying50 rfl (by rw [(zero_of_info zero24).2, cs_size, hl])) hd hR

/-- Equal tables are found equal. -/
theorem eq_tab (w : World) (l : List Int) (hl : l.length = 256) : (Op.equalIn 10000 50 (tv l) (tv l)).run Try.prog w = .ok true w := by
  have hi : ∃ i, Try.prog.info? 5 = some i := by
    obtain ⟨i, hi, _⟩ := info_parts info5
    exact ⟨i, hi⟩
  obtain ⟨i, hi⟩ := hi
  have hc : Try.prog.cellsOf 5 = 1 := by kernel_rfl
  rw [show (10000 : Nat) = 9999 + 1 from rfl, tv, run_equalIn_array w 9999 _ _ Try.underlying50 hi, hc]
  have : ∀ js : List Nat, (∀ j ∈ js, j < 256) → (Op.eqItems 9999 5 1 (cs l) (cs l) js).run Try.prog w = .ok true w := by
    intro js
    induction js with
    | nil => intro _; simp [Op.eqItems]
    | cons j js ih =>
      intro hj
      have hjl := hj j (by simp)
      have h3 : (part 5 (cs l) (j * 1)).run Try.prog w = .ok (.int .u8 (l.getD j 0)) w := by
        simp [part, Try.isAgg5, cs, List.getElem?_eq_getElem (show j < l.length by omega), List.getD_eq_getElem?_getD]
      have h4 := run_equalIn_int w 9998 5 .u8 .u8 (l.getD j 0) (l.getD j 0) Try.underlying5
      simp only [Op.eqItems, Sem.run_bind, h3, Result.andThen_ok, h4]
      simpa using ih (fun k hk => hj k (by simp [hk]))
  exact this _ (fun j hj => by simpa using hj)

end Go.Proofs.Ytghihmmapignmaa
