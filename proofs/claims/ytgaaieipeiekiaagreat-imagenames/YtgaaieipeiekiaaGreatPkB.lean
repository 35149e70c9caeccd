/- The steps of a walk that turn whole blocks of a file: load, store, box, alloc, build, append, compare, slice. / What is in a file, without any Go: which contents may be, what a block number stands for, places, what is filled, written, taken. / Contracts of the law's Few, of extent's ahead, bareFrom, May. / Contracts of cmp.Compare, slices.BinarySearchFunc, extent's find. -/
import Derived.Test.YtgaaieipeiekiaaGreatPkA
import Derived.Great.BuildSlice
import Derived.WalkKit
import Derived.WalkSpells
import Derived.WalkLawsBesides
import Derived.Lib.Hide
import Derived.BigQuiet
namespace Go.Proofs.YtgaaieipeiekiaaGreat
open Go.RowKit
set_option maxRecDepth 100000

theorem info5 : (Tryz.prog.info? 5).map (fun i => (i.zero, i.size, i.bytes)) = some (some (.int .u8 0), 1, 1) := by kernel_rfl
theorem info32 : (Tryz.prog.info? 75).map (fun i => (i.zero, i.size, i.bytes)) = some (some (.agg (ecl ⟨0, nul8⟩).toArray), 9, 16) := by kernel_rfl
theorem zero32 : (Tryz.prog.info? 75).map (fun i => (i.zero, i.size)) = some (some (.agg (ecl ⟨0, nul8⟩).toArray), 9) := by kernel_rfl
theorem size32 : (Tryz.prog.info? 75).map (·.size) = some 9 := by kernel_rfl

theorem fold_set (off : Nat) : ∀ (l : List Value) (k : Nat) (a : Array Value) (i : Nat),
    ((l.zipIdx k).foldl (fun cs p => cs.setIfInBounds (off + p.2) p.1) a)[i]? = if off + k ≤ i ∧ i < off + k + l.length ∧ i < a.size then l[i - off - k]? else a[i]?
  | [], k, a, i => by simp; intro h1 h2; omega
  | v :: l, k, a, i => by
    rw [List.zipIdx_cons, List.foldl_cons, fold_set off l (k + 1)]
    simp only [Array.size_setIfInBounds, List.length_cons]
    by_cases h1 : off + (k + 1) ≤ i ∧ i < off + (k + 1) + l.length ∧ i < a.size
    · rw [if_pos h1, if_pos (by omega)]
      rw [show i - off - k = (i - off - (k + 1)) + 1 by omega, List.getElem?_cons_succ]
    · rw [if_neg h1, Array.getElem?_setIfInBounds]
      by_cases h2 : off + k = i
      · subst h2
        by_cases h3 : off + k < a.size
        · rw [if_pos rfl, if_pos h3, if_pos (by omega)]; simp
        · rw [if_pos rfl, if_neg h3, if_neg (by omega), Array.getElem?_eq_none (by omega)]
      · rw [if_neg h2, if_neg (by omega)]
theorem fold_set' (off : Nat) (vs a : Array Value) (i : Nat) :
    (vs.zipIdx.foldl (fun cs (p : Value × Nat) => cs.setIfInBounds (off + p.2) p.1) a)[i]? = if off ≤ i ∧ i < off + vs.size ∧ i < a.size then vs[i - off]? else a[i]? := by
  rw [← Array.foldl_toList, Array.toList_zipIdx, fold_set]
  simp
theorem fold_size (off : Nat) (vs a : Array Value) : (vs.zipIdx.foldl (fun cs (p : Value × Nat) => cs.setIfInBounds (off + p.2) p.1) a).size = a.size := by
  rw [← Array.foldl_toList]
  generalize vs.zipIdx.toList = l
  induction l generalizing a with
  | nil => rfl
  | cons x l ih => rw [List.foldl_cons, ih]; simp

theorem built_one {e : Ex} (hk : e.ok) : Instr.fill (fun i => some (i * 9, 9)) ((Array.range (1 * 9)).map ((Value.agg (ecl ⟨0, nul8⟩).toArray).cells[· % (Value.agg (ecl ⟨0, nul8⟩).toArray).cells.size]!)) [(0, ev e)] = some (ecl e).toArray := by
  simp only [Instr.fill]
  have hc : (ev e).cells = (ecl e).toArray := rfl
  rw [hc]
  have hs := ecl_size hk
  rw [if_neg (by simp only [hs, Array.size_map, Array.size_range]; simp)]
  congr 1
  apply Array.ext_getElem?
  intro i
  rw [fold_set', hs]
  simp only [Array.size_map, Array.size_range]
  by_cases h : i < 9
  · rw [if_pos (by omega)]; simp
  · rw [if_neg (by omega), Array.getElem?_eq_none (by simp; omega), Array.getElem?_eq_none (by rw [hs]; omega)]

/-- A variable that holds a block. -/
def XRow (w : World) (b : Nat) (e : Ex) : Prop := Row w b 75 (ecl e).toArray ∧ e.ok
theorem XRow.on {w w' : World} {b : Nat} {e : Ex} (h : XRow w b e) (k : Below w.heap.size w w') : XRow w' b e := ⟨h.1.on k, h.2⟩
theorem XRow.lt {w : World} {b : Nat} {e : Ex} (h : XRow w b e) : b < w.heap.size := h.1.lt
theorem XRow.no {w : World} {b : Nat} {e : Ex} (h : XRow w b e) : w.cell? ⟨b, 0, none⟩ = some (.int .i64 e.no) := by rw [h.1.at]; rfl
theorem XRow.range {w : World} {b : Nat} {e : Ex} (h : XRow w b e) : w.rangeAt b 0 (ecl e) := fun j v hv => by rw [Nat.zero_add, h.1.at]; simpa using hv
theorem XRow.byte {w : World} {b : Nat} {e : Ex} (h : XRow w b e) (k : Nat) (hk : k < 8) : w.cell? ⟨b, 1 + k, none⟩ = some (.int .u8 (e.bs.getD k 0)) := by
  rw [h.1.at, List.getElem?_toArray, ecl_byte h.2 k hk]
theorem XRow.free {w : World} {b : Nat} {e : Ex} (h : XRow w b e) (k : Nat) : w.frozen? ⟨b, k, none⟩ = false := h.1.free k

theorem run_loadx {w : World} {b o : Nat} {e : Ex} (h : w.rangeAt b o (ecl e)) (ho : e.ok) : (Instr.loadAt 75 (.pointer (some ⟨b, o, none⟩))).run Tryz.prog w = .ok (ev e) w :=
  run_loadAt_mid w b o 75 (ecl e) _ h Tryz.underlying75 rfl (by rw [ecl_len ho]; exact size32)
/-- As the walk's own set leaves a load. -/
theorem lcf {w : World} {b o : Nat} {e : Ex} (h : w.rangeAt b o (ecl e)) (ho : e.ok) : (loadCellsFrom ⟨b, o, none⟩ 0 9 #[]).run Tryz.prog w = .ok (ecl e).toArray w := by
  have := run_loadCells_list (P := Tryz.prog) w ⟨b, o, none⟩ (ecl e) (fun j v hv => by rw [Addr.add_mid]; exact h j v hv)
  rw [ecl_len ho] at this
  simpa [loadCells] using this
theorem built32 (n : Int) : Tryz.prog.built 75 [(0, .int .i64 n)] = some (ecl ⟨n, nul8⟩).toArray := by
  have hz := zero32
  have hp : (match Tryz.prog.underlying 75 with | some (.struct fields) => fields.toList.mapM (fun f => (Tryz.prog.info? f.type).map fun i => (f.offset, i.size)) | _ => none) = some [(0, 1), (1, 8)] := by kernel_rfl
  cases hi : Tryz.prog.info? 75 with
  | none => rw [hi] at hz; cases hz
  | some i0 =>
    rw [hi] at hz
    simp only [Option.map_some, Option.some.injEq, Prod.mk.injEq] at hz
    have hz0 := hz.1
    unfold Program.built
    rw [Tryz.underlying75] at hp ⊢
    simp only [hi, hz0]
    simp only at hp
    rw [hp]
    rfl

section
variable {ops : Array Oper} {rest : List Oper} {o : Oper} {a : Act} {w : World} {Q : Exit → Act → World → Prop}

theorem st_loadx (hgd : o.guard = none) (x : Operand) (ho : o.op = .load 75 x) (b p : Nat) (hx : a.eval x = .pointer (some ⟨b, p, none⟩)) (e : Ex) (hr : w.rangeAt b p (ecl e)) (hk : e.ok)
    (h : wpList Tryz.prog ops Q rest (a.put o.dst (ev e)) w) : wpList Tryz.prog ops Q (o :: rest) a w := by
  refine wpList_plain hgd fun K hK => ?_
  unfold Oper.wp execOp
  simp only [ho, hx, run_loadx hr hk, Sem.run_bind, Sem.run_pure, Result.andThen_ok]
  exact hK _ _ h
/-- .. one whose guard says yes. -/
theorem st_loadxg (hgd : Region.wanted o (yielded ops a.tmps) = true) (x : Operand) (ho : o.op = .load 75 x) (b p : Nat) (hx : a.eval x = .pointer (some ⟨b, p, none⟩)) (e : Ex) (hr : w.rangeAt b p (ecl e)) (hk : e.ok)
    (h : wpList Tryz.prog ops Q rest (a.put o.dst (ev e)) w) : wpList Tryz.prog ops Q (o :: rest) a w := by
  refine BigFrame.wpList_want hgd fun K hK => ?_
  unfold Oper.wp execOp
  simp only [ho, hx, run_loadx hr hk, Sem.run_bind, Sem.run_pure, Result.andThen_ok]
  exact hK _ _ h
theorem st_allocx (hgd : o.guard = none) (ho : o.op = .alloc 75)
    (h : ∀ (b : Nat) (w1 : World), w.heap.size ≤ b → XRow w1 b ⟨0, nul8⟩ → Below w.heap.size w w1 → wpList Tryz.prog ops Q rest (a.put o.dst (.pointer (some ⟨b, 0, none⟩))) w1) :
    wpList Tryz.prog ops Q (o :: rest) a w := by
  refine wpList_plain hgd fun K hK => ?_
  unfold Oper.wp execOp
  simp [ho, Instr.alloc, (zero_of_info zero32).1, newVar, newRow, Result.andThen]
  exact hK _ _ (h _ _ (Nat.le_refl _) ⟨Row.new w 75 _, ok_nul 0⟩ ((Below.refl _ _).alloc (Nat.le_refl _) _))
theorem st_boxx (hgd : o.guard = none) (x : Operand) (ho : o.op = .box 75 x) (e : Ex) (hx : a.eval x = ev e) (hk : e.ok)
    (h : ∀ (b : Nat) (w1 : World), w.heap.size ≤ b → XRow w1 b e → Below w.heap.size w w1 → wpList Tryz.prog ops Q rest (a.put o.dst (.pointer (some ⟨b, 0, none⟩))) w1) :
    wpList Tryz.prog ops Q (o :: rest) a w := by
  refine wpList_plain hgd fun K hK => ?_
  unfold Oper.wp execOp
  simp [ho, hx, ev, Instr.box, newVar, newRow, Result.andThen]
  exact hK _ _ (h _ _ (Nat.le_refl _) ⟨Row.new w 75 _, hk⟩ ((Below.refl _ _).alloc (Nat.le_refl _) _))
/-- A block stored whole into a variable. -/
theorem st_storev (hgd : o.guard = none) (x y : Operand) (ho : o.op = .store 75 x y) (b : Nat) (hx : a.eval x = .pointer (some ⟨b, 0, none⟩)) (e : Ex) (hy : a.eval y = ev e) (hk : e.ok) (e0 : Ex) (hr : XRow w b e0)
    (h : ∀ w1 : World, XRow w1 b e → Only (fun d => d = b) w w1 → w1.heap.size = w.heap.size → wpList Tryz.prog ops Q rest (a.put o.dst undef) w1) : wpList Tryz.prog ops Q (o :: rest) a w := by
  refine wpList_plain hgd fun K hK => ?_
  unfold Oper.wp execOp
  have hrun := run_storeVar_row w b 75 75 (ecl e0).toArray (ecl e).toArray (P := Tryz.prog) hr.1 (by rw [ecl_size hk]; exact size32) (by rw [ecl_size hr.2, ecl_size hk]) (all_oneCell_toArray (ecl_one e))
  simp only [ho, hx, hy, ev, Instr.storeAt, Instr.sureAddr, Sem.run_bind, Sem.run_pure, Result.andThen_ok, hrun]
  exact hK _ _ (h _ ⟨setRow_heap w b _ _ 75 (0, 0) hr.1, hk⟩ ⟨rfl, rfl, rfl, by simp, fun k _ hn => setRow_other w b k _ hn⟩ (by simp [World.setRow]))
/-- Only block g of old ones. -/
theorem only_setCells (w : World) (g o : Nat) (vs : List Value) : Only (fun d => d = g) w (w.setCells g o vs) := (Only.refl (fun d => d = g) w).setCells g o (fun _ => rfl) vs
/-- A block stored whole into a slice of blocks. -/
theorem st_storex (hgd : o.guard = none) (x y : Operand) (ho : o.op = .store 75 x y) (g p n c : Nat) (L : List Ex) (j : Nat) (hj : j < n) (hx : a.eval x = .pointer (some ⟨g, p + j * 9, none⟩)) (e : Ex) (hy : a.eval y = ev e) (hk : e.ok)
    (hr : Exts w (some ⟨g, p, none⟩) n c L) (hf : ∀ k, w.frozen? ⟨g, k, none⟩ = false)
    (h : ∀ w1 : World, Exts w1 (some ⟨g, p, none⟩) n c (L.set j e) → (∀ k, w1.frozen? ⟨g, k, none⟩ = false) → Only (fun d => d = g) w w1 → wpList Tryz.prog ops Q rest (a.put o.dst undef) w1) : wpList Tryz.prog ops Q (o :: rest) a w := by
  obtain ⟨g', p', he, hg, hc⟩ := hr.cells (by omega)
  injection he with he; injection he with e1 e2; subst e1 e2
  have hth : w.there g (p + j * 9) (ecl e).toArray.size := fun i hi => ⟨(hc j hj).isSome i (by rw [ecl_len (hr.get j hj)]; rw [ecl_size hk] at hi; exact hi), hf _⟩
  refine wpList_store_mid hgd 75 x y ho g (p + j * 9) (ecl e).toArray hx hy hth (by rw [ecl_size hk]; exact size32) (all_oneCell_toArray (ecl_one e)) ?_
  have hp := hr.put j 0 (ecl e) e hj (by rw [ecl_len hk]; omega) hk (splice_all (hr.get j hj) hk)
  exact h _ hp (fun k => by rw [World.frozen?_setCells]; exact hf k) (only_setCells _ _ _ _)
/-- A block made of its number. -/
theorem st_build (hgd : o.guard = none) (x : Operand) (ho : o.op = .build 75 #[(0, x)]) (n : Int) (hx : a.eval x = .int .i64 n)
    (h : wpList Tryz.prog ops Q rest (a.put o.dst (ev ⟨n, nul8⟩)) w) : wpList Tryz.prog ops Q (o :: rest) a w := by
  refine wpList_plain hgd fun K hK => ?_
  unfold Oper.wp execOp
  have hb : (Instr.build 75 #[(0, Value.int .i64 n)]).run Tryz.prog w = .ok (.agg (ecl ⟨n, nul8⟩).toArray) w := run_build (P := Tryz.prog) w 75 #[(0, Value.int .i64 n)] _ (built32 n)
  simp [ho, hx, hb, Result.andThen]
  exact hK _ _ h
/-- []E{e}. -/
theorem st_one (hgd : o.guard = none) (x : Operand) (ho : o.op = .buildSlice 30 1 #[(0, x)]) (e : Ex) (hx : a.eval x = ev e) (hk : e.ok)
    (h : ∀ (b : Nat) (w1 : World), w.heap.size ≤ b → Row w1 b 75 (ecl e).toArray → Below w.heap.size w w1 → wpList Tryz.prog ops Q rest (a.put o.dst (.slice (some ⟨b, 0, none⟩) 1 1)) w1) :
    wpList Tryz.prog ops Q (o :: rest) a w := by
  obtain ⟨i0, hi, hz0, hz1, hz2⟩ := info_parts info32
  refine wpList_plain hgd fun K hK => ?_
  unfold Oper.wp execOp
  have hrun : (Instr.buildSlice 30 1 #[(0, ev e)]).run Tryz.prog w = .ok (.slice (some ⟨w.heap.size, 0, none⟩) 1 1) (w.alloc (.cells (ecl e).toArray 75)) := by
    refine run_buildSlice w 30 75 1 #[(0, ev e)] (ecl e).toArray i0 _ Tryz.underlying30 hi hz0 (by rw [hz1]; decide) (by rw [hz1]; decide) ?_
    rw [hz1]
    exact built_one hk
  simp [ho, hx, hrun, Result.andThen]
  exact hK _ _ (h _ _ (Nat.le_refl _) (Row.new w 75 _) ((Below.refl _ _).alloc (Nat.le_refl _) _))
/-- append onto a row of one's own: one block. -/
theorem st_push (hgd : o.guard = none) (s x : Operand) (ho : o.op = .call { callee := .builtin .append, args := #[s, x], argTypes := #[30, 30] })
    (B : Nat) (v : Value) (L : List Ex) (hs : a.eval s = v) (hown : Own B w v L) (b : Nat) (e : Ex) (hx : a.eval x = .slice (some ⟨b, 0, none⟩) 1 1) (hr : Row w b 75 (ecl e).toArray) (hk : e.ok) (hl : L.length ≤ 1000000) (hB : B ≤ w.heap.size)
    (h : ∀ v' w', Own B w' v' (L ++ [e]) → w.grownBy w' v.ownBlock → (∀ k, v.ownBlock = some k → B ≤ k ∧ k < w.heap.size) → wpList Tryz.prog ops Q rest (a.put o.dst v') w') : wpList Tryz.prog ops Q (o :: rest) a w := by
  obtain ⟨i0, hi, hz0, hz1, hz2⟩ := info_parts info32
  refine wpList_append_own (w := w) hgd s x 30 ho B 75 i0 _ 9 16 Tryz.underlying30 hi hz0 hz1 hz2 (ecl_size (ok_nul 0)) (by decide) v L.length (exCells L) hs hown.row ⟨b, 0, none⟩ 1 1 (ecl e) hx (by rw [ecl_len hk]) ?_ (ecl_one e) (by unfold maxLen; omega) (by omega) hB ?_
  · intro j u hu
    rw [Addr.add_mid, Nat.zero_add, hr.at]
    simpa using hu
  · intro v' w' h1 h2 _
    refine h v' w' ⟨by rw [List.length_append, exCells_append, exCells_one]; exact h1, fun x hx => ?_⟩ h2 hown.row.lt
    rcases List.mem_append.1 hx with hx | hx
    · exact hown.ok x hx
    · simp at hx; subst hx; exact hk
/-- append onto a row of one's own: a slice of blocks, of whatever address. -/
theorem st_join (hgd : o.guard = none) (s x : Operand) (ho : o.op = .call { callee := .builtin .append, args := #[s, x], argTypes := #[30, 30] })
    (B : Nat) (v : Value) (L : List Ex) (hs : a.eval s = v) (hown : Own B w v L) (A : Option Addr) (n c : Nat) (M : List Ex) (hx : a.eval x = .slice A n c) (hr : Exts w A n c M) (hl : L.length + n ≤ 1000000) (hB : B ≤ w.heap.size)
    (h : ∀ v' w', Own B w' v' (L ++ M) → w.grownBy w' v.ownBlock → (∀ k, v.ownBlock = some k → B ≤ k ∧ k < w.heap.size) → wpList Tryz.prog ops Q rest (a.put o.dst v') w') : wpList Tryz.prog ops Q (o :: rest) a w := by
  obtain ⟨i0, hi, hz0, hz1, hz2⟩ := info_parts info32
  cases A with
  | none =>
    obtain ⟨rfl, rfl⟩ := hr.nil rfl
    obtain rfl : M = [] := List.eq_nil_of_length_eq_zero hr.len
    refine wpList_append_own_none (w := w) hgd s x 30 ho B 75 i0 9 Tryz.underlying30 hi v L.length (exCells L) hs hown.row hx ?_
    exact h v w (by rw [List.append_nil]; exact hown) (World.grownBy.refl w _) hown.row.lt
  | some ad =>
    refine wpList_append_own (w := w) hgd s x 30 ho B 75 i0 _ 9 16 Tryz.underlying30 hi hz0 hz1 hz2 (ecl_size (ok_nul 0)) (by decide) v L.length (exCells L) hs hown.row ad n c (exCells M) hx (by rw [exCells_len M hr.ok, hr.len]) (hr.src ad rfl) (exCells_ones M) (by unfold maxLen; omega) (by omega) hB ?_
    intro v' w' h1 h2 _
    refine h v' w' ⟨by rw [List.length_append, exCells_append, hr.len]; exact h1, fun x hx => ?_⟩ h2 hown.row.lt
    rcases List.mem_append.1 hx with hx | hx
    · exact hown.ok x hx
    · exact hr.ok x hx
end
theorem sz22 (w : World) : (sizeOf (Tryz.prog.elem 30)).run Tryz.prog w = .ok 9 w := by
  obtain ⟨i0, hi, _, hz1, _⟩ := info_parts info32
  have : Tryz.prog.elem 30 = 75 := by kernel_rfl
  rw [this]
  simp [sizeOf, typeInfo, hi, hz1]
/-- x[lo:hi], x[:hi], x[lo:]. -/
theorem cut_lh {w : World} {A : Option Addr} {n c : Nat} {L : List Ex} (h : Exts w A n c L) (lo hi : Nat) (hl : lo ≤ hi) (hh : hi ≤ n) :
    ∃ A' c', (∀ w', (Instr.sliceAt 30 (.slice A n c) (some (.int .i64 (lo : Int))) (some (.int .i64 (hi : Int))) none).run Tryz.prog w' = .ok (.slice A' (hi - lo) c') w') ∧ Exts w A' (hi - lo) c' ((L.drop lo).take (hi - lo)) := by
  have hc := h.le
  refine ⟨_, _, fun w' => ?_, h.piece lo (hi - lo) (by omega)⟩
  rw [run_sliceAt_slice (P := Tryz.prog) (w := w') 30 _ _ _ _ Tryz.underlying30, run_slice_lh (P := Tryz.prog) (w := w') 30 A n c Tryz.underlying30 .i64 .i64 lo hi (by omega) (by omega) (by omega)]
  rw [sz22]
  simp [Result.andThen, sliced]
theorem cut_h {w : World} {A : Option Addr} {n c : Nat} {L : List Ex} (h : Exts w A n c L) (hi : Nat) (hh : hi ≤ n) :
    ∃ A' c', (∀ w', (Instr.sliceAt 30 (.slice A n c) none (some (.int .i64 (hi : Int))) none).run Tryz.prog w' = .ok (.slice A' hi c') w') ∧ Exts w A' hi c' (L.take hi) := by
  have hc := h.le
  have hp := h.piece 0 hi (by omega)
  rw [List.drop_zero] at hp
  refine ⟨_, _, fun w' => ?_, hp⟩
  rw [run_sliceAt_slice (P := Tryz.prog) (w := w') 30 _ _ _ _ Tryz.underlying30, run_slice_h (P := Tryz.prog) (w := w') 30 A n c Tryz.underlying30 .i64 hi (by omega) (by omega)]
  rw [sz22]
  simp [Result.andThen, sliced]
theorem cut_l {w : World} {A : Option Addr} {n c : Nat} {L : List Ex} (h : Exts w A n c L) (lo : Nat) (hl : lo ≤ n) :
    ∃ A' c', (∀ w', (Instr.sliceAt 30 (.slice A n c) (some (.int .i64 (lo : Int))) none none).run Tryz.prog w' = .ok (.slice A' (n - lo) c') w') ∧ Exts w A' (n - lo) c' (L.drop lo) := by
  have hc := h.le
  have hp := h.piece lo (n - lo) (by omega)
  rw [List.take_of_length_le (l := L.drop lo) (by rw [List.length_drop, h.len]; exact Nat.le_refl _)] at hp
  refine ⟨_, _, fun w' => ?_, hp⟩
  rw [run_sliceAt_slice (P := Tryz.prog) (w := w') 30 _ _ _ _ Tryz.underlying30, run_slice_l (P := Tryz.prog) (w := w') 30 A n c Tryz.underlying30 .i64 lo (by omega) (by omega)]
  rw [sz22]
  simp [Result.andThen, sliced]
/-- Two blocks compared. -/
theorem run_eqx (w : World) {e f : Ex} (he : e.ok) (hf : f.ok) : (binOp .neq 75 (ev e) (ev f)).run Tryz.prog w = .ok (.bool (!decide (e = f))) w := by
  obtain ⟨n, bs⟩ := e
  obtain ⟨m, ds⟩ := f
  match bs, he.1, ds, hf.1 with
  | [b0, b1, b2, b3, b4, b5, b6, b7], _, [d0, d1, d2, d3, d4, d5, d6, d7], _ =>
    rw [ev, ev, run_neq_struct, run_equalIn_struct w 9999 75 _ _ Tryz.underlying75 (by kernel_rfl)]
    obtain ⟨i0, hi, _⟩ := info_parts info5
    have hc : Tryz.prog.cellsOf 5 = 1 := by kernel_rfl
    have hfl : (Tryz.prog.fieldsOf 75).toList = [⟨ "No", 3, 0, false, "", "", 0⟩, ⟨ "B", 73, 1, false, "", "", 8⟩] := by rw [Program.fieldsOf, Tryz.underlying75]
    have hr : List.range 8 = [0, 1, 2, 3, 4, 5, 6, 7] := rfl
    have h3 := fun a b => run_equalIn_int w 9998 3 .i64 .i64 a b Tryz.underlying3
    have h5 := fun a b => run_equalIn_int w 9997 5 .u8 .u8 a b Tryz.underlying5
    have h30 := fun xs ys => run_equalIn_array (P := Tryz.prog) w 9998 xs ys Tryz.underlying73 hi
    rw [hfl]
    simp only [Nat.reduceAdd] at h3 h5 h30
    simp [ecl, Op.eqFields, part, Tryz.isAgg3, Tryz.isAgg73, Tryz.sizeOf73, h3, h30, hc, hr, Op.eqItems, Tryz.isAgg5, h5, Result.andThen]
    by_cases g : n = m
    · subst g
      simp only [if_true, decide_true, Bool.not_true, Bool.false_or]
      by_cases g0 : b0 = d0 <;> by_cases g1 : b1 = d1 <;> by_cases g2 : b2 = d2 <;> by_cases g3 : b3 = d3 <;> by_cases g4 : b4 = d4 <;> by_cases g5 : b5 = d5 <;> by_cases g6 : b6 = d6 <;> by_cases g7 : b7 = d7 <;> simp_all
    · simp [g]
end Go.Proofs.YtgaaieipeiekiaaGreat

namespace Go.Proofs.YtgaaieipeiekiaaGreat

def bareB (e : Ex) (s : Int) : Bool := (List.range 8).all fun k => decide (e.no * 8 + (k : Int) < s) || decide (e.bs.getD k 0 = 0)
def goodFrom (s : Int) : Int → List Ex → Bool
  | _, [] => true
  | last, e :: r => decide (last < e.no) && decide (e.no < 137438953472) && bareB e s && goodFrom s e.no r
def may (s : Int) (L : List Ex) : Bool := decide (0 ≤ s) && decide (s ≤ 1099511627776) && goodFrom s (-1) L

def Up (L : List Ex) : Prop := L.Pairwise (fun a b => a.no < b.no)
structure Good (s : Int) (L : List Ex) : Prop where
  s0 : 0 ≤ s
  s1 : s ≤ 1099511627776
  up : Up L
  rng : ∀ e ∈ L, 0 ≤ e.no ∧ e.no < 137438953472
  bare : ∀ e ∈ L, bareB e s = true

theorem goodFrom_iff (s : Int) : ∀ (L : List Ex) (l : Int), goodFrom s l L = true ↔ (Up L ∧ ∀ e ∈ L, l < e.no ∧ e.no < 137438953472 ∧ bareB e s = true)
  | [], l => by simp [goodFrom, Up]
  | e :: r, l => by
    have ih := goodFrom_iff s r e.no
    simp only [goodFrom, Bool.and_eq_true, decide_eq_true_eq, ih, Up, List.pairwise_cons, List.mem_cons]
    constructor
    · rintro ⟨⟨⟨h1, h2⟩, h3⟩, h4, h5⟩
      refine ⟨⟨fun x hx => (h5 x hx).1, h4⟩, fun x hx => ?_⟩
      rcases hx with rfl | hx
      · exact ⟨h1, h2, h3⟩
      · have := h5 x hx; exact ⟨by omega, this.2⟩
    · rintro ⟨⟨h1, h2⟩, h3⟩
      obtain ⟨a1, a2, a3⟩ := h3 e (.inl rfl)
      exact ⟨⟨⟨a1, a2⟩, a3⟩, h2, fun x hx => ⟨h1 x hx, (h3 x (.inr hx)).2⟩⟩
theorem may_iff (s : Int) (L : List Ex) : may s L = true ↔ Good s L := by
  simp only [may, Bool.and_eq_true, decide_eq_true_eq, goodFrom_iff]
  constructor
  · rintro ⟨⟨h1, h2⟩, h3, h4⟩
    exact ⟨h1, h2, h3, fun e he => ⟨by have := (h4 e he).1; omega, (h4 e he).2.1⟩, fun e he => (h4 e he).2.2⟩
  · rintro ⟨h1, h2, h3, h4, h5⟩
    exact ⟨⟨h1, h2⟩, h3, fun e he => ⟨by have := (h4 e he).1; omega, (h4 e he).2, h5 e he⟩⟩
theorem bare_at {e : Ex} {s : Int} (h : bareB e s = true) (k : Nat) (hk : k < 8) (hs : s ≤ e.no * 8 + (k : Int)) : e.bs.getD k 0 = 0 := by
  have := List.all_eq_true.1 h k (by simpa using hk)
  simp only [Bool.or_eq_true, decide_eq_true_eq] at this
  omega
theorem bare_of {e : Ex} {s : Int} (h : ∀ k : Nat, k < 8 → s ≤ e.no * 8 + (k : Int) → e.bs.getD k 0 = 0) : bareB e s = true := by
  refine List.all_eq_true.2 fun k hk => ?_
  have hk : k < 8 := by simpa using hk
  simp only [Bool.or_eq_true, decide_eq_true_eq]
  by_cases hs : s ≤ e.no * 8 + (k : Int)
  · exact .inr (h k hk hs)
  · exact .inl (by omega)
theorem up_tail {e : Ex} {L : List Ex} (h : Up (e :: L)) : Up L := (List.pairwise_cons.1 h).2
theorem up_head {e : Ex} {L : List Ex} (h : Up (e :: L)) : ∀ x ∈ L, e.no < x.no := (List.pairwise_cons.1 h).1
theorem up_lt {L : List Ex} (h : Up L) (i j : Nat) (hij : i < j) (hj : j < L.length) : (L.getD i default).no < (L.getD j default).no := by
  have := List.pairwise_iff_getElem.1 h i j (by omega) hj hij
  rw [List.getD_eq_getElem?_getD, List.getD_eq_getElem?_getD, List.getElem?_eq_getElem (by omega), List.getElem?_eq_getElem hj]
  exact this

/-- What block k holds, if it is there. -/
def look : List Ex → Int → Option (List Int)
  | [], _ => none
  | e :: r, k => if e.no = k then some e.bs else look r k
theorem look_none {L : List Ex} {k : Int} (h : ∀ e ∈ L, e.no ≠ k) : look L k = none := by
  induction L with
  | nil => rfl
  | cons e r ih => rw [look, if_neg (h e (by simp))]; exact ih (fun x hx => h x (by simp [hx]))
theorem look_some {L : List Ex} {k : Int} {bs : List Int} (h : look L k = some bs) : ⟨k, bs⟩ ∈ L := by
  induction L with
  | nil => cases h
  | cons e r ih =>
    rw [look] at h
    split at h
    · rename_i he; injection h with h; subst he h; simp
    · exact List.mem_cons_of_mem _ (ih h)
theorem look_mem {L : List Ex} (hu : Up L) {e : Ex} (h : e ∈ L) : look L e.no = some e.bs := by
  induction L with
  | nil => cases h
  | cons a r ih =>
    rcases List.mem_cons.1 h with rfl | h
    · rw [look, if_pos rfl]
    · rw [look, if_neg (by have := up_head hu e h; omega)]; exact ih (up_tail hu) h
theorem look_append (A B : List Ex) (k : Int) : look (A ++ B) k = (match look A k with | some x => some x | none => look B k) := by
  induction A with
  | nil => rfl
  | cons e r ih =>
    rw [List.cons_append, look, look]
    split
    · rfl
    · exact ih
theorem look_ext {L M : List Ex} (hL : Up L) (hM : Up M) (h : ∀ k, look L k = look M k) : L = M := by
  induction L generalizing M with
  | nil =>
    cases M with
    | nil => rfl
    | cons b M => have := h b.no; rw [look, look, if_pos rfl] at this; cases this
  | cons a L ih =>
    cases M with
    | nil => have := h a.no; rw [look, look, if_pos rfl] at this; cases this
    | cons b M =>
      have e1 : a.no = b.no := by
        have h1 := h a.no
        have h2 := h b.no
        rw [look, if_pos rfl] at h1
        have m1 := look_some h1.symm
        rw [show look (b :: M) b.no = some b.bs by rw [look, if_pos rfl]] at h2
        have m2 := look_some h2
        rcases List.mem_cons.1 m1 with m1 | m1
        · exact congrArg Ex.no m1
        · rcases List.mem_cons.1 m2 with m2 | m2
          · exact (congrArg Ex.no m2).symm
          · have := up_head hM _ m1; have := up_head hL _ m2; simp only at *; omega
      have e2 : a.bs = b.bs := by
        have h1 := h a.no
        rw [look, if_pos rfl, look, if_pos e1.symm] at h1
        injection h1
      have e3 : a = b := by cases a; cases b; simp_all
      subst e3
      rw [ih (up_tail hL) (up_tail hM) (fun k => ?_)]
      by_cases hk : a.no = k
      · rw [look_none (fun e he => by have := up_head hL e he; omega), look_none (fun e he => by have := up_head hM e he; omega)]
      · have := h k
        rwa [look, if_neg hk, look, if_neg hk] at this

/-- How many blocks lie ahead of block k. -/
def idx : List Ex → Int → Nat
  | [], _ => 0
  | e :: r, k => if e.no < k then idx r k + 1 else 0
theorem idx_le : ∀ (L : List Ex) (k : Int), idx L k ≤ L.length
  | [], _ => Nat.le_refl _
  | e :: r, k => by have := idx_le r k; rw [idx]; split <;> simp; omega
theorem idx_lt : ∀ (L : List Ex) (k : Int) (i : Nat), i < idx L k → (L.getD i default).no < k
  | [], _, i, h => by simp [idx] at h
  | e :: r, k, i, h => by
    rw [idx] at h
    split at h
    · cases i with
      | zero => simpa
      | succ i => simpa using idx_lt r k i (by omega)
    · omega
theorem idx_ge : ∀ (L : List Ex) (k : Int) (_ : Up L) (i : Nat), idx L k ≤ i → i < L.length → k ≤ (L.getD i default).no
  | [], _, _, i, _, h => by simp at h
  | e :: r, k, hu, i, h, hl => by
    rw [idx] at h
    split at h
    · cases i with
      | zero => omega
      | succ i => simpa using idx_ge r k (up_tail hu) i (by omega) (by simpa using hl)
    · cases i with
      | zero => simp; omega
      | succ i =>
        have := up_lt hu 0 (i + 1) (by omega) hl
        simp at this ⊢
        omega
theorem idx_unique {L : List Ex} {k : Int} {i : Nat} (hi : i ≤ L.length) (h1 : ∀ j, j < i → (L.getD j default).no < k) (h2 : i < L.length → k ≤ (L.getD i default).no) : idx L k = i := by
  induction L generalizing i with
  | nil => simp [idx]; simp at hi; omega
  | cons e r ih =>
    cases i with
    | zero =>
      have := h2 (by simp)
      simp at this
      rw [idx, if_neg (by omega)]
    | succ i =>
      have := h1 0 (by omega)
      simp at this
      rw [idx, if_pos this, ih (by simpa using hi) (fun j hj => by simpa using h1 (j + 1) (by omega)) (fun h => by simpa using h2 (by simpa using h))]
/-- Block k, if it is there, stands where as many lie ahead of it. -/
theorem look_idx {L : List Ex} (hu : Up L) (k : Int) : look L k = if idx L k < L.length ∧ (L.getD (idx L k) default).no = k then some (L.getD (idx L k) default).bs else none := by
  split
  · rename_i h
    have hm : L.getD (idx L k) default ∈ L := by
      rw [List.getD_eq_getElem?_getD, List.getElem?_eq_getElem h.1]; exact List.getElem_mem h.1
    have := look_mem hu hm
    rwa [h.2] at this
  · rename_i h
    refine look_none fun e he => fun hk => h ?_
    obtain ⟨i, hi, rfl⟩ := List.mem_iff_getElem.1 he
    have hg : ∀ j, j < L.length → (L.getD j default) = L[j]! := fun j hj => by rw [List.getD_eq_getElem?_getD, List.getElem?_eq_getElem hj, Option.getD_some, getElem!_pos L j hj]
    have e0 : (L.getD i default).no = k := by rw [List.getD_eq_getElem?_getD, List.getElem?_eq_getElem hi]; exact hk
    have h1 : idx L k ≤ i := by
      by_cases hlt : i < idx L k
      · have := idx_lt L k i hlt; omega
      · omega
    have h2 : k ≤ (L.getD (idx L k) default).no := idx_ge L k hu _ (Nat.le_refl _) (by omega)
    by_cases he : idx L k = i
    · rw [he]; exact ⟨hi, e0⟩
    · have := up_lt hu (idx L k) i (by omega) hi; omega
theorem look_take {L : List Ex} (hu : Up L) (k m : Int) : look (L.take (idx L m)) k = if k < m then look L k else none := by
  induction L with
  | nil => simp [look]
  | cons e r ih =>
    have hr := up_tail hu
    rw [idx]
    by_cases h : e.no < m
    · rw [if_pos h, List.take_succ_cons, look, look, ih hr]
      by_cases hk : e.no = k
      · rw [if_pos hk, if_pos hk, if_pos (by omega)]
      · rw [if_neg hk, if_neg hk]
    · rw [if_neg h, List.take_zero, look]
      by_cases hk : k < m
      · rw [if_pos hk, look_none]
        intro x hx
        rcases List.mem_cons.1 hx with rfl | hx
        · omega
        · have := up_head hu x hx; omega
      · rw [if_neg hk]
theorem look_drop {L : List Ex} (hu : Up L) (k m : Int) : look (L.drop (idx L m)) k = if k < m then none else look L k := by
  induction L with
  | nil => simp [look]
  | cons e r ih =>
    have hr := up_tail hu
    rw [idx]
    by_cases h : e.no < m
    · rw [if_pos h, List.drop_succ_cons, ih hr, look]
      by_cases hk : k < m
      · rw [if_pos hk, if_pos hk]
      · rw [if_neg hk, if_neg hk, if_neg (by omega)]
    · rw [if_neg h, List.drop_zero]
      by_cases hk : k < m
      · rw [if_pos hk, look_none]
        intro x hx
        rcases List.mem_cons.1 hx with rfl | hx
        · omega
        · have := up_head hu x hx; omega
      · rw [if_neg hk]
theorem up_take {L : List Ex} (hu : Up L) (i : Nat) : Up (L.take i) := hu.sublist (List.take_sublist i L)
theorem up_drop {L : List Ex} (hu : Up L) (i : Nat) : Up (L.drop i) := hu.sublist (List.drop_sublist i L)
theorem take_no {L : List Ex} {m : Int} {x : Ex} (hx : x ∈ L.take (idx L m)) : x.no < m := by
  obtain ⟨i, hi, rfl⟩ := List.mem_iff_getElem.1 hx
  have h1 : i < idx L m := by rw [List.length_take] at hi; omega
  have h2 : i < L.length := by rw [List.length_take] at hi; omega
  have := idx_lt L m i h1
  rw [List.getD_eq_getElem?_getD, List.getElem?_eq_getElem h2] at this
  rw [List.getElem_take]
  exact this
theorem drop_no {L : List Ex} (hu : Up L) {m : Int} {x : Ex} (hx : x ∈ L.drop (idx L m)) : m ≤ x.no := by
  obtain ⟨i, hi, rfl⟩ := List.mem_iff_getElem.1 hx
  rw [List.length_drop] at hi
  have := idx_ge L m hu (idx L m + i) (by omega) (by omega)
  rw [List.getD_eq_getElem?_getD, List.getElem?_eq_getElem (by omega)] at this
  rw [List.getElem_drop]
  exact this
theorem idx_mono {L : List Ex} (hu : Up L) {k m : Int} (h : k ≤ m) : idx L k ≤ idx L m := by
  by_cases hl : idx L m < idx L k
  · have h1 := idx_lt L k (idx L m) hl
    have h2 := idx_ge L m hu (idx L m) (Nat.le_refl _) (by have := idx_le L k; omega)
    omega
  · omega

/-- The byte at a place. -/
def at_ (L : List Ex) (p : Int) : Int := match look L (p / 8) with | some bs => bs.getD (p % 8).toNat 0 | none => 0
theorem at_ext {L M : List Ex} {p : Int} (h : look L (p / 8) = look M (p / 8)) : at_ L p = at_ M p := by simp only [at_, h]

/-- Good, by its places. -/
theorem good_of {s : Int} {L : List Ex} (s0 : 0 ≤ s) (s1 : s ≤ 1099511627776) (hu : Up L) (h : ∀ k bs, look L k = some bs → 0 ≤ k ∧ k < 137438953472 ∧ ∀ i : Nat, i < 8 → s ≤ k * 8 + (i : Int) → bs.getD i 0 = 0) : Good s L :=
  ⟨s0, s1, hu, fun e he => by have := h _ _ (look_mem hu he); exact ⟨this.1, this.2.1⟩, fun e he => bare_of (h _ _ (look_mem hu he)).2.2⟩
theorem Good.look {s : Int} {L : List Ex} (h : Good s L) {k : Int} {bs : List Int} (hl : look L k = some bs) : 0 ≤ k ∧ k < 137438953472 ∧ ∀ i : Nat, i < 8 → s ≤ k * 8 + (i : Int) → bs.getD i 0 = 0 := by
  have hm := look_some hl
  exact ⟨(h.rng _ hm).1, (h.rng _ hm).2, fun i hi hs => bare_at (h.bare _ hm) i hi hs⟩
theorem Good.behind {s : Int} {L : List Ex} (h : Good s L) {p : Int} (hp : s ≤ p) : at_ L p = 0 := by
  unfold at_
  cases hl : Go.Proofs.YtgaaieipeiekiaaGreat.look L (p / 8) with
  | none => rfl
  | some bs =>
    have := (h.look hl).2.2 (p % 8).toNat (by omega) (by omega)
    simpa using this

end Go.Proofs.YtgaaieipeiekiaaGreat

namespace Go.Proofs.YtgaaieipeiekiaaGreat
open Go.RowKit
set_option maxRecDepth 100000

theorem ret_bool {a b : Bool} (h : a = b) : Ending.returned (.bool a) = .returned (.bool b) := by rw [h]
theorem ret_int {k : IntKind} {a b : Int} (h : a = b) : Ending.returned (.int k a) = .returned (.int k b) := by rw [h]
def TruthPost (z : Bool) (w : World) (e : Ending) (w' : World) : Prop := e = .returned (.bool z) ∧ Below w.heap.size w w'
/-- A content as a value. -/
def ct (s : Int) (A : Option Addr) (n c : Nat) : Value := .agg #[.int .i64 s, .slice A n c]
/-- Its variable. -/
def Box (w : World) (b : Nat) (s : Int) (A : Option Addr) (n c : Nat) : Prop := Row w b 32 #[.int .i64 s, .slice A n c]
theorem Box.on {w w' : World} {b : Nat} {s : Int} {A : Option Addr} {n c : Nat} (h : Box w b s A n c) (k : Below w.heap.size w w') : Box w' b s A n c := Row.on h k
theorem Box.c0 {w : World} {b : Nat} {s : Int} {A : Option Addr} {n c : Nat} (h : Box w b s A n c) : w.cell? ⟨b, 0, none⟩ = some (.int .i64 s) := by rw [Row.at h]; rfl
theorem Box.c1 {w : World} {b : Nat} {s : Int} {A : Option Addr} {n c : Nat} (h : Box w b s A n c) : w.cell? ⟨b, 1, none⟩ = some (.slice A n c) := by rw [Row.at h]; rfl
theorem Box.f0 {w : World} {b : Nat} {s : Int} {A : Option Addr} {n c : Nat} (h : Box w b s A n c) : w.frozen? ⟨b, 0, none⟩ = false := Row.free h 0
theorem Box.f1 {w : World} {b : Nat} {s : Int} {A : Option Addr} {n c : Nat} (h : Box w b s A n c) : w.frozen? ⟨b, 1, none⟩ = false := Row.free h 1
theorem Box.lt {w : World} {b : Nat} {s : Int} {A : Option Addr} {n c : Nat} (h : Box w b s A n c) : b < w.heap.size := Row.lt h
theorem box_new (w : World) (s : Int) (A : Option Addr) (n c : Nat) : Box (w.alloc (.cells #[.int .i64 s, .slice A n c] 32)) w.heap.size s A n c := Row.new w 32 _

set_option maxHeartbeats 400000 in
theorem ahead_any (no p : Int) (w : World) (h0 : 0 ≤ no) (h1 : no < 137438953472) (p0 : 0 ≤ p) (p1 : p ≤ 1099511627776) (f : Nat) (hf : min (p - no * 8).toNat 8 = f) :
    Calls Tryz.prog 84 #[.int .i64 no, .int .i64 p] w fun e w' => e = .returned (.int .i64 (f : Int)) ∧ w = w' := by
  have HF := Lib.hid hf
  clear hf
  go_enter Tryz.func84, Tryz.ntmps84
  go_wp2
  all_goals
    go_ret
    refine ⟨ret_int ?_, by simp⟩
    have := HF.out
    repeat (rename_i hh; revert hh)
    repeat' split
    all_goals intros
    all_goals omega

set_option maxHeartbeats 400000 in
theorem not0_any (z : Int) (w : World) : Calls Tryz.prog 85 #[.int .u8 z] w fun e w' => e = .returned (.bool (!decide (z = 0))) ∧ w = w' := by
  go_enter Tryz.func85, Tryz.ntmps85
  by_cases h : z = 0
  · go_wp2
    go_ret
    exact ⟨by simp [h], by simp⟩
  · go_wp2
    go_ret
    exact ⟨by simp [h], by simp⟩

def FoundPost (z : Bool) (w : World) (e : Ending) (w' : World) : Prop := ∃ i : Int, e = .returned (.int .i64 i) ∧ decide (0 ≤ i) = z ∧ Below w.heap.size w w'
theorem found_post {z : Bool} {w w' : World} {i : Int} (hz : decide (0 ≤ i) = z) (k : Below w.heap.size w w') : FoundPost z w (.returned (.int .i64 i)) w' := ⟨i, rfl, hz, k⟩

set_option maxHeartbeats 1000000 in
theorem index_not0 (A : Option Addr) (n c : Nat) (zs : List Int) (w : World) (h : Nums .u8 w A n c zs) : Calls Tryz.prog 103 #[.slice A n c, .func (.func 85) #[] #[]] w (FoundPost (zs.any fun z => !decide (z = 0)) w) := by
  have H := Lib.hid h
  have hm : n ≤ 9223372036854775807 := by have := h.le; have := h.mx; unfold maxLen at this; omega
  clear h
  go_enter Tryz.func103, Tryz.ntmps103
  go_wp2
  go_loop [8] (fun i => ∃ j : Nat, j ≤ n ∧ i = .int .i64 j ∧ Hid (((zs.take j).any fun z => !decide (z = 0)) = false)) (fun i => n - (intOf i).toNat)
  case atStart => exact ⟨0, Nat.zero_le _, rfl, by simp [Hid]⟩
  case round =>
    obtain ⟨j, hj, rfl, HT⟩ := hrel
    by_cases hlt : j < n
    · obtain ⟨b, o, rfl, hb, hc⟩ := H.out.cells (by omega)
      have c0 := hc j hlt
      have HS := Lib.hid (show (zs.take (j + 1)).any (fun z => !decide (z = 0)) = !decide (zs.getD j 0 = 0) by
        have hl : j < zs.length := by have := H.out.len; omega
        rw [List.take_add_one, List.any_append, HT.out, List.getElem?_eq_getElem hl, List.getD_eq_getElem?_getD, List.getElem?_eq_getElem hl]
        simp)
      have HI := Lib.hid (show zs.getD j 0 ≠ 0 → (zs.any fun z => !decide (z = 0)) = true from fun hz => by
        have hl : j < zs.length := by have := H.out.len; omega
        rw [List.getD_eq_getElem?_getD, List.getElem?_eq_getElem hl] at hz
        exact List.any_eq_true.2 ⟨_, List.getElem_mem hl, by simpa using hz⟩)
      clear hc
      have hji : (j : Int) < (n : Int) := by omega
      generalize zs.getD j 0 = z at *
      by_cases hz : z = 0
      · go_wp2_with (go_at_call 85; refine (not0_any _ _).mono ?_; rintro e w' ⟨rfl, rfl⟩)
        go_round
        case rel => exact ⟨j + 1, by omega, by go_num, by unfold Hid; rw [HS.out]; simp [hz]⟩
        case measure => simp [intOf]; omega
      · go_wp2_with (go_at_call 85; refine (not0_any _ _).mono ?_; rintro e w' ⟨rfl, rfl⟩)
        go_ret
        exact found_post (by rw [HI.out hz]; simp) (by first | exact Below.refl _ _ | simp)
    · have hjn : j = n := by omega
      have HL := Lib.hid (show (zs.any fun z => !decide (z = 0)) = false by have := HT.out; rwa [hjn, ← H.out.len, List.take_length] at this)
      go_wp2
      go_ret
      exact found_post (by rw [HL.out]; rfl) (by first | exact Below.refl _ _ | simp)

set_option maxHeartbeats 400000 in
theorem has_not0 (A : Option Addr) (n c : Nat) (zs : List Int) (w : World) (h : Nums .u8 w A n c zs) (z : Bool) (hz : (zs.any fun z => !decide (z = 0)) = z) : Calls Tryz.prog 83 #[.slice A n c, .func (.func 85) #[] #[]] w (TruthPost z w) := by
  subst hz
  have H := Lib.hid h
  clear h
  go_enter Tryz.func83, Tryz.ntmps83
  go_wp2_with fail
  refine (index_not0 A n c zs w H.out).mono ?_
  rintro e w1 ⟨i, rfl, hi, k⟩
  have HI := Lib.hid hi; have K := Lib.hid k
  clear hi k
  by_cases h0 : 0 ≤ i
  · go_wp2
    go_ret
    exact ⟨by rw [← HI.out]; simp [h0], K.out⟩
  · go_wp2
    go_ret
    exact ⟨by rw [← HI.out]; simp, K.out⟩

/-- x.B[f:]. -/
theorem cut8_l (b o f : Nat) (hf : f ≤ 8) : ∀ w', (Instr.sliceAt 73 (.pointer (some ⟨b, o, none⟩)) (some (.int .i64 (f : Int))) none none).run Tryz.prog w' = .ok (.slice (some ⟨b, if f = 8 then o else o + f, none⟩) (8 - f) (8 - f)) w' := by
  intro w'
  have hal : Tryz.prog.arrayLen 73 = 8 := by kernel_rfl
  simp only [Instr.sliceAt, Sem.run_bind, run_underlying Tryz.underlying73 w', Result.andThen_ok]
  have hb : (Instr.sliceBounds false 8 8 (some (.int .i64 (f : Int))) none none).run Tryz.prog w' = .ok (f, 8, 8) w' := by
    simp [Instr.sliceBounds, run_sliceBound, show (f : Int) ≤ 8 by omega]
  simp [Instr.sureAddr, hb, Addr.add_mid]
  by_cases h8 : f = 8
  · subst h8; simp
  · have h8' : ¬ 8 = f := fun h => h8 h.symm
    simp [h8, h8']
theorem nums8 {w : World} {b : Nat} {e : Ex} (h : XRow w b e) (f : Nat) (hf : f ≤ 8) : Nums .u8 w (some ⟨b, if f = 8 then 1 else 1 + f, none⟩) (8 - f) (8 - f) (e.bs.drop f) := by
  have h8 := h.2.1
  refine ⟨by simp [h8], Nat.le_refl _, by unfold maxLen; omega, (fun h => by cases h), fun hp => ⟨b, _, rfl, h.lt, fun j hj => ?_⟩⟩
  rw [if_neg (by omega), Nat.add_assoc, h.byte (f + j) (by omega)]
  simp [List.getD_eq_getElem?_getD]
theorem tail8 {w : World} {b : Nat} {e : Ex} (h : XRow w b e) (f : Nat) (hf : f ≤ 8) : ∃ o m, (∀ w', (Instr.sliceAt 73 (.pointer (some ⟨b, 1, none⟩)) (some (.int .i64 (f : Int))) none none).run Tryz.prog w' = .ok (.slice (some ⟨b, o, none⟩) m m) w') ∧ Nums .u8 w (some ⟨b, o, none⟩) m m (e.bs.drop f) :=
  ⟨_, _, cut8_l b 1 f hf, nums8 h f hf⟩
theorem bare_drop {e : Ex} (he : e.ok) (s : Int) (f : Nat) (hf : min (s - e.no * 8).toNat 8 = f) : (!((e.bs.drop f).any fun z => !decide (z = 0))) = bareB e s := by
  rw [Bool.eq_iff_iff, Bool.not_eq_true', List.any_eq_false]
  constructor
  · intro h
    refine bare_of fun k hk hs => ?_
    have hl : k < e.bs.length := by rw [he.1]; exact hk
    have hm : e.bs[k] ∈ e.bs.drop f := by
      refine List.mem_iff_getElem.2 ⟨k - f, by simp; omega, ?_⟩
      rw [List.getElem_drop]; congr 1; omega
    have := h _ hm
    rw [List.getD_eq_getElem?_getD, List.getElem?_eq_getElem hl]
    simpa using this
  · intro h x hx
    obtain ⟨i, hi, rfl⟩ := List.mem_iff_getElem.1 hx
    rw [List.length_drop, he.1] at hi
    have hl : f + i < e.bs.length := by rw [he.1]; omega
    have := bare_at h (f + i) (by omega) (by omega)
    rw [List.getD_eq_getElem?_getD, List.getElem?_eq_getElem hl] at this
    rw [List.getElem_drop]
    simpa using this

set_option maxHeartbeats 1000000 in
theorem bare_any (e : Ex) (s : Int) (w : World) (he : e.ok) (h0 : 0 ≤ e.no) (h1 : e.no < 137438953472) (s0 : 0 ≤ s) (s1 : s ≤ 1099511627776) (z : Bool) (hz : bareB e s = z) : Calls Tryz.prog 69 #[ev e, .int .i64 s] w (TruthPost z w) := by
  obtain ⟨f, hf⟩ : ∃ f, min (s - e.no * 8).toNat 8 = f := ⟨_, rfl⟩
  have hf8 : f ≤ 8 := by omega
  have HZ := Lib.hid hz; have HF := Lib.hid hf; have HE := Lib.hid he
  have HB := Lib.hid (bare_drop he s f hf)
  have hno : ∃ no, e.no = no := ⟨_, rfl⟩
  obtain ⟨no, hno⟩ := hno
  rw [hno] at h0 h1
  have HN := Lib.hid hno
  clear hz hf he hno
  go_enter Tryz.func69, Tryz.ntmps69
  go_wp2_with (refine st_boxx rfl _ rfl e rfl HE.out ?_; intro b w1 hb x1 k1; have X1 := Lib.hid x1; have K1 := Lib.hid k1; have c0 := x1.no; rw [HN.out] at c0; obtain ⟨o', m', HS, hn⟩ := tail8 x1 f hf8; have HU := Lib.hid hn; clear x1 k1 hn)
  refine (ahead_any no s w1 h0 h1 s0 s1 f (by rw [← HN.out]; exact HF.out)).mono ?_
  rintro e' w' ⟨rfl, rfl⟩
  go_wp2_with fail
  obtain ⟨q, hq⟩ : ∃ q, ((e.bs.drop f).any fun z => !decide (z = 0)) = q := ⟨_, rfl⟩
  refine (has_not0 _ _ _ _ _ HU.out q hq).mono ?_
  rintro e' w2 ⟨rfl, k2⟩
  have K2 := Lib.hid (K1.out.trans (k2.mono K1.out.size)); have HQ := Lib.hid hq
  clear k2 hq
  go_wp2
  go_ret
  exact ⟨ret_bool (by rw [← HZ.out, ← HB.out, HQ.out]), K2.out⟩

theorem good_step (s l : Int) (L : List Ex) (j : Nat) (hj : j < L.length) : goodFrom s l (L.drop j) = (decide (l < (L.getD j default).no) && decide ((L.getD j default).no < 137438953472) && bareB (L.getD j default) s && goodFrom s (L.getD j default).no (L.drop (j + 1))) := by
  rw [List.drop_eq_getElem_cons hj, List.getD_eq_getElem?_getD, List.getElem?_eq_getElem hj]; rfl

set_option maxHeartbeats 2000000 in
theorem may_any (s : Int) (A : Option Addr) (n c : Nat) (L : List Ex) (w : World) (h : Exts w A n c L) (z : Bool) (hz : may s L = z) : Calls Tryz.prog 41 #[ct s A n c] w (TruthPost z w) := by
  have HZ := Lib.hid hz
  have K0 := Lib.hid (show Below w.heap.size w (w.alloc (.cells #[.int .i64 s, .slice A n c] 32)) from (Below.refl _ _).alloc (Nat.le_refl _) _)
  have B0 := Lib.hid (box_new w s A n c)
  have H := Lib.hid h
  have hm := h.max
  clear h hz
  show Calls Tryz.prog 41 #[.agg #[.int .i64 s, .slice A n c]] w _
  go_enter Tryz.func41, Tryz.ntmps41
  by_cases s0 : 0 ≤ s
  · by_cases s1 : s ≤ 1099511627776
    · have HG := Lib.hid (show may s L = goodFrom s (-1) L by simp [may, s0, s1])
      go_wp2
      go_loopw [3, 17] (fun l i wr => ∃ (j : Nat) (l' : Int), j ≤ n ∧ i = .int .i64 j ∧ l = .int .i64 l' ∧ -1 ≤ l' ∧ Hid (may s L = goodFrom s l' (L.drop j)) ∧ Hid (Below w.heap.size w wr) ∧ Hid (Box wr w.heap.size s A n c)) (fun _ i _ => n - (intOf i).toNat)
      case atStart => exact ⟨0, -1, Nat.zero_le _, rfl, rfl, by omega, HG.out, K0.out, B0.out⟩
      case round =>
        obtain ⟨j, l', hj, rfl, rfl, hl', HM, K1, B1⟩ := hrel
        clear K0 B0
        have c0 := B1.out.c0; have c1 := B1.out.c1
        by_cases hlt : j < n
        · obtain ⟨b, o, rfl, hb, hc⟩ := H.out.cells (by omega)
          have HS := Lib.hid (good_step s l' L j (by have := H.out.len; omega))
          have HO := Lib.hid (H.out.get j hlt)
          have R1 := Lib.hid ((H.out.on K1.out).cells (by omega))
          have hji : (j : Int) < (n : Int) := by omega
          have hr : wr.rangeAt b (o + j * 9) (ecl (L.getD j default)) := fun q v hv => (K1.out.cell (p := ⟨b, o + j * 9 + q, none⟩) hb).trans (hc j hlt q v hv)
          have HR := Lib.hid hr
          clear hr hc R1
          generalize L.getD j default = e at *
          obtain ⟨no, hno⟩ : ∃ no, e.no = no := ⟨_, rfl⟩
          have HN := Lib.hid hno
          rw [hno] at HS
          clear hno
          by_cases n0 : l' < no
          · by_cases n1 : no < 137438953472
            · have n2 : ¬ no ≤ l' := by omega
              go_wp2_with (first | (refine st_loadx rfl _ rfl b (o + j * 9) rfl e HR.out HO.out ?_) | (refine st_allocx rfl rfl ?_; intro b1 w1 hb1 x1 k1; have X1 := Lib.hid x1; have K2 := Lib.hid k1; clear x1 k1) | (refine st_storev rfl _ _ rfl b1 rfl e rfl HO.out _ X1.out ?_; intro w2 x2 o2 s2; have X2 := Lib.hid x2; have K3 := Lib.hid (K2.out.trans (o2.below K2.out.size (fun d hd => by omega))); clear x2 o2 s2; have d0 := X2.out.no; rw [HN.out] at d0; have B2 := Lib.hid ((B1.out.on (K3.out.mono (Nat.le_refl _)))); have e0 := B2.out.c0) | (refine st_loadxg (by simp [Region.wanted, yielded]; omega) _ rfl b1 0 rfl e X2.out.range HO.out ?_))
              obtain ⟨z', hz'⟩ : ∃ z', bareB e s = z' := ⟨_, rfl⟩
              have HZ' := Lib.hid hz'
              clear hz'
              refine (bare_any e s w2 HO.out (by rw [HN.out]; omega) (by rw [HN.out]; exact n1) s0 s1 z' HZ'.out).mono ?_
              rintro e' w3 ⟨rfl, k4⟩
              have K4 := Lib.hid (K1.out.trans ((K3.out.trans (k4.mono K3.out.size)).mono K1.out.size))
              have B4 := Lib.hid (B2.out.on k4)
              have X4 := Lib.hid (X2.out.on k4)
              clear k4
              have g0 := X4.out.no
              rw [HN.out] at g0
              cases z' with
              | true =>
                go_wp2
                go_roundw
                case rel => exact ⟨j + 1, no, by omega, by go_num, rfl, by omega, by unfold Hid; rw [HM.out, HS.out, HZ'.out]; simp [n0, n1], K4.out, B4.out⟩
                case measure => simp [intOf]; omega
              | false =>
                have HF := Lib.hid (show may s L = false by rw [HM.out, HS.out, HZ'.out]; simp)
                go_wp2
                go_ret
                exact ⟨ret_bool (by rw [← HZ.out, HF.out]), K4.out⟩
            · have HF := Lib.hid (show may s L = false by rw [HM.out, HS.out]; simp [n1])
              go_wp2_with (first | (refine st_loadx rfl _ rfl b (o + j * 9) rfl e HR.out HO.out ?_) | (refine st_allocx rfl rfl ?_; intro b1 w1 hb1 x1 k1; have X1 := Lib.hid x1; have K2 := Lib.hid k1; clear x1 k1) | (refine st_storev rfl _ _ rfl b1 rfl e rfl HO.out _ X1.out ?_; intro w2 x2 o2 s2; have X2 := Lib.hid x2; have K3 := Lib.hid (K2.out.trans (o2.below K2.out.size (fun d hd => by omega))); clear x2 o2 s2; have d0 := X2.out.no; rw [HN.out] at d0))
              go_ret
              exact ⟨ret_bool (by rw [← HZ.out, HF.out]), K1.out.trans (K3.out.mono K1.out.size)⟩
          · have HF := Lib.hid (show may s L = false by rw [HM.out, HS.out]; simp [n0])
            go_wp2_with (first | (refine st_loadx rfl _ rfl b (o + j * 9) rfl e HR.out HO.out ?_) | (refine st_allocx rfl rfl ?_; intro b1 w1 hb1 x1 k1; have X1 := Lib.hid x1; have K2 := Lib.hid k1; clear x1 k1) | (refine st_storev rfl _ _ rfl b1 rfl e rfl HO.out _ X1.out ?_; intro w2 x2 o2 s2; have X2 := Lib.hid x2; have K3 := Lib.hid (K2.out.trans (o2.below K2.out.size (fun d hd => by omega))); clear x2 o2 s2; have d0 := X2.out.no; rw [HN.out] at d0))
            go_ret
            exact ⟨ret_bool (by rw [← HZ.out, HF.out]), K1.out.trans (K3.out.mono K1.out.size)⟩
        · have hjn : j = n := by omega
          have HT := Lib.hid (show may s L = true by rw [HM.out, List.drop_of_length_le (by rw [H.out.len]; omega)]; rfl)
          go_wp2
          go_ret
          exact ⟨ret_bool (by rw [← HZ.out, HT.out]), K1.out⟩
    · have HF := Lib.hid (show may s L = false by simp [may, s1])
      go_wp2
      go_ret
      exact ⟨ret_bool (by rw [← HZ.out, HF.out]), K0.out⟩
  · have HF := Lib.hid (show may s L = false by simp [may, s0])
    go_wp2
    go_ret
    exact ⟨ret_bool (by rw [← HZ.out, HF.out]), K0.out⟩
end Go.Proofs.YtgaaieipeiekiaaGreat

namespace Go.Proofs.YtgaaieipeiekiaaGreat
open Go.RowKit
set_option maxRecDepth 100000

set_option maxHeartbeats 400000 in
theorem nan_any (z : Int) (w : World) : Calls Tryz.prog 80 #[.int .i64 z] w fun e w' => e = .returned (.bool false) ∧ w = w' := by
  go_enter Tryz.func80, Tryz.ntmps80
  go_wp2
  go_ret
  exact ⟨ret_bool (by simp), by simp⟩

def cmpv (a b : Int) : Int := if a < b then -1 else if b < a then 1 else 0
set_option maxHeartbeats 400000 in
theorem compare_any (a b : Int) (w : World) : Calls Tryz.prog 61 #[.int .i64 a, .int .i64 b] w fun e w' => e = .returned (.int .i64 (cmpv a b)) ∧ w = w' := by
  have H1 := Lib.hid (show a < b → cmpv a b = -1 from fun h => by simp [cmpv, h])
  have H2 := Lib.hid (show b < a → cmpv a b = 1 from fun h => by simp [cmpv, h]; omega)
  have H3 := Lib.hid (show a = b → cmpv a b = 0 from fun h => by simp [cmpv, h])
  go_enter Tryz.func61, Tryz.ntmps61
  rcases Int.lt_trichotomy a b with h | h | h
  · go_wp2_with (go_at_call 80; refine (nan_any _ _).mono ?_; rintro e w' ⟨rfl, rfl⟩)
    go_ret
    exact ⟨ret_int (H1.out h).symm, by simp⟩
  · have h1 : ¬ a < b := by omega
    have h2 : ¬ b < a := by omega
    go_wp2_with (go_at_call 80; refine (nan_any _ _).mono ?_; rintro e w' ⟨rfl, rfl⟩)
    go_ret
    exact ⟨ret_int (H3.out h).symm, by simp⟩
  · have h1 : ¬ a < b := by omega
    go_wp2_with (go_at_call 80; refine (nan_any _ _).mono ?_; rintro e w' ⟨rfl, rfl⟩)
    go_ret
    exact ⟨ret_int (H2.out h).symm, by simp⟩

set_option maxHeartbeats 400000 in
theorem cmpx_any (e : Ex) (k : Int) (w : World) (he : e.ok) (v : Int) (hv : cmpv e.no k = v) : Calls Tryz.prog 130 #[ev e, .int .i64 k] w fun e' w' => e' = .returned (.int .i64 v) ∧ Below w.heap.size w w' := by
  have HE := Lib.hid he; have HV := Lib.hid hv
  obtain ⟨no, hno⟩ : ∃ no, e.no = no := ⟨_, rfl⟩
  have HN := Lib.hid hno
  clear he hv hno
  go_enter Tryz.func130, Tryz.ntmps130
  go_wp2_with (first | (refine st_boxx rfl _ rfl e rfl HE.out ?_; intro b w1 hb x1 k1; have K1 := Lib.hid k1; have c0 := x1.no; rw [HN.out] at c0; clear x1 k1) | (go_at_call 61; refine (compare_any _ _ _).mono ?_; rintro e' w' ⟨rfl, rfl⟩))
  go_ret
  exact ⟨ret_int (by rw [← HV.out, HN.out]), K1.out⟩

theorem ret_pair {a b : Int} {y z : Bool} (h : a = b) (k : y = z) : Ending.returned (.tuple #[.int .i64 a, .bool y]) = .returned (.tuple #[.int .i64 b, .bool z]) := by rw [h, k]
def FindPost (i : Nat) (z : Bool) (w : World) (e : Ending) (w' : World) : Prop := e = .returned (.tuple #[.int .i64 (i : Int), .bool z]) ∧ Below w.heap.size w w'

set_option maxHeartbeats 2000000 in
theorem search_any (A : Option Addr) (n c : Nat) (L : List Ex) (k : Int) (w : World) (h : Exts w A n c L) (hu : Up L) (hn : n ≤ 1000000) (i : Nat) (z : Bool) (hi : idx L k = i) (hz : (look L k).isSome = z) :
    Calls Tryz.prog 129 #[.slice A n c, .int .i64 k, .func (.func 130) #[] #[]] w (FindPost i z w) := by
  have H := Lib.hid h
  have HI := Lib.hid hi
  have HZ := Lib.hid (show (decide (i < n) && decide ((L.getD i default).no = k)) = z by
    rw [← hz, look_idx hu, hi, h.len]
    by_cases hh : i < n ∧ (L.getD i default).no = k
    · rw [if_pos hh]; simp only [hh.1, hh.2, decide_true, Bool.and_self, Option.isSome_some]
    · rw [if_neg hh]
      show _ = false
      rw [← Bool.not_eq_true, Bool.and_eq_true, decide_eq_true_eq, decide_eq_true_eq]
      exact hh)
  have HU := Lib.hid hu
  clear h hi hz hu
  go_enter Tryz.func129, Tryz.ntmps129
  go_wp2
  go_loopw [9, 10] (fun a b wr => ∃ x y : Nat, x ≤ y ∧ y ≤ n ∧ a = .int .i64 x ∧ b = .int .i64 y ∧ Hid (∀ m, m < x → (L.getD m default).no < k) ∧ Hid (∀ m, y ≤ m → m < n → k ≤ (L.getD m default).no) ∧ Hid (Below w.heap.size w wr)) (fun a b _ => (intOf b).toNat - (intOf a).toNat)
  case atStart => exact ⟨0, n, Nat.zero_le _, Nat.le_refl _, rfl, rfl, fun m h => absurd h (by omega), fun m h h' => absurd h (by omega), Below.refl _ _⟩
  case round =>
    obtain ⟨x, y, hxy, hyn, rfl, rfl, HX, HY, K1⟩ := hrel
    by_cases hlt : x < y
    · obtain ⟨b, o, rfl, hb, hc⟩ := H.out.cells (by omega)
      obtain ⟨m, hm⟩ : ∃ m, (x + y) / 2 = m := ⟨_, rfl⟩
      have hmi : ((x : Int) + (y : Int)) / 2 = (m : Int) := by omega
      have m1 : x ≤ m := by omega
      have m2 : m < y := by omega
      have HO := Lib.hid (H.out.get m (by omega))
      have HR := Lib.hid (show wr.rangeAt b (o + m * 9) (ecl (L.getD m default)) from fun q v hv => (K1.out.cell (p := ⟨b, o + m * 9 + q, none⟩) hb).trans (hc m (by omega) q v hv))
      clear hc
      obtain ⟨v, hv⟩ : ∃ v, cmpv (L.getD m default).no k = v := ⟨_, rfl⟩
      have HV := Lib.hid hv
      clear hv
      have HXm := Lib.hid (show v < 0 → ∀ q, q < m + 1 → (L.getD q default).no < k from fun h q hq => by
        have h1 : (L.getD m default).no < k := by
          have := HV.out
          unfold cmpv at this
          split at this <;> (try split at this) <;> omega
        by_cases he : q = m
        · rw [he]; exact h1
        · have := up_lt HU.out q m (by omega) (by have := H.out.len; omega); omega)
      have HYm := Lib.hid (show ¬ v < 0 → ∀ q, m ≤ q → q < n → k ≤ (L.getD q default).no from fun h q hq hqn => by
        have h1 : k ≤ (L.getD m default).no := by
          have := HV.out
          unfold cmpv at this
          split at this <;> (try split at this) <;> omega
        by_cases he : q = m
        · rw [he]; exact h1
        · have := up_lt HU.out m q (by omega) (by have := H.out.len; omega); omega)
      generalize L.getD m default = e at HO HR HV
      by_cases hv : v < 0
      · go_wp2_with (first | (refine st_loadx rfl _ rfl b (o + m * 9) rfl e HR.out HO.out ?_) | (go_at_call 130; refine (cmpx_any e k _ HO.out v HV.out).mono ?_; rintro e' w2 ⟨rfl, k2⟩; have K2 := Lib.hid (K1.out.trans (k2.mono K1.out.size)); clear k2))
        go_roundw
        case rel => exact ⟨m + 1, y, by omega, by omega, by go_num, rfl, HXm.out hv, HY.out, K2.out⟩
        case measure => simp [intOf]; omega
      · go_wp2_with (first | (refine st_loadx rfl _ rfl b (o + m * 9) rfl e HR.out HO.out ?_) | (go_at_call 130; refine (cmpx_any e k _ HO.out v HV.out).mono ?_; rintro e' w2 ⟨rfl, k2⟩; have K2 := Lib.hid (K1.out.trans (k2.mono K1.out.size)); clear k2))
        go_roundw
        case rel => exact ⟨x, m, by omega, by omega, rfl, rfl, HX.out, HYm.out hv, K2.out⟩
        case measure => simp [intOf]; omega
    · obtain rfl : x = y := by omega
      have hxi : i = x := by
        rw [← HI.out]
        exact idx_unique (by rw [H.out.len]; exact hyn) HX.out (fun h => HY.out x (Nat.le_refl _) (by rw [H.out.len] at h; exact h))
      subst hxi
      by_cases hin : i < n
      · obtain ⟨b, o, rfl, hb, hc⟩ := H.out.cells (by omega)
        have HO := Lib.hid (H.out.get i hin)
        have HR := Lib.hid (show wr.rangeAt b (o + i * 9) (ecl (L.getD i default)) from fun q v hv => (K1.out.cell (p := ⟨b, o + i * 9 + q, none⟩) hb).trans (hc i hin q v hv))
        clear hc
        obtain ⟨v, hv⟩ : ∃ v, cmpv (L.getD i default).no k = v := ⟨_, rfl⟩
        have HV := Lib.hid hv
        have HW := Lib.hid (show decide (v = 0) = z by
          rw [← HZ.out, ← hv]
          simp only [hin, decide_true, Bool.true_and]
          generalize (L.getD i default).no = q
          unfold cmpv
          split <;> (try split) <;> simp <;> omega)
        clear hv
        generalize L.getD i default = e at HO HR HV
        by_cases hv : v = 0
        · go_wp2_with (first | (refine st_loadxg (by first | rfl | (simp [Region.wanted, yielded]; done) | (simp [Region.wanted, yielded]; omega)) _ rfl b (o + i * 9) rfl e HR.out HO.out ?_) | (go_at_call 130; refine (cmpx_any e k _ HO.out v HV.out).mono ?_; rintro e' w2 ⟨rfl, k2⟩; have K2 := Lib.hid (K1.out.trans (k2.mono K1.out.size)); clear k2))
          go_ret2
          exact ⟨ret_pair rfl (by rw [← HW.out]; simp [hv]), K2.out⟩
        · go_wp2_with (first | (refine st_loadxg (by first | rfl | (simp [Region.wanted, yielded]; done) | (simp [Region.wanted, yielded]; omega)) _ rfl b (o + i * 9) rfl e HR.out HO.out ?_) | (go_at_call 130; refine (cmpx_any e k _ HO.out v HV.out).mono ?_; rintro e' w2 ⟨rfl, k2⟩; have K2 := Lib.hid (K1.out.trans (k2.mono K1.out.size)); clear k2))
          go_ret2
          exact ⟨ret_pair rfl (by rw [← HW.out]; simp [hv]), K2.out⟩
      · have HW := Lib.hid (show false = z by rw [← HZ.out]; simp [hin])
        go_wp2
        go_ret2
        exact ⟨ret_pair rfl (by rw [← HW.out]), K1.out⟩

set_option maxHeartbeats 400000 in
theorem find_any (A : Option Addr) (n c : Nat) (L : List Ex) (k : Int) (w : World) (h : Exts w A n c L) (hu : Up L) (hn : n ≤ 1000000) (i : Nat) (z : Bool) (hi : idx L k = i) (hz : (look L k).isSome = z) :
    Calls Tryz.prog 121 #[.slice A n c, .int .i64 k] w (FindPost i z w) := by
  have H := Lib.hid h; have HU := Lib.hid hu; have HI := Lib.hid hi; have HZ := Lib.hid hz
  clear h hu hi hz
  go_enter Tryz.func121, Tryz.ntmps121
  go_wp2_with fail
  refine (search_any A n c L k w H.out HU.out hn i z HI.out HZ.out).mono ?_
  rintro e w1 ⟨rfl, k1⟩
  have K1 := Lib.hid k1
  clear k1
  go_wp2
  go_ret2
  exact ⟨rfl, K1.out⟩
end Go.Proofs.YtgaaieipeiekiaaGreat
