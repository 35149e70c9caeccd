/- The steps of a walk that turn whole blocks of a file: load, store, box, alloc, build, append, compare, slice. -/
import Derived.Test.YtigfimlpjmmpoaaExts
import Derived.Great.BuildSlice
namespace Go.Proofs.Ytigfimlpjmmpoaa
open Go.RowKit

theorem info5 : (Try.prog.info? 5).map (fun i => (i.zero, i.size, i.bytes)) = some (some (.int .u8 0), 1, 1) := by kernel_rfl
theorem info32 : (Try.prog.info? 32).map (fun i => (i.zero, i.size, i.bytes)) = some (some (.agg (ecl ⟨0, nul8⟩).toArray), 9, 16) := by kernel_rfl
theorem zero32 : (Try.prog.info? 32).map (fun i => (i.zero, i.size)) = some (some (.agg (ecl ⟨0, nul8⟩).toArray), 9) := by kernel_rfl
theorem size32 : (Try.prog.info? 32).map (·.size) = some 9 := by kernel_rfl

theorem fold_set (off : Nat) : ∀ (l : List Value) (k : Nat) (a : Array Value) (i : Nat),
    ((l.zipIdx k).foldl (fun cs p => cs.setIfInBounds (off + p.2) p.1) a)[i]? = if off + k ≤ i ∧ i < off + k + l.length ∧ i < a.size then l[i - off - k]? else a[i]?
  | [], k, a, i => by simp; intro h1 h2; omega
  | v :: l, k, a, i => by
    rw [List.zipIdx_cons, List.foldl_cons, fold_set off l (k + 1)]
    simp only [Array.size_setIfInBounds, List.length_cons]
    by_cases h1 : off + (k + 1) ≤ i ∧ i < off + (k + 1) + l.length ∧ i < a.size
    · rw [if_pos h1, if_pos (by omega)]
      rw [show i - off - k = (i - off - (k + 1)) + 1 by omega, List.getElem?_cons_succ]
    · rw [if_neg h1, Array.getElem?_setIfInBounds]
      by_cases h2 : off + k = i
      · subst h2
        by_cases h3 : off + k < a.size
        · rw [if_pos rfl, if_pos h3, if_pos (by omega)]; simp
        · rw [if_pos rfl, if_neg h3, if_neg (by omega), Array.getElem?_eq_none (by omega)]
      · rw [if_neg h2, if_neg (by omega)]
theorem fold_set' (off : Nat) (vs a : Array Value) (i : Nat) :
    (vs.zipIdx.foldl (fun cs (p : Value × Nat) => cs.setIfInBounds (off + p.2) p.1) a)[i]? = if off ≤ i ∧ i < off + vs.size ∧ i < a.size then vs[i - off]? else a[i]? := by
  rw [← Array.foldl_toList, Array.toList_zipIdx, fold_set]
  simp
theorem fold_size (off : Nat) (vs a : Array Value) : (vs.zipIdx.foldl (fun cs (p : Value × Nat) => cs.setIfInBounds (off + p.2) p.1) a).size = a.size := by
  rw [← Array.foldl_toList]
  generalize vs.zipIdx.toList = l
  induction l generalizing a with
  | nil => rfl
  | cons x l ih => rw [List.foldl_cons, ih]; simp

theorem built_one {e : Ex} (hk : e.ok) : Instr.fill (fun i => some (i * 9, 9)) ((Array.range (1 * 9)).map ((Value.agg (ecl ⟨0, nul8⟩).toArray).cells[· % (Value.agg (ecl ⟨0, nul8⟩).toArray).cells.size]!)) [(0, ev e)] = some (ecl e).toArray := by
  simp only [Instr.fill]
  have hc : (ev e).cells = (ecl e).toArray := rfl
  rw [hc]
  have hs := ecl_size hk
  rw [if_neg (by simp only [hs, Array.size_map, Array.size_range]; simp)]
  congr 1
  apply Array.ext_getElem?
  intro i
  rw [fold_set', hs]
  simp only [Array.size_map, Array.size_range]
  by_cases h : i < 9
  · rw [if_pos (by omega)]; simp
  · rw [if_neg (by omega), Array.getElem?_eq_none (by simp; omega), Array.getElem?_eq_none (by rw [hs]; omega)]

/-- A variable that holds a block. -/
def XRow (w : World) (b : Nat) (e : Ex) : Prop := Row w b 32 (ecl e).toArray ∧ e.ok
theorem XRow.on {w w' : World} {b : Nat} {e : Ex} (h : XRow w b e) (k : Below w.heap.size w w') : XRow w' b e := ⟨h.1.on k, h.2⟩
theorem XRow.lt {w : World} {b : Nat} {e : Ex} (h : XRow w b e) : b < w.heap.size := h.1.lt
theorem XRow.no {w : World} {b : Nat} {e : Ex} (h : XRow w b e) : w.cell? ⟨b, 0, none⟩ = some (.int .i64 e.no) := by rw [h.1.at]; rfl
theorem XRow.range {w : World} {b : Nat} {e : Ex} (h : XRow w b e) : w.rangeAt b 0 (ecl e) := fun j v hv => by rw [Nat.zero_add, h.1.at]; simpa using hv
theorem XRow.byte {w : World} {b : Nat} {e : Ex} (h : XRow w b e) (k : Nat) (hk : k < 8) : w.cell? ⟨b, 1 + k, none⟩ = some (.int .u8 (e.bs.getD k 0)) := by
  rw [h.1.at, List.getElem?_toArray, ecl_byte h.2 k hk]
theorem XRow.free {w : World} {b : Nat} {e : Ex} (h : XRow w b e) (k : Nat) : w.frozen? ⟨b, k, none⟩ = false := h.1.free k

theorem run_loadx {w : World} {b o : Nat} {e : Ex} (h : w.rangeAt b o (ecl e)) (ho : e.ok) : (Instr.loadAt 32 (.pointer (some ⟨b, o, none⟩))).run Try.prog w = .ok (ev e) w :=
  run_loadAt_mid w b o 32 (ecl e) _ h Try.underlying32 rfl (by rw [ecl_len ho]; exact size32)
/-- As the walk's own set leaves a load. -/
theorem lcf {w : World} {b o : Nat} {e : Ex} (h : w.rangeAt b o (ecl e)) (ho : e.ok) : (loadCellsFrom ⟨b, o, none⟩ 0 9 #[]).run Try.prog w = .ok (ecl e).toArray w := by
  have := run_loadCells_list (P := Try.prog) w ⟨b, o, none⟩ (ecl e) (fun j v hv => by rw [Addr.add_mid]; exact h j v hv)
  rw [ecl_len ho] at this
  simpa [loadCells] using this
theorem built32 (n : Int) : Try.prog.built 32 [(0, .int .i64 n)] = some (ecl ⟨n, nul8⟩).toArray := by
  have hz := zero32
  have hp : (match Try.prog.underlying 32 with | some (.struct fields) => fields.toList.mapM (fun f => (Try.prog.info? f.type).map fun i => (f.offset, i.size)) | _ => none) = some [(0, 1), (1, 8)] := by kernel_rfl
  cases hi : Try.prog.info? 32 with
  | none => rw [hi] at hz; cases hz
  | some i0 =>
    rw [hi] at hz
    simp only [Option.map_some, Option.some.injEq, Prod.mk.injEq] at hz
    have hz0 := hz.1
    unfold Program.built
    rw [Try.underlying32] at hp ⊢
    simp only [hi, hz0]
    simp only at hp
    rw [hp]
    rfl

section
variable {ops : Array Oper} {rest : List Oper} {o : Oper} {a : Act} {w : World} {Q : Exit → Act → World → Prop}

theorem st_loadx (hgd : o.guard = none) (x : Operand) (ho : o.op = .load 32 x) (b p : Nat) (hx : a.eval x = .pointer (some ⟨b, p, none⟩)) (e : Ex) (hr : w.rangeAt b p (ecl e)) (hk : e.ok)
    (h : wpList Try.prog ops Q rest (a.put o.dst (ev e)) w) : wpList Try.prog ops Q (o :: rest) a w := by
  refine wpList_plain hgd fun K hK => ?_
  unfold Oper.wp execOp
  simp only [ho, hx, run_loadx hr hk, Sem.run_bind, Sem.run_pure, Result.andThen_ok]
  exact hK _ _ h
/-- .. one whose guard says yes. -/
theorem st_loadxg (hgd : Region.wanted o (yielded ops a.tmps) = true) (x : Operand) (ho : o.op = .load 32 x) (b p : Nat) (hx : a.eval x = .pointer (some ⟨b, p, none⟩)) (e : Ex) (hr : w.rangeAt b p (ecl e)) (hk : e.ok)
    (h : wpList Try.prog ops Q rest (a.put o.dst (ev e)) w) : wpList Try.prog ops Q (o :: rest) a w := by
  refine BigFrame.wpList_want hgd fun K hK => ?_
  unfold Oper.wp execOp
  simp only [ho, hx, run_loadx hr hk, Sem.run_bind, Sem.run_pure, Result.andThen_ok]
  exact hK _ _ h
theorem st_allocx (hgd : o.guard = none) (ho : o.op = .alloc 32)
    (h : ∀ (b : Nat) (w1 : World), w.heap.size ≤ b → XRow w1 b ⟨0, nul8⟩ → Below w.heap.size w w1 → wpList Try.prog ops Q rest (a.put o.dst (.pointer (some ⟨b, 0, none⟩))) w1) :
    wpList Try.prog ops Q (o :: rest) a w := by
  refine wpList_plain hgd fun K hK => ?_
  unfold Oper.wp execOp
  simp [ho, Instr.alloc, (zero_of_info zero32).1, newVar, newRow, Result.andThen]
  exact hK _ _ (h _ _ (Nat.le_refl _) ⟨Row.new w 32 _, ok_nul 0⟩ ((Below.refl _ _).alloc (Nat.le_refl _) _))
theorem st_boxx (hgd : o.guard = none) (x : Operand) (ho : o.op = .box 32 x) (e : Ex) (hx : a.eval x = ev e) (hk : e.ok)
    (h : ∀ (b : Nat) (w1 : World), w.heap.size ≤ b → XRow w1 b e → Below w.heap.size w w1 → wpList Try.prog ops Q rest (a.put o.dst (.pointer (some ⟨b, 0, none⟩))) w1) :
    wpList Try.prog ops Q (o :: rest) a w := by
  refine wpList_plain hgd fun K hK => ?_
  unfold Oper.wp execOp
  simp [ho, hx, ev, Instr.box, newVar, newRow, Result.andThen]
  exact hK _ _ (h _ _ (Nat.le_refl _) ⟨Row.new w 32 _, hk⟩ ((Below.refl _ _).alloc (Nat.le_refl _) _))
/-- A block stored whole into a variable. -/
theorem st_storev (hgd : o.guard = none) (x y : Operand) (ho : o.op = .store 32 x y) (b : Nat) (hx : a.eval x = .pointer (some ⟨b, 0, none⟩)) (e : Ex) (hy : a.eval y = ev e) (hk : e.ok) (e0 : Ex) (hr : XRow w b e0)
    (h : ∀ w1 : World, XRow w1 b e → Only (fun d => d = b) w w1 → w1.heap.size = w.heap.size → wpList Try.prog ops Q rest (a.put o.dst undef) w1) : wpList Try.prog ops Q (o :: rest) a w := by
  refine wpList_plain hgd fun K hK => ?_
  unfold Oper.wp execOp
  have hrun := run_storeVar_row w b 32 32 (ecl e0).toArray (ecl e).toArray (P := Try.prog) hr.1 (by rw [ecl_size hk]; exact size32) (by rw [ecl_size hr.2, ecl_size hk]) (all_oneCell_toArray (ecl_one e))
  simp only [ho, hx, hy, ev, Instr.storeAt, Instr.sureAddr, Sem.run_bind, Sem.run_pure, Result.andThen_ok, hrun]
  exact hK _ _ (h _ ⟨setRow_heap w b _ _ 32 (0, 0) hr.1, hk⟩ ⟨rfl, rfl, rfl, by simp, fun k _ hn => setRow_other w b k _ hn⟩ (by simp [World.setRow]))
/-- Only block g of old ones. -/
theorem only_setCells (w : World) (g o : Nat) (vs : List Value) : Only (fun d => d = g) w (w.setCells g o vs) := (Only.refl (fun d => d = g) w).setCells g o (fun _ => rfl) vs
/-- A block stored whole into a slice of blocks. -/
theorem st_storex (hgd : o.guard = none) (x y : Operand) (ho : o.op = .store 32 x y) (g p n c : Nat) (L : List Ex) (j : Nat) (hj : j < n) (hx : a.eval x = .pointer (some ⟨g, p + j * 9, none⟩)) (e : Ex) (hy : a.eval y = ev e) (hk : e.ok)
    (hr : Exts w (some ⟨g, p, none⟩) n c L) (hf : ∀ k, w.frozen? ⟨g, k, none⟩ = false)
    (h : ∀ w1 : World, Exts w1 (some ⟨g, p, none⟩) n c (L.set j e) → (∀ k, w1.frozen? ⟨g, k, none⟩ = false) → Only (fun d => d = g) w w1 → wpList Try.prog ops Q rest (a.put o.dst undef) w1) : wpList Try.prog ops Q (o :: rest) a w := by
  obtain ⟨g', p', he, hg, hc⟩ := hr.cells (by omega)
  injection he with he; injection he with e1 e2; subst e1 e2
  have hth : w.there g (p + j * 9) (ecl e).toArray.size := fun i hi => ⟨(hc j hj).isSome i (by rw [ecl_len (hr.get j hj)]; rw [ecl_size hk] at hi; exact hi), hf _⟩
  refine wpList_store_mid hgd 32 x y ho g (p + j * 9) (ecl e).toArray hx hy hth (by rw [ecl_size hk]; exact size32) (all_oneCell_toArray (ecl_one e)) ?_
  have hp := hr.put j 0 (ecl e) e hj (by rw [ecl_len hk]; omega) hk (splice_all (hr.get j hj) hk)
  exact h _ hp (fun k => by rw [World.frozen?_setCells]; exact hf k) (only_setCells _ _ _ _)
/-- A block made of its number. -/
theorem st_build (hgd : o.guard = none) (x : Operand) (ho : o.op = .build 32 #[(0, x)]) (n : Int) (hx : a.eval x = .int .i64 n)
    (h : wpList Try.prog ops Q rest (a.put o.dst (ev ⟨n, nul8⟩)) w) : wpList Try.prog ops Q (o :: rest) a w := by
  refine wpList_plain hgd fun K hK => ?_
  unfold Oper.wp execOp
  have hb : (Instr.build 32 #[(0, Value.int .i64 n)]).run Try.prog w = .ok (.agg (ecl ⟨n, nul8⟩).toArray) w := run_build (P := Try.prog) w 32 #[(0, Value.int .i64 n)] _ (built32 n)
  simp [ho, hx, hb, Result.andThen]
  exact hK _ _ h
/-- []E{e}. -/
theorem st_one (hgd : o.guard = none) (x : Operand) (ho : o.op = .buildSlice 22 1 #[(0, x)]) (e : Ex) (hx : a.eval x = ev e) (hk : e.ok)
    (h : ∀ (b : Nat) (w1 : World), w.heap.size ≤ b → Row w1 b 32 (ecl e).toArray → Below w.heap.size w w1 → wpList Try.prog ops Q rest (a.put o.dst (.slice (some ⟨b, 0, none⟩) 1 1)) w1) :
    wpList Try.prog ops Q (o :: rest) a w := by
  obtain ⟨i0, hi, hz0, hz1, hz2⟩ := info_parts info32
  refine wpList_plain hgd fun K hK => ?_
  unfold Oper.wp execOp
  have hrun : (Instr.buildSlice 22 1 #[(0, ev e)]).run Try.prog w = .ok (.slice (some ⟨w.heap.size, 0, none⟩) 1 1) (w.alloc (.cells (ecl e).toArray 32)) := by
    refine run_buildSlice w 22 32 1 #[(0, ev e)] (ecl e).toArray i0 _ Try.underlying22 hi hz0 (by rw [hz1]; decide) (by rw [hz1]; decide) ?_
    rw [hz1]
    exact built_one hk
  simp [ho, hx, hrun, Result.andThen]
  exact hK _ _ (h _ _ (Nat.le_refl _) (Row.new w 32 _) ((Below.refl _ _).alloc (Nat.le_refl _) _))
/-- append onto a row of one's own: one block. -/
theorem st_push (hgd : o.guard = none) (s x : Operand) (ho : o.op = .call { callee := .builtin .append, args := #[s, x], argTypes := #[22, 22] })
    (B : Nat) (v : Value) (L : List Ex) (hs : a.eval s = v) (hown : Own B w v L) (b : Nat) (e : Ex) (hx : a.eval x = .slice (some ⟨b, 0, none⟩) 1 1) (hr : Row w b 32 (ecl e).toArray) (hk : e.ok) (hl : L.length ≤ 1000000) (hB : B ≤ w.heap.size)
    (h : ∀ v' w', Own B w' v' (L ++ [e]) → w.grownBy w' v.ownBlock → (∀ k, v.ownBlock = some k → B ≤ k ∧ k < w.heap.size) → wpList Try.prog ops Q rest (a.put o.dst v') w') : wpList Try.prog ops Q (o :: rest) a w := by
  obtain ⟨i0, hi, hz0, hz1, hz2⟩ := info_parts info32
  refine wpList_append_own (w := w) hgd s x 22 ho B 32 i0 _ 9 16 Try.underlying22 hi hz0 hz1 hz2 (ecl_size (ok_nul 0)) (by decide) v L.length (exCells L) hs hown.row ⟨b, 0, none⟩ 1 1 (ecl e) hx (by rw [ecl_len hk]) ?_ (ecl_one e) (by unfold maxLen; omega) (by omega) hB ?_
  · intro j u hu
    rw [Addr.add_mid, Nat.zero_add, hr.at]
    simpa using hu
  · intro v' w' h1 h2 _
    refine h v' w' ⟨by rw [List.length_append, exCells_append, exCells_one]; exact h1, fun x hx => ?_⟩ h2 hown.row.lt
    rcases List.mem_append.1 hx with hx | hx
    · exact hown.ok x hx
    · simp at hx; subst hx; exact hk
/-- append onto a row of one's own: a slice of blocks, of whatever address. -/
theorem st_join (hgd : o.guard = none) (s x : Operand) (ho : o.op = .call { callee := .builtin .append, args := #[s, x], argTypes := #[22, 22] })
    (B : Nat) (v : Value) (L : List Ex) (hs : a.eval s = v) (hown : Own B w v L) (A : Option Addr) (n c : Nat) (M : List Ex) (hx : a.eval x = .slice A n c) (hr : Exts w A n c M) (hl : L.length + n ≤ 1000000) (hB : B ≤ w.heap.size)
    (h : ∀ v' w', Own B w' v' (L ++ M) → w.grownBy w' v.ownBlock → (∀ k, v.ownBlock = some k → B ≤ k ∧ k < w.heap.size) → wpList Try.prog ops Q rest (a.put o.dst v') w') : wpList Try.prog ops Q (o :: rest) a w := by
  obtain ⟨i0, hi, hz0, hz1, hz2⟩ := info_parts info32
  cases A with
  | none =>
    obtain ⟨rfl, rfl⟩ := hr.nil rfl
    obtain rfl : M = [] := List.eq_nil_of_length_eq_zero hr.len
    refine wpList_append_own_none (w := w) hgd s x 22 ho B 32 i0 9 Try.underlying22 hi v L.length (exCells L) hs hown.row hx ?_
    exact h v w (by rw [List.append_nil]; exact hown) (World.grownBy.refl w _) hown.row.lt
  | some ad =>
    refine wpList_append_own (w := w) hgd s x 22 ho B 32 i0 _ 9 16 Try.underlying22 hi hz0 hz1 hz2 (ecl_size (ok_nul 0)) (by decide) v L.length (exCells L) hs hown.row ad n c (exCells M) hx (by rw [exCells_len M hr.ok, hr.len]) (hr.src ad rfl) (exCells_ones M) (by unfold maxLen; omega) (by omega) hB ?_
    intro v' w' h1 h2 _
    refine h v' w' ⟨by rw [List.length_append, exCells_append, hr.len]; exact h1, fun x hx => ?_⟩ h2 hown.row.lt
    rcases List.mem_append.1 hx with hx | hx
    · exact hown.ok x hx
    · exact hr.ok x hx
end
theorem sz22 (w : World) : (sizeOf (Try.prog.elem 22)).run Try.prog w = .ok 9 w := by
  obtain ⟨i0, hi, _, hz1, _⟩ := info_parts info32
  have : Try.prog.elem 22 = 32 := by kernel_rfl
  rw [this]
  simp [sizeOf, typeInfo, hi, hz1]
/-- x[lo:hi], x[:hi], x[lo:]. -/
theorem cut_lh {w : World} {A : Option Addr} {n c : Nat} {L : List Ex} (h : Exts w A n c L) (lo hi : Nat) (hl : lo ≤ hi) (hh : hi ≤ n) :
    ∃ A' c', (∀ w', (Instr.sliceAt 22 (.slice A n c) (some (.int .i64 (lo : Int))) (some (.int .i64 (hi : Int))) none).run Try.prog w' = .ok (.slice A' (hi - lo) c') w') ∧ Exts w A' (hi - lo) c' ((L.drop lo).take (hi - lo)) := by
  have hc := h.le
  refine ⟨_, _, fun w' => ?_, h.piece lo (hi - lo) (by omega)⟩
  rw [run_sliceAt_slice (P := Try.prog) (w := w') 22 _ _ _ _ Try.underlying22, run_slice_lh (P := Try.prog) (w := w') 22 A n c Try.underlying22 .i64 .i64 lo hi (by omega) (by omega) (by omega)]
  rw [sz22]
  simp [Result.andThen, sliced]
theorem cut_h {w : World} {A : Option Addr} {n c : Nat} {L : List Ex} (h : Exts w A n c L) (hi : Nat) (hh : hi ≤ n) :
    ∃ A' c', (∀ w', (Instr.sliceAt 22 (.slice A n c) none (some (.int .i64 (hi : Int))) none).run Try.prog w' = .ok (.slice A' hi c') w') ∧ Exts w A' hi c' (L.take hi) := by
  have hc := h.le
  have hp := h.piece 0 hi (by omega)
  rw [List.drop_zero] at hp
  refine ⟨_, _, fun w' => ?_, hp⟩
  rw [run_sliceAt_slice (P := Try.prog) (w := w') 22 _ _ _ _ Try.underlying22, run_slice_h (P := Try.prog) (w := w') 22 A n c Try.underlying22 .i64 hi (by omega) (by omega)]
  rw [sz22]
  simp [Result.andThen, sliced]
theorem cut_l {w : World} {A : Option Addr} {n c : Nat} {L : List Ex} (h : Exts w A n c L) (lo : Nat) (hl : lo ≤ n) :
    ∃ A' c', (∀ w', (Instr.sliceAt 22 (.slice A n c) (some (.int .i64 (lo : Int))) none none).run Try.prog w' = .ok (.slice A' (n - lo) c') w') ∧ Exts w A' (n - lo) c' (L.drop lo) := by
  have hc := h.le
  have hp := h.piece lo (n - lo) (by omega)
  rw [List.take_of_length_le (l := L.drop lo) (by rw [List.length_drop, h.len]; exact Nat.le_refl _)] at hp
  refine ⟨_, _, fun w' => ?_, hp⟩
  rw [run_sliceAt_slice (P := Try.prog) (w := w') 22 _ _ _ _ Try.underlying22, run_slice_l (P := Try.prog) (w := w') 22 A n c Try.underlying22 .i64 lo (by omega) (by omega)]
  rw [sz22]
  simp [Result.andThen, sliced]
/-- Two blocks compared. -/
theorem run_eqx (w : World) {e f : Ex} (he : e.ok) (hf : f.ok) : (binOp .neq 32 (ev e) (ev f)).run Try.prog w = .ok (.bool (!decide (e = f))) w := by
  obtain ⟨n, bs⟩ := e
  obtain ⟨m, ds⟩ := f
  match bs, he.1, ds, hf.1 with
  | [b0, b1, b2, b3, b4, b5, b6, b7], _, [d0, d1, d2, d3, d4, d5, d6, d7], _ =>
    rw [ev, ev, run_neq_struct, run_equalIn_struct w 9999 32 _ _ Try.underlying32 (by kernel_rfl)]
    obtain ⟨i0, hi, _⟩ := info_parts info5
    have hc : Try.prog.cellsOf 5 = 1 := by kernel_rfl
    have hfl : (Try.prog.fieldsOf 32).toList = [⟨ "No", 3, 0, false, "", "", 0⟩, ⟨ "B", 30, 1, false, "", "", 8⟩] := by rw [Program.fieldsOf, Try.underlying32]
    have hr : List.range 8 = [0, 1, 2, 3, 4, 5, 6, 7] := rfl
    have h3 := fun a b => run_equalIn_int w 9998 3 .i64 .i64 a b Try.underlying3
    have h5 := fun a b => run_equalIn_int w 9997 5 .u8 .u8 a b Try.underlying5
    have h30 := fun xs ys => run_equalIn_array (P := Try.prog) w 9998 xs ys Try.underlying30 hi
    rw [hfl]
    simp only [Nat.reduceAdd] at h3 h5 h30
    simp [ecl, Op.eqFields, part, Try.isAgg3, Try.isAgg30, Try.sizeOf30, h3, h30, hc, hr, Op.eqItems, Try.isAgg5, h5, Result.andThen]
    by_cases g : n = m
    · subst g
      simp only [if_true, decide_true, Bool.not_true, Bool.false_or]
      by_cases g0 : b0 = d0 <;> by_cases g1 : b1 = d1 <;> by_cases g2 : b2 = d2 <;> by_cases g3 : b3 = d3 <;> by_cases g4 : b4 = d4 <;> by_cases g5 : b5 = d5 <;> by_cases g6 : b6 = d6 <;> by_cases g7 : b7 = d7 <;> simp_all
    · simp [g]
end Go.Proofs.Ytigfimlpjmmpoaa
