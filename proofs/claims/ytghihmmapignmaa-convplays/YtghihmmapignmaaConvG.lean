/- Contract of conv's New. -/
import Derived.Test.YtghihmmapignmaaConvF
import Derived.WalkKit
import Derived.WalkSpells
import Derived.WalkLawsBesides
import Derived.Lib.Hide
import Derived.Deep.RegionHeld3
namespace Go.Proofs.Ytghihmmapignmaa
open Go.RowKit

/-- The cells of a Conv. -/
def cvC (v : Value) (t1 t2 : List Int) (p u : Value) : Array Value := #[v] ++ cs t1 ++ cs t2 ++ #[p, u]
theorem cvC_size (v : Value) (t1 t2 : List Int) (p u : Value) (h1 : t1.length = 256) (h2 : t2.length = 256) : (cvC v t1 t2 p u).size = 515 := by
  simp [cvC, cs_size, h1, h2]
theorem cvC_at (v : Value) (t1 t2 : List Int) (p u : Value) (h1 : t1.length = 256) (h2 : t2.length = 256) (i : Nat) :
    (cvC v t1 t2 p u)[i]? = if i < 1 then some v else if i < 257 then (cs t1)[i - 1]? else if i < 513 then (cs t2)[i - 257]? else if i = 513 then some p else if i = 514 then some u else none := by
  have e1 : (cs t1).size = 256 := by rw [cs_size, h1]
  have e2 : (cs t2).size = 256 := by rw [cs_size, h2]
  unfold cvC
  by_cases i1 : i < 1
  · rw [if_pos i1, Array.append_assoc, Array.append_assoc, Array.getElem?_append_left (by simpa using i1)]
    obtain rfl : i = 0 := by omega
    rfl
  · rw [if_neg i1]
    by_cases i2 : i < 257
    · rw [if_pos i2, Array.append_assoc, Array.append_assoc, Array.getElem?_append_right (by simp; omega), Array.getElem?_append_left (by simp [e1]; omega)]
      rfl
    · rw [if_neg i2]
      by_cases i3 : i < 513
      · rw [if_pos i3, Array.append_assoc, Array.getElem?_append_right (by simp [e1]; omega), Array.getElem?_append_left (by simp [e1, e2]; omega)]
        simp [e1]
      · rw [if_neg i3, Array.getElem?_append_right (by simp [e1, e2]; omega)]
        simp only [Array.size_append, e1, e2]
        by_cases i4 : i = 513
        · subst i4; simp
        · rw [if_neg i4]
          by_cases i5 : i = 514
          · subst i5; simp
          · rw [if_neg i5, Array.getElem?_eq_none (by simp; omega)]

theorem zero65 : (Try.prog.info? 65).map (fun i => (i.zero, i.size)) = some (some (.agg (cvC (.pointer none) zeros zeros (.pointer none) (.pointer none))), 515) := by kernel_rfl
theorem places65 : (match Try.prog.underlying 65 with | some (.struct fields) => fields.toList.mapM (fun f => (Try.prog.info? f.type).map fun i => (f.offset, i.size)) | _ => none) = some [(0, 1), (1, 256), (257, 256), (513, 1), (514, 1)] := by kernel_rfl

theorem built_conv (v : Value) (hv : v.cells = #[v]) (t1 t2 : List Int) (h1 : t1.length = 256) (h2 : t2.length = 256) : Try.prog.built 65 [(0, v), (1, tv t1), (2, tv t2)] = some (cvC v t1 t2 (.pointer none) (.pointer none)) := by
  have hz := zero65
  have hp := places65
  cases hi : Try.prog.info? 65 with
  | none => rw [hi] at hz; cases hz
  | some i0 =>
    rw [hi] at hz
    simp only [Option.map_some, Option.some.injEq, Prod.mk.injEq] at hz
    have hz0 := hz.1
    have hc0 : (Value.agg (cvC (.pointer none) zeros zeros (.pointer none) (.pointer none))).cells = cvC (.pointer none) zeros zeros (.pointer none) (.pointer none) := rfl
    have hcz := cvC_at (.pointer none) zeros zeros (.pointer none) (.pointer none) len_zeros len_zeros
    have hsz := cvC_size (.pointer none) zeros zeros (.pointer none) (.pointer none) len_zeros len_zeros
    generalize hd : Value.agg (cvC (.pointer none) zeros zeros (.pointer none) (.pointer none)) = dz at *
    clear hd
    unfold Program.built
    rw [Try.underlying65] at hp ⊢
    simp only [hi, hz0]
    simp only at hp
    rw [hp]
    simp only [Instr.fill, hc0]
    generalize cvC (.pointer none) zeros zeros (.pointer none) (.pointer none) = z at *
    have ht1 : (tv t1).cells = cs t1 := rfl
    have ht2 : (tv t2).cells = cs t2 := rfl
    have s1 : (cs t1).size = 256 := by rw [cs_size, h1]
    have s2 : (cs t2).size = 256 := by rw [cs_size, h2]
    simp only [List.getElem?_toArray, List.getElem?_cons_zero, List.getElem?_cons_succ, hv, ht1, ht2, s1, s2, fold_size, hsz]
    rw [if_neg (by simp), if_neg (by simp), if_neg (by simp)]
    congr 1
    apply Array.ext_getElem?
    intro i
    rw [fold_set', fold_set', fold_set', fold_size, fold_size, hsz, s1, s2, cvC_at v t1 t2 _ _ h1 h2, hcz]
    by_cases i1 : i < 1
    · obtain rfl : i = 0 := by omega
      simp
    · by_cases i2 : i < 257
      · rw [if_neg (by omega), if_pos (by omega), if_neg i1, if_pos i2]
      · by_cases i3 : i < 513
        · rw [if_pos (by omega), if_neg i1, if_neg i2, if_pos i3]
        · rw [if_neg (by omega), if_neg (by omega), if_neg (by simp; omega), if_neg i1, if_neg i2, if_neg i3, if_neg i1, if_neg i2, if_neg i3]

/-- The variable of the parameter, known whole. -/
theorem box_of_row {w : World} {b : Nat} {x : Cf} (h : Row w b 23 x.cells) : Box w b 0 x := by
  refine ⟨h.lt, ?_, ?_, ?_, ?_, ?_, ?_, ?_, ?_, ?_⟩ <;> (rw [h.at]; rfl)
theorem size23 : (Try.prog.info? 23).map (·.size) = some 9 := by kernel_rfl
theorem run_load_box {w : World} {b : Nat} {x : Cf} (h : Row w b 23 x.cells) : (Instr.loadAt 23 (.pointer (some ⟨b, 0, none⟩))).run Try.prog w = .ok x.val w :=
  run_loadAt_mid w b 0 23 x.cells.toList _ (fun j v hv => by rw [Nat.zero_add, h.at]; simpa using hv) Try.underlying23 rfl size23
section
variable {ops : Array Oper} {Q : Exit → Act → World → Prop} {S : World → Prop}
theorem take_box (i d : Nat) {oi : Oper} {fuel : Nat} {listed : Array Bool} {a : Act} {w : World} (o : Operand) (b : Nat) (x : Cf) (hi : ops[i]? = some oi) (hd : oi.dst = some d)
    (hs : Region.noSelect ops = true) (hf : Region.free .any ops listed i = true) (hr : (Region.ready .any ops listed).contains i = true)
    (hQ : ∀ c a w, Q (.panic c) (a.put oi.dst x.val) w → Q (.panic c) a w) (hw : Region.wanted oi (yielded ops a.tmps) = true) (hS : S w)
    (ho : oi.op = .load 23 o) (hx : a.eval o = .pointer (some ⟨b, 0, none⟩)) (hR : ∀ w, S w → Row w b 23 x.cells)
    (h : wpAnyH Try.prog .any ops Q S fuel (listed.setIfInBounds i true) (a.put (some d) x.val) w) : wpAnyH Try.prog .any ops Q S (fuel + 1) listed a w :=
  take_at i d hi hd hs hf hr hQ hw hS (fun w1 h1 => by simp only [execOp, ho, hx, run_load_box (hR w1 h1), Sem.run_bind, Sem.run_pure, Result.andThen_ok]) h
end
section
variable {ops : Array Oper} {o : Oper} {a : Act} {w : World} {K : Act → World → Prop} {Q : Exit → Act → World → Prop} {E : Prop}
/-- A Conv is built, and gets its variable. -/
theorem step_build (hgd : o.guard = none) (parts : Array (Nat × Operand)) (ho : o.op = .build 65 parts) (cells : Array Value) (hf : Try.prog.built 65 (parts.map fun (i, x) => (i, a.eval x)).toList = some cells)
    (h : K (a.put o.dst (.agg cells)) w) : if Region.wanted o (yielded ops a.tmps) = true then Oper.wp Try.prog o a w K Q else E := by
  have hw : Region.wanted o (yielded ops a.tmps) = true := by simp [Region.wanted, hgd]
  rw [if_pos hw]
  unfold Oper.wp execOp
  simp only [ho, Sem.run_bind, run_build w 65 _ cells hf, Result.andThen_ok]
  exact h
theorem step_box (hgd : o.guard = none) (x : Operand) (ho : o.op = .box 65 x) (cells : Array Value) (hx : a.eval x = .agg cells)
    (h : ∀ (b : Nat) (w1 : World), Row w1 b 65 cells → Below w.heap.size w w1 → w.heap.size ≤ b → K (a.put o.dst (.pointer (some ⟨b, 0, none⟩))) w1) : if Region.wanted o (yielded ops a.tmps) = true then Oper.wp Try.prog o a w K Q else E := by
  have hw : Region.wanted o (yielded ops a.tmps) = true := by simp [Region.wanted, hgd]
  rw [if_pos hw]
  unfold Oper.wp execOp
  simp [ho, hx, Instr.box, newVar, newRow, Result.andThen]
  exact h _ _ (row_new w cells 65) ((Below.refl _ _).alloc (Nat.le_refl _) _) (Nat.le_refl _)
end

end Go.Proofs.Ytghihmmapignmaa
