/- Contracts of slices.Clone, extent's endOf, without, the reference's copyOf. -/
import Derived.Test.YtigfimlpjmmpoaaOff
import Derived.Test.YtigfimlpjmmpoaaWalksA
import Derived.Test.YtigfimlpjmmpoaaSpecC
import Derived.WalkKit
import Derived.WalkSpells
import Derived.WalkLawsBesides
import Derived.Lib.Hide
import Derived.BigQuiet
import Derived.Deep.RegionLaw
namespace Go.Proofs.Ytigfimlpjmmpoaa
open Go.RowKit

/-- A slice of blocks that may be written. -/
structure Mut (B : Nat) (w : World) (A : Option Addr) (n c : Nat) (L : List Ex) : Prop where
  exts : Exts w A n c L
  own : ∀ g o, A = some ⟨g, o, none⟩ → B ≤ g ∧ g < w.heap.size ∧ ∀ j, w.frozen? ⟨g, j, none⟩ = false
theorem Mut.on {B : Nat} {w w' : World} {A : Option Addr} {n c : Nat} {L : List Ex} (h : Mut B w A n c L) (k : Below w.heap.size w w') : Mut B w' A n c L :=
  ⟨h.exts.on k, fun g o he => by
    obtain ⟨h1, h2, h3⟩ := h.own g o he
    exact ⟨h1, Nat.lt_of_lt_of_le h2 k.size, fun j => by rw [World.frozen?_of_block (w := w) (k.block g h2)]; exact h3 j⟩⟩
theorem Mut.only {B B' : Nat} {S : Nat → Prop} {w w' : World} {A : Option Addr} {n c : Nat} {L : List Ex} (h : Mut B w A n c L) (k : Only S w w') (hS : ∀ g, B ≤ g → ¬ S g) (hB : B' ≤ B) : Mut B' w' A n c L :=
  ⟨h.exts.only k (fun g o he _ => hS g (h.own g o he).1), fun g o he => by
    obtain ⟨h1, h2, h3⟩ := h.own g o he
    exact ⟨Nat.le_trans hB h1, Nat.lt_of_lt_of_le h2 k.size, fun j => by rw [World.frozen?_of_block (w := w) (k.block g h2 (hS g h1))]; exact h3 j⟩⟩
theorem only_put (w : World) (b : Nat) (x y : Value) : Only (fun d => d = b) w ((w.setCell ⟨b, 0, none⟩ x).setCell ⟨b, 1, none⟩ y) :=
  ((Only.refl (fun d => d = b) w).setCell ⟨b, 0, none⟩ (fun _ => rfl) x).setCell ⟨b, 1, none⟩ (fun _ => rfl) y
theorem Own.mut {B : Nat} {w : World} {v : Value} {L : List Ex} (h : Own B w v L) : ∃ A c, v = .slice A L.length c ∧ Mut B w A L.length c L := by
  obtain ⟨A, c, hv, he, hf⟩ := h.exts
  refine ⟨A, c, hv, he, fun g o ha => ?_⟩
  obtain ⟨h1, _, h3⟩ := hf g o ha
  refine ⟨h1, ?_, h3⟩
  have := h.row.lt g (by rw [hv, ha]; rfl)
  exact this.2
theorem Own.size {B : Nat} {w w' : World} {v : Value} {r : Option Nat} (hg : w.grownBy w' r) (hB : B ≤ w.heap.size) (hl : ∀ k, v.ownBlock = some k → B ≤ k ∧ k < w.heap.size) (hr : r = v.ownBlock) : Below B w w' :=
  ⟨hg.os, hg.tape, hg.output, hg.size, fun k hk => hg.block k (by omega) (fun he => by rw [hr] at he; have := hl k he.symm; omega)⟩
theorem own_new (w : World) : Own w.heap.size (w.alloc (.cells #[] 32)) (.slice (some ⟨w.heap.size, 0, none⟩) 0 0) [] :=
  ⟨World.ownsRow_made w #[] 0 (Nat.le_refl _) (Nat.zero_le _) rfl, by simp⟩

theorem run_join {w : World} {B : Nat} {v : Value} {L : List Ex} (hown : Own B w v L) {A : Option Addr} {n c : Nat} {M : List Ex} (hr : Exts w A n c M) (hl : L.length + n ≤ 1000000) (hB : B ≤ w.heap.size) (ty : TypeId) :
    ∃ v' w', (Builtin.append_ #[22, 22] ty #[v, .slice A n c]).run Try.prog w = .ok v' w' ∧ Own B w' v' (L ++ M) ∧ Below B w w' := by
  obtain ⟨i0, hi, hz0, hz1, hz2⟩ := info_parts info32
  cases A with
  | none =>
    obtain ⟨rfl, rfl⟩ := hr.nil rfl
    obtain rfl : M = [] := List.eq_nil_of_length_eq_zero hr.len
    exact ⟨v, w, run_append_owned_none (P := Try.prog) (w := w) B 22 ty 32 i0 9 Try.underlying22 hi v L.length (exCells L) hown.row, by rw [List.append_nil]; exact hown, Below.refl _ _⟩
  | some ad =>
    obtain ⟨v', w', hrun, h1, h2, _⟩ := run_append_own (P := Try.prog) (w := w) B 22 ty 32 i0 _ 9 16 Try.underlying22 hi hz0 hz1 hz2 (ecl_size (ok_nul 0)) (by decide) v L.length (exCells L) hown.row ad n c (exCells M) (by rw [exCells_len M hr.ok, hr.len]) (hr.src ad rfl) (exCells_ones M) (by unfold maxLen; omega) (by omega) hB
    refine ⟨v', w', hrun, ⟨by rw [List.length_append, exCells_append, hr.len]; exact h1, fun x hx => ?_⟩, Own.size h2 hB hown.row.lt rfl⟩
    rcases List.mem_append.1 hx with hx | hx
    · exact hown.ok x hx
    · exact hr.ok x hx
theorem step_join {w : World} {ops : Array Oper} {o : Oper} {a : Act} {K : Act → World → Prop} {Q : Exit → Act → World → Prop} {E : Prop} (hgd : o.guard = none) (s x : Operand)
    (ho : o.op = .call { callee := .builtin .append, args := #[s, x], argTypes := #[22, 22] }) (B : Nat) (v : Value) (L : List Ex) (hs : a.eval s = v) (hown : Own B w v L) (A : Option Addr) (n c : Nat) (M : List Ex) (hx : a.eval x = .slice A n c) (hr : Exts w A n c M) (hl : L.length + n ≤ 1000000) (hB : B ≤ w.heap.size)
    (h : ∀ v' w', Own B w' v' (L ++ M) → Below B w w' → K (a.put o.dst v') w') : if Region.wanted o (yielded ops a.tmps) = true then Oper.wp Try.prog o a w K Q else E := by
  have hw : Region.wanted o (yielded ops a.tmps) = true := by simp [Region.wanted, hgd]
  rw [if_pos hw]
  obtain ⟨v', w', hrun, q1, q2⟩ := run_join hown hr hl hB o.type
  unfold Oper.wp
  simp [execOp, ho, resolve, invoke, builtin, hs, hx, hrun, Result.andThen]
  exact h v' w' q1 q2
/-- .. at the list of a plain region's operations. -/
theorem st_cat {w : World} {ops : Array Oper} {rest : List Oper} {o : Oper} {a : Act} {Q : Exit → Act → World → Prop} (hgd : o.guard = none) (s x : Operand)
    (ho : o.op = .call { callee := .builtin .append, args := #[s, x], argTypes := #[22, 22] }) (B : Nat) (v : Value) (L : List Ex) (hs : a.eval s = v) (hown : Own B w v L) (A : Option Addr) (n c : Nat) (M : List Ex) (hx : a.eval x = .slice A n c) (hr : Exts w A n c M) (hl : L.length + n ≤ 1000000) (hB : B ≤ w.heap.size)
    (h : ∀ v' w', Own B w' v' (L ++ M) → Below B w w' → wpList Try.prog ops Q rest (a.put o.dst v') w') : wpList Try.prog ops Q (o :: rest) a w := by
  refine wpList_plain hgd fun K hK => ?_
  obtain ⟨v', w', hrun, q1, q2⟩ := run_join hown hr hl hB o.type
  unfold Oper.wp
  simp [execOp, ho, resolve, invoke, builtin, hs, hx, hrun, Result.andThen]
  exact hK _ _ (h v' w' q1 q2)
theorem exts_one {w : World} {b : Nat} {e : Ex} (h : Row w b 32 (ecl e).toArray) (hk : e.ok) : Exts w (some ⟨b, 0, none⟩) 1 1 [e] := by
  refine ⟨rfl, by simpa using hk, Nat.le_refl _, by unfold maxLen; omega, (fun h => by cases h), fun _ => ⟨b, 0, rfl, h.lt, fun j hj q v hv => ?_⟩⟩
  obtain rfl : j = 0 := by omega
  rw [show 0 + 0 * 9 + q = q by omega, h.at]
  simpa using hv

def ListPost (L : List Ex) (w : World) (e : Ending) (w' : World) : Prop := ∃ A c, e = .returned (.slice A L.length c) ∧ Mut w.heap.size w' A L.length c L ∧ Below w.heap.size w w'

set_option maxHeartbeats 400000 in
theorem clone_any (A : Option Addr) (n c : Nat) (L : List Ex) (w : World) (h : Exts w A n c L) (hn : n ≤ 1000000) : Calls Try.prog 33 #[.slice A n c] w (ListPost L w) := by
  have H := Lib.hid h
  cases A with
  | none =>
    obtain ⟨rfl, rfl⟩ := h.nil rfl
    obtain rfl : L = [] := List.eq_nil_of_length_eq_zero h.len
    clear h
    have hnil : ∀ w' : World, (binOp .eql 22 (.slice none 0 0) (.slice none 0 0)).run Try.prog w' = .ok (.bool true) w' := fun w' => Lib.run_eql_slice_nil w' 22 32 none 0 0 0 0 Try.underlying22
    go_enter Try.func33, Try.ntmps33
    go_wp2
    go_ret
    exact ⟨none, 0, rfl, ⟨H.out, fun g o h => by cases h⟩, Below.refl _ _⟩
  | some ad =>
    have HE := Lib.hid (H.out.on ((Below.refl w.heap.size w).alloc (Nat.le_refl _) (.cells #[] 32)))
    clear h
    have hnil : ∀ w' : World, (binOp .eql 22 (.slice (some ad) n c) (.slice none 0 0)).run Try.prog w' = .ok (.bool false) w' := fun w' => Lib.run_eql_slice_nil w' 22 32 (some ad) n c 0 0 Try.underlying22
    go_enter Try.func33, Try.ntmps33
    go_wp2_with (at_builtin; refine st_cat rfl _ _ rfl w.heap.size _ [] rfl (own_new w) _ _ _ L rfl HE.out (by simpa using hn) (by simp) ?_; intro v' w1 q1 q2; have Q1 := Lib.hid q1; have Q2 := Lib.hid q2; clear q1 q2)
    go_ret
    obtain ⟨A', c', rfl, hm⟩ := Q1.out.mut
    exact ⟨A', c', rfl, hm, ((Below.refl w.heap.size w).alloc (Nat.le_refl _) _).trans Q2.out⟩

/-- The result lies in a variable. -/
theorem res_box1 {fn : Func} {p : Tmp} (h : fn.results = #[.cell p 24]) {R : Ending → World → Prop} {a : Act} {w : World} (b : Nat) (s : Int) (A : Option Addr) (n c : Nat)
    (hp : a.tmps.getD p undef = .pointer (some ⟨b, 0, none⟩)) (hb : Box w b s A n c) (hdf : a.defers = []) (hR : R (.returned (ct s A n c)) w) : bodyPost Try.prog fn R .ret a w :=
  bodyPost_ret (results_cell_row h a.tmps w b 24 #[.int .i64 s, .slice A n c] (0, 0) _ hp hb Try.underlying24 rfl (by show _ = some 2; kernel_rfl)) hdf hR
theorem load24 {w : World} {b : Nat} {s : Int} {A : Option Addr} {n c : Nat} (h : Box w b s A n c) : (loadVar 24 ⟨b, 0, none⟩).run Try.prog w = .ok (ct s A n c) w :=
  run_loadVar_row (P := Try.prog) w b 24 24 _ (0, 0) _ h Try.underlying24 rfl (by show _ = some 2; kernel_rfl)
theorem res_box2 {fn : Func} {p u : Tmp} (h : fn.results = #[.cell p 24, .tmp u]) {R : Ending → World → Prop} {a : Act} {w : World} (b : Nat) (s : Int) (A : Option Addr) (n c : Nat)
    (hp : a.tmps.getD p undef = .pointer (some ⟨b, 0, none⟩)) (hb : Box w b s A n c) (hdf : a.defers = []) (hR : R (.returned (.tuple #[ct s A n c, a.tmps.getD u undef])) w) : bodyPost Try.prog fn R .ret a w :=
  bodyPost_ret (by rw [results_cell_tmp h, hp]; simp [asAddr, Result.andThen, load24 hb]) hdf hR
theorem Box.put {w : World} {b : Nat} {s : Int} {A : Option Addr} {n c : Nat} (h : Box w b s A n c) (s' : Int) (A' : Option Addr) (n' c' : Nat) : Box ((w.setCell ⟨b, 0, none⟩ (.int .i64 s')).setCell ⟨b, 1, none⟩ (.slice A' n' c')) b s' A' n' c' := by
  have := (Row.setv h 0 (.int .i64 s')).setv 1 (.slice A' n' c')
  exact this
theorem below_put {B : Nat} {w w' : World} (h : Below B w w') (b : Nat) (hb : B ≤ b) (x y : Value) : Below B w ((w'.setCell ⟨b, 0, none⟩ x).setCell ⟨b, 1, none⟩ y) := below_set2 h hb x y

set_option maxHeartbeats 2000000 in
theorem copy_any (s : Int) (A : Option Addr) (n c : Nat) (L : List Ex) (w : World) (h : Exts w A n c L) (hn : n ≤ 1000000) :
    Calls Try.prog 41 #[ct s A n c] w fun e w' => ∃ A' c', e = .returned (ct s A' L.length c') ∧ Mut w.heap.size w' A' L.length c' L ∧ Below w.heap.size w w' := by
  obtain ⟨W, hW⟩ : ∃ W, (w.alloc (.cells #[.int .i64 s, .slice A n c] 24)).alloc (.cells #[.int .i64 0, .slice none 0 0] 24) = W := ⟨_, rfl⟩
  have HW := Lib.hid hW
  have KW := Lib.hid (show Below w.heap.size w W by rw [← hW]; exact ((Below.refl _ _).alloc (Nat.le_refl _) _).alloc (by simp) _)
  have B0 := Lib.hid (show Box W w.heap.size s A n c by rw [← hW]; exact (box_new w s A n c).on ((Below.refl _ _).alloc (Nat.le_refl _) _))
  have B1 := Lib.hid (show Box W (w.heap.size + 1) 0 none 0 0 by
    rw [← hW]
    have := box_new (w.alloc (.cells #[.int .i64 s, .slice A n c] 24)) 0 none 0 0
    simpa using this)
  have HD := Lib.hid (show Exts W.drew A n c L from h.on (KW.out.drew))
  have HS := Lib.hid (show W.heap.size = w.heap.size + 2 by rw [← hW]; simp)
  clear h hW
  show Calls Try.prog 41 #[.agg #[.int .i64 s, .slice A n c]] w _
  go_enter Try.func41, Try.ntmps41
  go_wp2
  rw [HW.out]
  have c0 := B0.out.c0; have c1 := B0.out.c1
  go_region_law (refine step_join rfl (.const (.slice none 0 0)) (.tmp 6) rfl W.heap.size _ [] rfl (own_nil _ _) A n c L (by first | rfl | simp [Act.eval, Act.put]) HD.out (by simpa using hn) (Nat.le_refl _) ?_; intro v' w1 q1 q2; obtain ⟨A', c', hv, hm⟩ := q1.mut; subst hv; have X0 := Lib.hid (show Below W.heap.size W w1 from ((Below.refl _ _).drew).trans q2); have X1 := Lib.hid (B1.out.on X0.out); have HM := Lib.hid hm; have e0 := X1.out.c0; have e1 := X1.out.c1; have f0 := X1.out.f0; have f1 := X1.out.f1; have g0 := (B0.out.on X0.out).c0; have g1 := (B0.out.on X0.out).c1; clear q1 q2 hm)
  all_goals
    go_wp2
    have Y := X1.out.put s A' L.length c'
    refine res_box1 rfl (w.heap.size + 1) s A' L.length c' rfl Y rfl ?_
    exact ⟨A', c', rfl, HM.out.only (only_put _ _ _ _) (fun g hg hd => by have := HS.out; omega) (by have := HS.out; omega), below_put (KW.out.trans (X0.out.mono KW.out.size)) _ (by omega) _ _⟩

/-- What endOf says. -/
def eo (p n : Int) : Option Int := if Plain.spanB p n = true ∧ p + n ≤ 1099511627776 then some (p + n) else none
theorem eo_some {p n t : Int} (h : eo p n = some t) : 0 ≤ p ∧ 0 ≤ n ∧ t = p + n ∧ t ≤ 1099511627776 := by
  unfold eo at h
  split at h
  · rename_i hh
    injection h with h
    have := (Plain.span_iff p n).1 hh.1
    omega
  · cases h
theorem eo_none {p n : Int} (h : eo p n = none) : ¬ (0 ≤ p ∧ 0 ≤ n ∧ p + n ≤ 1099511627776) := by
  unfold eo at h
  split at h
  · cases h
  · rename_i hh
    intro hx
    exact hh ⟨(Plain.span_iff p n).2 (by omega), hx.2.2⟩

set_option maxHeartbeats 1000000 in
theorem end_any (p n : Int) (w : World) (d : Option Int) (hd : eo p n = d) : Calls Try.prog 32 #[.int .i64 p, .int .i64 n] w fun e w' => e = .returned (.tuple #[.int .i64 (d.getD 0), .bool d.isSome]) ∧ Below w.heap.size w w' := by
  have HD := Lib.hid hd
  have HV := Lib.hid (show Plain.addV [p, n] = if Plain.spanB p n = true then p + n else 0 by
    rw [Plain.addV, Plain.addFrom_two]
    by_cases h : Plain.spanB p n = true
    · rw [if_pos h, if_pos (by have := (Plain.span_iff p n).1 h; omega)]; rfl
    · rw [if_neg h, if_neg (fun hh => h ((Plain.span_iff p n).2 (by omega)))]; rfl)
  have HO := Lib.hid (Plain.addOk_two p n)
  have K0 := Lib.hid (show Below w.heap.size w (w.alloc (.cells #[.int .i64 p, .int .i64 n] 3)) from (Below.refl _ _).alloc (Nat.le_refl _) _)
  clear hd
  obtain ⟨v, hv⟩ : ∃ v, Plain.addV [p, n] = v := ⟨_, rfl⟩
  obtain ⟨z, hz⟩ : ∃ z, Plain.addOk [p, n] = z := ⟨_, rfl⟩
  rw [hv] at HV
  rw [hz] at HO
  have HVv := Lib.hid hv; have HZz := Lib.hid hz
  clear hv hz
  go_enter Try.func32, Try.ntmps32
  go_wp2_with fail
  refine (add_any _ _ _ [p, n] _ (by decide) (ints_two_at _ _ _ _ _ (by simp))).mono ?_
  rintro e w1 ⟨rfl, rfl⟩
  rw [HVv.out, HZz.out]
  cases z with
  | false =>
    have HF := Lib.hid (show d = none by rw [← HD.out, eo, if_neg (fun h => by have := h.1; rw [← HO.out] at this; cases this)])
    go_wp2
    go_ret2
    exact ⟨by rw [HF.out]; rfl, K0.out⟩
  | true =>
    have hsp := HO.out.symm
    have HX := Lib.hid (show v = p + n by rw [HV.out, if_pos hsp])
    by_cases ht : v ≤ 1099511627776
    · have HF := Lib.hid (show d = some v by rw [← HD.out, HX.out, eo, if_pos ⟨hsp, by rw [← HX.out]; exact ht⟩])
      clear hsp
      go_wp2
      go_ret2
      exact ⟨by rw [HF.out]; rfl, K0.out⟩
    · have HF := Lib.hid (show d = none by rw [← HD.out, eo, if_neg (fun h => ht (by rw [HX.out]; exact h.2))])
      clear hsp
      go_wp2
      go_ret2
      exact ⟨by rw [HF.out]; rfl, K0.out⟩
end Go.Proofs.Ytigfimlpjmmpoaa
