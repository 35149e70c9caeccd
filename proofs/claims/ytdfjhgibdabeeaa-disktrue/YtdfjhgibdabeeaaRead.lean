/- append onto nothing; numbers as text; contracts of slices.Clone. -/
import Derived.Test.YtdfjhgibdabeeaaRows
import Derived.Test.YtdfjhgibdabeeaaSpec
import Derived.WalkKit
import Derived.OpenShut
import Derived.Laws.OwnMore
import Derived.Laws.AppendOwnNone
import Derived.Deep.AppendLies
import Derived.Deep.AppendSrc
import Derived.Laws.BytesArg
import Derived.Lib.SliceRun
import Derived.WalkSpells
import Derived.WalkLawsBesides
import Derived.Lib.Hide
namespace Go.Proofs.Ytdfjhgibdabeeaa
open Go.RowKit

theorem info5 : (Try.prog.info? 5).map (fun i => (i.zero, i.size, i.bytes)) = some (some (.int .u8 0), 1, 1) := by kernel_rfl
theorem info3 : (Try.prog.info? 3).map (fun i => (i.zero, i.size, i.bytes)) = some (some (.int .i64 0), 1, 8) := by kernel_rfl

theorem src_nums {k : IntKind} {T E : TypeId} (hT : Try.prog.underlying T = some (.slice E)) {w : World} {A : Option Addr} {n c : Nat} {ys : List Int} (h : Nums k w A n c ys) : Src Try.prog 1 T (.slice A n c) n (ys.map (Value.int k)) w := by
  cases A with
  | none =>
    obtain ⟨rfl, rfl⟩ := h.nil rfl
    have hz : ys = [] := List.eq_nil_of_length_eq_zero h.len
    subst hz
    exact Src.ofNil w hT 0
  | some ad => exact Src.ofSlice w hT ad n c _ (by simp [h.len]) h.news (fun u hu => by simp at hu; obtain ⟨z, _, rfl⟩ := hu; rfl)

/-- append of numbers onto nothing that has no room. -/
theorem run_append_new {k : IntKind} {T E : TypeId} (hT : Try.prog.underlying T = some (.slice E)) {by8 : Nat} (hb8 : by8 ≤ 8) (hE : (Try.prog.info? E).map (fun i => (i.zero, i.size, i.bytes)) = some (some (.int k 0), 1, by8)) {w : World} {A0 : Option Addr} (hA0 : A0 = none ∨ ∃ g, A0 = some ⟨g, 0, none⟩) {A2 : Option Addr} {n2 c2 : Nat} {ys : List Int} (h2 : Nums k w A2 n2 c2 ys) (hl : n2 ≤ 1000000) (ty : TypeId) :
    ∃ A' c' w', (Builtin.append_ #[T, T] ty #[.slice A0 0 0, .slice A2 n2 c2]).run Try.prog w = .ok (.slice A' n2 c') w' ∧ Nums k w' A' n2 c' ys ∧ Below w.heap.size w w' ∧ (A' = A0 ∨ A' = some ⟨w.heap.size, 0, none⟩) ∧ (0 < n2 → A' = some ⟨w.heap.size, 0, none⟩) := by
  obtain ⟨i0, hi, hz0, hz1, hz2⟩ := info_parts hE
  have hs := src_nums hT h2
  rw [← hz1] at hs
  rcases Nat.eq_zero_or_pos n2 with h0 | h0
  · subst h0
    have hy : ys = [] := List.eq_nil_of_length_eq_zero h2.len
    subst hy
    refine ⟨A0, 0, w, ?_, ?_, Below.refl _ _, .inl rfl, fun h => absurd h (by omega)⟩
    · rcases hA0 with rfl | ⟨g, rfl⟩
      · have hcl := hs.cells
        have hln := hs.len
        simp at hcl
        simp [Builtin.append_, run_underlying hT, sizeOf, typeInfo, hi, hln, hcl]
      · have := run_append_room_src w T T ty E i0 hT hi g 0 0 0 _ 0 _ hs (by omega) (by simp) (by simp)
        simpa [World.setCells] using this
    · rcases hA0 with rfl | ⟨g, rfl⟩
      · exact nums_nil k w
      · exact ⟨rfl, Nat.le_refl _, Nat.zero_le _, (fun h => by cases h), fun h => absurd h (by omega)⟩
  · have ho : (Builtin.firstCells i0.size 0 (.slice A0 0 0)).run Try.prog w.drew = .ok (([] : List Value)).toArray w.drew := by
      rcases hA0 with rfl | ⟨g, rfl⟩
      · exact run_firstCells_none w.drew i0.size 0 0 0
      · exact run_firstCells_some w.drew i0.size 0 ⟨g, 0, none⟩ 0 0 [] (by simp) (by simp)
    have hgc := grownCap_ge w (0 + n2) 0 E
    have hrun := run_append_grow_src w T T ty E i0 (.int k 0) hT hi hz0 A0 0 0 [] ho _ n2 _ hs (by omega) (by omega) (by rw [hz2]; exact growslice_fits (by omega) (by have : (0 + n2) * by8 ≤ (0 + n2) * 8 := Nat.mul_le_mul_left _ hb8; omega))
    refine ⟨some ⟨w.heap.size, 0, none⟩, grownCap w (0 + n2) 0 E, _, by rw [hrun, Nat.zero_add], ?_, ((Below.refl _ _).drew).alloc (Nat.le_refl _) _, .inr rfl, fun _ => rfl⟩
    have hx := nums_new k E w.drew ys (Builtin.zeroCells (Value.cells (.int k 0)) (grownCap w (0 + n2) 0 E - (0 + n2))) n2 (grownCap w (0 + n2) 0 E) h2.len (by omega) (grownCap_le_maxLen _ _ _ _ (by unfold maxLen; omega))
    simpa using hx

/-- .. at the list of a plain region's operations. -/
theorem append_new {k : IntKind} {T E : TypeId} (hT : Try.prog.underlying T = some (.slice E)) {by8 : Nat} (hb8 : by8 ≤ 8) (hE : (Try.prog.info? E).map (fun i => (i.zero, i.size, i.bytes)) = some (some (.int k 0), 1, by8))
    {w : World} {ops : Array Oper} {rest : List Oper} {o : Oper} {a : Act} {Q : Exit → Act → World → Prop} (hgd : o.guard = none) (s x : Operand)
    (ho : o.op = .call { callee := .builtin .append, args := #[s, x], argTypes := #[T, T] })
    {A0 : Option Addr} (hA0 : A0 = none ∨ ∃ g, A0 = some ⟨g, 0, none⟩) (hs : a.eval s = .slice A0 0 0) {A2 : Option Addr} {n2 c2 : Nat} {ys : List Int} (h2 : Nums k w A2 n2 c2 ys) (hx : a.eval x = .slice A2 n2 c2) (hl : n2 ≤ 1000000)
    (hn : ∀ A' c' w', Nums k w' A' n2 c' ys → Below w.heap.size w w' → (A' = A0 ∨ A' = some ⟨w.heap.size, 0, none⟩) → (0 < n2 → A' = some ⟨w.heap.size, 0, none⟩) → wpList Try.prog ops Q rest (a.put o.dst (.slice A' n2 c')) w') :
    wpList Try.prog ops Q (o :: rest) a w := by
  obtain ⟨A', c', w', hrun, q1, q2, q3, q4⟩ := run_append_new hT hb8 hE hA0 h2 hl o.type
  refine wpList_plain hgd fun K hK => ?_
  unfold Oper.wp
  simp [execOp, ho, resolve, invoke, builtin, hs, hx, hrun, Result.andThen]
  exact hK _ _ (hn A' c' w' q1 q2 q3 q4)

/-- Bytes as text. -/
theorem text_of {w : World} {A : Option Addr} {n c : Nat} {zs : List Int} (h : Nums .u8 w A n c zs) : (convert 24 9 (.slice A n c)).run Try.prog w = .ok (.string (strOfNums zs)) w := by
  rcases Nat.eq_zero_or_pos n with h0 | h0
  · subst h0
    have hz : zs = [] := List.eq_nil_of_length_eq_zero h.len
    subst hz
    rw [run_convert_bytes_string w 24 9 5 A 0 c Try.underlying24 Try.underlying5 Try.underlying9]
    cases A with
    | none => rfl
    | some ad => rfl
  · obtain ⟨b, o, rfl, _, hc⟩ := h.cells h0
    exact run_convert_bytes_arg (P := Try.prog) w 24 5 Try.underlying24 Try.underlying5 b o n c zs h.len hc 9 Try.underlying9

/-- What is answered is new memory, or nothing. -/
def New (w : World) (A : Option Addr) : Prop := ∀ g o, A = some ⟨g, o, none⟩ → w.heap.size ≤ g
def ClonePost (k : IntKind) (n : Nat) (zs : List Int) (w : World) (e : Ending) (w' : World) : Prop :=
  ∃ A c, e = .returned (.slice A n c) ∧ Nums k w' A n c zs ∧ New w A ∧ Below w.heap.size w w'

set_option maxHeartbeats 400000 in
theorem clone_bytes (A : Option Addr) (n c : Nat) (zs : List Int) (w : World) (h : Nums .u8 w A n c zs) (hn : n ≤ 1000000) : Calls Try.prog 21 #[.slice A n c] w (ClonePost .u8 n zs w) := by
  have H := Lib.hid h
  cases A with
  | none =>
    obtain ⟨rfl, rfl⟩ := h.nil rfl
    clear h
    have hnil : ∀ w' : World, (binOp .eql 24 (.slice none 0 0) (.slice none 0 0)).run Try.prog w' = .ok (.bool true) w' := fun w' => Lib.run_eql_slice_nil w' 24 5 none 0 0 0 0 Try.underlying24
    go_enter Try.func21, Try.ntmps21
    go_wp2
    go_ret
    exact ⟨none, 0, rfl, H.out, (fun g o h => by cases h), Below.refl _ _⟩
  | some ad =>
    have HE := Lib.hid (H.out.on ((Below.refl w.heap.size w).alloc (Nat.le_refl _) (.cells #[] 5)))
    clear h
    have hnil : ∀ w' : World, (binOp .eql 24 (.slice (some ad) n c) (.slice none 0 0)).run Try.prog w' = .ok (.bool false) w' := fun w' => Lib.run_eql_slice_nil w' 24 5 (some ad) n c 0 0 Try.underlying24
    go_enter Try.func21, Try.ntmps21
    go_wp2_with (at_builtin; refine append_new Try.underlying24 (by decide) info5 rfl _ _ rfl (.inr ⟨w.heap.size, rfl⟩) rfl HE.out rfl hn ?_; intro A' c' w1 q1 q2 q3 q4; have Q1 := Lib.hid q1; have Q2 := Lib.hid q2; have Q3 := Lib.hid q3; clear q1 q2 q3 q4)
    go_ret
    refine ⟨A', c', rfl, Q1.out, ?_, ((Below.refl w.heap.size w).alloc (Nat.le_refl _) _).trans (Q2.out.mono (by simp))⟩
    intro g o he
    rcases Q3.out with rfl | rfl
    · injection he with he; injection he with he; omega
    · injection he with he; injection he with he; simp at he; omega

set_option maxHeartbeats 400000 in
theorem clone_ints (A : Option Addr) (n c : Nat) (zs : List Int) (w : World) (h : Nums .i64 w A n c zs) (hn : n ≤ 1000000) : Calls Try.prog 23 #[.slice A n c] w (ClonePost .i64 n zs w) := by
  have H := Lib.hid h
  cases A with
  | none =>
    obtain ⟨rfl, rfl⟩ := h.nil rfl
    clear h
    have hnil : ∀ w' : World, (binOp .eql 28 (.slice none 0 0) (.slice none 0 0)).run Try.prog w' = .ok (.bool true) w' := fun w' => Lib.run_eql_slice_nil w' 28 3 none 0 0 0 0 Try.underlying28
    go_enter Try.func23, Try.ntmps23
    go_wp2
    go_ret
    exact ⟨none, 0, rfl, H.out, (fun g o h => by cases h), Below.refl _ _⟩
  | some ad =>
    have HE := Lib.hid (H.out.on ((Below.refl w.heap.size w).alloc (Nat.le_refl _) (.cells #[] 3)))
    clear h
    have hnil : ∀ w' : World, (binOp .eql 28 (.slice (some ad) n c) (.slice none 0 0)).run Try.prog w' = .ok (.bool false) w' := fun w' => Lib.run_eql_slice_nil w' 28 3 (some ad) n c 0 0 Try.underlying28
    go_enter Try.func23, Try.ntmps23
    go_wp2_with (at_builtin; refine append_new Try.underlying28 (by decide) info3 rfl _ _ rfl (.inr ⟨w.heap.size, rfl⟩) rfl HE.out rfl hn ?_; intro A' c' w1 q1 q2 q3 q4; have Q1 := Lib.hid q1; have Q2 := Lib.hid q2; have Q3 := Lib.hid q3; clear q1 q2 q3 q4)
    go_ret
    refine ⟨A', c', rfl, Q1.out, ?_, ((Below.refl w.heap.size w).alloc (Nat.le_refl _) _).trans (Q2.out.mono (by simp))⟩
    intro g o he
    rcases Q3.out with rfl | rfl
    · injection he with he; injection he with he; omega
    · injection he with he; injection he with he; simp at he; omega

end Go.Proofs.Ytdfjhgibdabeeaa
