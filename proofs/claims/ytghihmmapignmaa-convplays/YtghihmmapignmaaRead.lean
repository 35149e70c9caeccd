/- append onto bytes that may be written; bytes as text; what the laws' walks are told of their arguments. -/
import Derived.Test.YtghihmmapignmaaRows
import Derived.Test.YtghihmmapignmaaPlain
import Derived.OpenShut
import Derived.WalkKit
import Derived.Laws.OwnMore
import Derived.Laws.AppendOwnNone
import Derived.Deep.AppendLies
import Derived.Laws.BytesArg
namespace Go.Proofs.Ytghihmmapignmaa
open Go.RowKit

/-- A slice of integers that came in: nil; or a row of 'cap' cells that hold the numbers 'zs', the first 'len' of them its elements. -/
def IsRow (k : IntKind) (w : World) (a : Option Addr) (len cap : Nat) (zs : List Int) : Prop :=
  (a = none ∧ len = 0 ∧ cap = 0 ∧ zs = []) ∨
  ∃ x, a = some x ∧ len ≤ cap ∧ cap ≤ maxLen ∧ zs.length = cap ∧ (∀ i, i < zs.length → w.cell? (x.add i) = some (.int k (zs.getD i 0))) ∧ ∀ n ∈ zs, (Lit.int k n).wf = true

/-- Cells that hold bytes, from an address on. -/
theorem bytes_of {w : World} {x : Addr} {len cap : Nat} {zs : List Int} (hl : len ≤ cap) (hm : cap ≤ maxLen) (hz : zs.length = cap) (hc : ∀ i, i < zs.length → w.cell? (x.add i) = some (.int .u8 (zs.getD i 0))) : Bytes w (some x) len cap (zs.take len) := by
  refine ⟨by simp; omega, hl, hm, fun hp => ?_⟩
  obtain ⟨b, o, s⟩ := x
  have h0 := hc 0 (by omega)
  have hs : s = none := by simpa [Addr.add] using World.cell?_spot h0
  subst hs
  refine ⟨b, o, rfl, World.block_lt_of_cell? w ⟨b, o, none⟩ (by simpa [Addr.add] using h0), fun k hk => ?_⟩
  have hk' := hc k (by omega)
  have he : (zs.take len).getD k 0 = zs.getD k 0 := by simp [hk]
  rw [he]
  by_cases h0 : k = 0
  · subst h0; simpa [Addr.add] using hk'
  · simpa [Addr.add, h0] using hk'

theorem IsRow.bytes {w : World} {a : Option Addr} {len cap : Nat} {zs : List Int} (h : IsRow .u8 w a len cap zs) : Bytes w a len cap (zs.take len) ∧ (a = none → len = 0 ∧ cap = 0) := by
  rcases h with ⟨rfl, rfl, rfl, rfl⟩ | ⟨x, rfl, hl, hm, hz, hc, _⟩
  · exact ⟨⟨rfl, Nat.le_refl _, Nat.zero_le _, fun h => absurd h (by omega)⟩, fun _ => ⟨rfl, rfl⟩⟩
  · exact ⟨bytes_of hl hm hz hc, fun h => by cases h⟩

theorem i64_bounds {n : Int} (h : (Lit.int .i64 n).wf = true) : -9223372036854775808 ≤ n ∧ n ≤ 9223372036854775807 := bounds_i64 h

theorem info5 : (Try.prog.info? 5).map (fun i => (i.zero, i.size, i.bytes)) = some (some (.int .u8 0), 1, 1) := by kernel_rfl

/-- A row of bytes of the call's own, as bytes that may be written. -/
theorem own_buf {w : World} {base : Nat} {v : Value} {n : Nat} {zs : List Int} (hn : zs.length = n) (h : w.ownsRow base 5 1 v n (zs.map (Value.int .u8))) :
    ∃ A c, v = .slice A n c ∧ Buf w A n c zs ∧ ∀ g o s, A = some ⟨g, o, s⟩ → base ≤ g := by
  have h2 := h
  have h3 := h.lt
  rcases h.2 with ⟨rfl, h0⟩ | ⟨g, cap, cur, rfl, hbg, hg, hnc, hcm, hcs, _⟩
  · exact ⟨none, 0, by rw [h0], ⟨hn, by omega, Nat.zero_le _, .inl ⟨rfl, rfl⟩⟩, fun g o s he => by cases he⟩
  · refine ⟨_, cap, rfl, ⟨hn, hnc, hcm, .inr ⟨g, 0, rfl, (h3 g rfl).2, fun k hk => ?_, fun k hk => frozen_of_row _ _ _ cur 5 hg, fun k hk => ?_⟩⟩, fun g' o s he => by injection he with he; injection he with he _; omega⟩
    · rw [cell_of_row _ _ _ cur 5 (0, 0) hg]
      rw [Array.getElem?_eq_getElem (by omega)]; rfl
    · rw [Nat.zero_add, h2.cellAt k (by omega), List.getElem?_map, List.getD_eq_getElem?_getD, List.getElem?_eq_getElem (by omega)]
      rfl

/-- A new row that begins with the bytes. -/
theorem buf_new (w : World) (zs : List Int) (ex : Array Value) (n c : Nat) (hn : zs.length = n) (hc : n ≤ c) (hm : c ≤ maxLen) (he : ex.size = c - n) :
    Buf (w.alloc (.cells ((zs.map (Value.int .u8)).toArray ++ ex) 5)) (some ⟨w.heap.size, 0, none⟩) n c zs := by
  have hb := heap_alloc_new w (.cells ((zs.map (Value.int .u8)).toArray ++ ex) 5)
  refine ⟨hn, hc, hm, .inr ⟨w.heap.size, 0, rfl, by simp, fun k hk => ?_, fun k hk => frozen_of_row _ _ _ _ 5 hb, fun k hk => ?_⟩⟩
  · rw [cell_of_row _ _ _ _ 5 (0, 0) hb, Array.getElem?_eq_getElem (by simp; omega)]; rfl
  · rw [cell_of_row _ _ _ _ 5 (0, 0) hb, Array.getElem?_append_left (by simp; omega)]
    simp [List.getD_eq_getElem?_getD, List.getElem?_eq_getElem (show k < zs.length by omega)]

theorem src_bytes {w : World} {A : Option Addr} {n c : Nat} {ys : List Int} (h : Bytes w A n c ys) (hA : A = none → n = 0 ∧ c = 0) : Src Try.prog 1 24 (.slice A n c) n (ys.map (Value.int .u8)) w := by
  cases A with
  | none =>
    obtain ⟨rfl, rfl⟩ := hA rfl
    have hz : ys = [] := List.eq_nil_of_length_eq_zero h.1
    subst hz
    exact Src.ofNil w Try.underlying24 0
  | some ad => exact Src.ofSlice w Try.underlying24 ad n c _ (by simp [h.1]) h.news (fun u hu => by simp at hu; obtain ⟨z, _, rfl⟩ := hu; rfl)

/-- append of bytes onto bytes that may be written. -/
theorem run_append_buf {w : World} {A : Option Addr} {n c : Nat} {zs : List Int} (h : Buf w A n c zs) {A2 : Option Addr} {n2 c2 : Nat} {ys : List Int} (h2 : Bytes w A2 n2 c2 ys) (hA2 : A2 = none → n2 = 0 ∧ c2 = 0) (hl : n + n2 ≤ 1000000) (ty : TypeId) :
    ∃ A' c' w', (Builtin.append_ #[24, 24] ty #[.slice A n c, .slice A2 n2 c2]).run Try.prog w = .ok (.slice A' (n + n2) c') w' ∧ Buf w' A' (n + n2) c' (zs ++ ys) ∧ Only (fun d => ∃ o s, A = some ⟨d, o, s⟩) w w' ∧ (A' = A ∨ A' = some ⟨w.heap.size, 0, none⟩) := by
  obtain ⟨i0, hi, hz0, hz1, hz2⟩ := info_parts info5
  have hs := src_bytes h2 hA2
  rw [← hz1] at hs
  by_cases hr : n + n2 ≤ c
  · obtain ⟨h1, hnc, hcm, ⟨rfl, h0⟩ | ⟨g, o, rfl, hg, hsm, hf, hc⟩⟩ := h
    · have hn : n = 0 := by omega
      have hn2 : n2 = 0 := by omega
      subst hn hn2 h0
      have hy : ys = [] := List.eq_nil_of_length_eq_zero h2.1
      have hz : zs = [] := List.eq_nil_of_length_eq_zero h1
      subst hy hz
      refine ⟨none, 0, w, ?_, Buf.nil w, Only.refl _ _, .inl rfl⟩
      have hcl := hs.cells
      have hln := hs.len
      simp at hcl
      simp [Builtin.append_, run_underlying Try.underlying24, sizeOf, typeInfo, hi, hln, hcl]
    · refine ⟨some ⟨g, o, none⟩, c, _, run_append_room_src w 24 24 ty 5 i0 Try.underlying24 hi g o n c _ n2 _ hs hr ?_ ?_, ?_, (Only.refl _ w).setCells g _ (fun _ => ⟨o, none, rfl⟩) _, .inl rfl⟩
      · intro j hj
        simp [h2.1] at hj
        rw [hz1, Nat.mul_one, Nat.add_assoc]
        exact hsm _ (by omega)
      · intro j hj
        simp [h2.1] at hj
        rw [hz1, Nat.mul_one, Nat.add_assoc]
        exact hf _ (by omega)
      · rw [hz1, Nat.mul_one]
        have hy := h2.1
        refine ⟨by simp; omega, hr, hcm, .inr ⟨g, o, rfl, Nat.lt_of_lt_of_le hg ((Only.refl (fun d => d = g) w).setCells g (o + n) (fun _ => rfl) _).size, fun k hk => ?_, fun k hk => ?_, fun k hk => ?_⟩⟩
        · by_cases hin : n ≤ k ∧ k < n + n2
          · obtain ⟨j, rfl⟩ : ∃ j, k = n + j := ⟨k - n, by omega⟩
            rw [← Nat.add_assoc, World.cell?_setCells_in g (ys.map (Value.int .u8)) (o + n) w (fun j hj => by simp [hy] at hj; rw [Nat.add_assoc]; exact hsm _ (by omega)) j (by simp; omega)]
            rfl
          · rw [World.cell?_setCells_out g _ _ _ _ (fun _ _ => by simp; omega)]
            exact hsm _ hk
        · rw [World.frozen?_setCells]; exact hf _ hk
        · by_cases hin : n ≤ k
          · obtain ⟨j, rfl⟩ : ∃ j, k = n + j := ⟨k - n, by omega⟩
            rw [← Nat.add_assoc, World.cell?_setCells_in g (ys.map (Value.int .u8)) (o + n) w (fun j hj => by simp [hy] at hj; rw [Nat.add_assoc]; exact hsm _ (by omega)) j (by simp; omega)]
            rw [List.getElem_map, List.getD_eq_getElem?_getD, List.getElem?_append_right (by omega), show n + j - zs.length = j by omega, List.getElem?_eq_getElem (by omega)]
            rfl
          · rw [World.cell?_setCells_out g _ _ _ _ (fun _ _ => by simp; omega), hc k (by omega)]
            simp only [List.getD_eq_getElem?_getD]
            rw [List.getElem?_append_left (by omega)]
  · have hB := h.bytes
    have ho : (Builtin.firstCells i0.size n (.slice A n c)).run Try.prog w.drew = .ok (zs.map (Value.int .u8)).toArray w.drew := by
      rw [hz1]; exact (src_bytes hB.1 hB.2).cellsD
    have hgc := grownCap_ge w (n + n2) c 5
    refine ⟨_, _, _, run_append_grow_src w 24 24 ty 5 i0 (.int .u8 0) Try.underlying24 hi hz0 A n c _ ho _ n2 _ hs (by omega) (by omega) (by rw [hz2]; exact growslice_fits (by omega) (by omega)), ?_, (Only.refl _ w).drew.alloc _, .inr rfl⟩
    have hx := buf_new w.drew (zs ++ ys) (Builtin.zeroCells (Value.cells (.int .u8 0)) (grownCap w (n + n2) c 5 - (n + n2))) (n + n2) (grownCap w (n + n2) c 5) (by simp [h.1, h2.1]) hgc (grownCap_le_maxLen _ _ _ _ (by unfold maxLen; omega)) (by rw [Builtin.zeroCells, Array.size_map, Array.size_range, show (Value.cells (.int .u8 0)).size = 1 from rfl, Nat.mul_one])
    rw [List.map_append] at hx
    exact hx

/-- .. at the list of a plain region's operations. -/
theorem append_buf {w : World} {ops : Array Oper} {rest : List Oper} {o : Oper} {a : Act} {Q : Exit → Act → World → Prop} (hgd : o.guard = none) (s x : Operand)
    (ho : o.op = .call { callee := .builtin .append, args := #[s, x], argTypes := #[24, 24] })
    {A : Option Addr} {n c : Nat} {zs : List Int} (h : Buf w A n c zs) (hs : a.eval s = .slice A n c) {A2 : Option Addr} {n2 c2 : Nat} {ys : List Int} (h2 : Bytes w A2 n2 c2 ys) (hA2 : A2 = none → n2 = 0 ∧ c2 = 0) (hx : a.eval x = .slice A2 n2 c2) (hl : n + n2 ≤ 1000000)
    (hn : ∀ A' c' w', Buf w' A' (n + n2) c' (zs ++ ys) → Only (fun d => ∃ o s, A = some ⟨d, o, s⟩) w w' → (A' = A ∨ A' = some ⟨w.heap.size, 0, none⟩) → wpList Try.prog ops Q rest (a.put o.dst (.slice A' (n + n2) c')) w') :
    wpList Try.prog ops Q (o :: rest) a w := by
  obtain ⟨A', c', w', hrun, q1, q2, q3⟩ := run_append_buf h h2 hA2 hl o.type
  refine wpList_plain hgd fun K hK => ?_
  unfold Oper.wp
  simp [execOp, ho, resolve, invoke, builtin, hs, hx, hrun, Result.andThen]
  exact hK _ _ (hn A' c' w' q1 q2 q3)

/-- .. at a step of a region that draws its order. -/
theorem step_append_buf {w : World} {ops : Array Oper} {o : Oper} {a : Act} {K : Act → World → Prop} {Q : Exit → Act → World → Prop} {E : Prop} (hgd : o.guard = none) (s x : Operand)
    (ho : o.op = .call { callee := .builtin .append, args := #[s, x], argTypes := #[24, 24] })
    {A : Option Addr} {n c : Nat} {zs : List Int} (h : Buf w A n c zs) (hs : a.eval s = .slice A n c) {A2 : Option Addr} {n2 c2 : Nat} {ys : List Int} (h2 : Bytes w A2 n2 c2 ys) (hA2 : A2 = none → n2 = 0 ∧ c2 = 0) (hx : a.eval x = .slice A2 n2 c2) (hl : n + n2 ≤ 1000000)
    (hn : ∀ A' c' w', Buf w' A' (n + n2) c' (zs ++ ys) → Only (fun d => ∃ o s, A = some ⟨d, o, s⟩) w w' → (A' = A ∨ A' = some ⟨w.heap.size, 0, none⟩) → K (a.put o.dst (.slice A' (n + n2) c')) w') :
    if Region.wanted o (yielded ops a.tmps) = true then Oper.wp Try.prog o a w K Q else E := by
  have hw : Region.wanted o (yielded ops a.tmps) = true := by simp [Region.wanted, hgd]
  rw [if_pos hw]
  obtain ⟨A', c', w', hrun, q1, q2, q3⟩ := run_append_buf h h2 hA2 hl o.type
  unfold Oper.wp
  simp [execOp, ho, resolve, invoke, builtin, hs, hx, hrun, Result.andThen]
  exact hn A' c' w' q1 q2 q3

/-- Bytes as text. -/
theorem text_of {w : World} {A : Option Addr} {n c : Nat} {zs : List Int} (h : Bytes w A n c zs) (hA : A = none → n = 0 ∧ c = 0) : (convert 24 9 (.slice A n c)).run Try.prog w = .ok (.string (strOfNums zs)) w := by
  rcases Nat.eq_zero_or_pos n with h0 | h0
  · subst h0
    have hz : zs = [] := List.eq_nil_of_length_eq_zero h.1
    subst hz
    rw [run_convert_bytes_string w 24 9 5 A 0 c Try.underlying24 Try.underlying5 Try.underlying9]
    cases A with
    | none => rfl
    | some ad => rfl
  · obtain ⟨b, o, rfl, _, hc⟩ := h.2.2.2 h0
    exact run_convert_bytes_arg (P := Try.prog) w 24 5 Try.underlying24 Try.underlying5 b o n c zs h.1 hc 9 Try.underlying9

end Go.Proofs.Ytghihmmapignmaa
