/- Tables in a slice: written out, and appended. -/
import Derived.Test.YtghihmmapignmaaTabK
import Derived.WalkKit
import Derived.Great.Walk
namespace Go.Proofs.Ytghihmmapignmaa
open Go.RowKit

theorem fold_set (off : Nat) : ∀ (l : List Value) (k : Nat) (a : Array Value) (i : Nat),
    ((l.zipIdx k).foldl (fun cs p => cs.setIfInBounds (off + p.2) p.1) a)[i]? = if off + k ≤ i ∧ i < off + k + l.length ∧ i < a.size then l[i - off - k]? else a[i]?
  | [], k, a, i => by simp; intro h1 h2; omega
  | v :: l, k, a, i => by
    rw [List.zipIdx_cons, List.foldl_cons, fold_set off l (k + 1)]
    simp only [Array.size_setIfInBounds, List.length_cons]
    by_cases h1 : off + (k + 1) ≤ i ∧ i < off + (k + 1) + l.length ∧ i < a.size
    · rw [if_pos h1, if_pos (by omega)]
      rw [show i - off - k = (i - off - (k + 1)) + 1 by omega, List.getElem?_cons_succ]
    · rw [if_neg h1, Array.getElem?_setIfInBounds]
      by_cases h2 : off + k = i
      · subst h2
        by_cases h3 : off + k < a.size
        · rw [if_pos rfl, if_pos h3, if_pos (by omega)]; simp
        · rw [if_pos rfl, if_neg h3, if_neg (by omega), Array.getElem?_eq_none (by omega)]
      · rw [if_neg h2, if_neg (by omega)]
theorem fold_set' (off : Nat) (vs a : Array Value) (i : Nat) :
    (vs.zipIdx.foldl (fun cs (p : Value × Nat) => cs.setIfInBounds (off + p.2) p.1) a)[i]? = if off ≤ i ∧ i < off + vs.size ∧ i < a.size then vs[i - off]? else a[i]? := by
  rw [← Array.foldl_toList, Array.toList_zipIdx, fold_set]
  simp
theorem fold_size (off : Nat) (vs a : Array Value) : (vs.zipIdx.foldl (fun cs (p : Value × Nat) => cs.setIfInBounds (off + p.2) p.1) a).size = a.size := by
  rw [← Array.foldl_toList]
  generalize vs.zipIdx.toList = l
  induction l generalizing a with
  | nil => rfl
  | cons x l ih => rw [List.foldl_cons, ih]; simp

theorem info50 : (Try.prog.info? 50).map (fun i => (i.zero, i.size, i.bytes)) = some (some (tv zeros), 256, 256) := by kernel_rfl

/-- One table written out as a slice. -/
theorem built_one (t : List Int) (ht : t.length = 256) : Try.prog.builtSlice 50 1 [(0, tv t)] = some (cs t) := by
  obtain ⟨i0, hi, hz0, hz1, hz2⟩ := info_parts info50
  unfold Program.builtSlice
  simp only [hi, hz0, hz1]
  rw [if_neg (by simp)]
  simp only [Instr.fill]
  have hc : (tv t).cells = cs t := rfl
  rw [hc]
  have hs : (cs t).size = 256 := by rw [cs_size, ht]
  rw [if_neg (by simp [hs])]
  congr 1
  apply Array.ext_getElem?
  intro i
  rw [fold_set']
  by_cases h : i < 256
  · rw [if_pos (by rw [hs]; simp; omega)]; simp
  · rw [if_neg (by rw [hs]; omega), Array.getElem?_eq_none (by simp; omega), Array.getElem?_eq_none (by rw [hs]; omega)]
/-- Two. -/
theorem built_two (t u : List Int) (ht : t.length = 256) (hu : u.length = 256) : Try.prog.builtSlice 50 2 [(0, tv t), (1, tv u)] = some (cs (t ++ u)) := by
  obtain ⟨i0, hi, hz0, hz1, hz2⟩ := info_parts info50
  unfold Program.builtSlice
  simp only [hi, hz0, hz1]
  rw [if_neg (by simp)]
  simp only [Instr.fill]
  have hc : (tv t).cells = cs t := rfl
  have hc2 : (tv u).cells = cs u := rfl
  rw [hc, hc2]
  have hs : (cs t).size = 256 := by rw [cs_size, ht]
  have hs2 : (cs u).size = 256 := by rw [cs_size, hu]
  have hs3 : (cs (t ++ u)).size = 512 := by rw [cs_size, List.length_append, ht, hu]
  rw [if_neg (by simp [hs]), if_neg (by rw [fold_size]; simp [hs2])]
  congr 1
  apply Array.ext_getElem?
  intro i
  rw [fold_set', fold_set', fold_size]
  have ha : cs (t ++ u) = cs t ++ cs u := by simp [cs]
  rw [ha]
  by_cases h : i < 256
  · rw [if_neg (by omega), if_pos (by rw [hs]; simp; omega), Array.getElem?_append_left (by omega)]; simp
  · by_cases h2 : i < 512
    · rw [if_pos (by rw [hs2]; simp; omega), Array.getElem?_append_right (by omega), hs]
    · rw [if_neg (by rw [hs2]; omega), if_neg (by rw [hs]; omega), Array.getElem?_eq_none (by simp; omega), Array.getElem?_eq_none (by rw [Array.size_append]; omega)]

/-- A slice of tables whose memory may be written, the spare room too; zs are all their bytes. -/
def BufT (w : World) (A : Option Addr) (n c : Nat) (zs : List Int) : Prop :=
  zs.length = n * 256 ∧ n ≤ c ∧ c ≤ maxLen ∧ ((A = none ∧ c = 0) ∨ ∃ g o, A = some ⟨g, o, none⟩ ∧ g < w.heap.size ∧ (∀ k, k < c * 256 → (w.cell? ⟨g, o + k, none⟩).isSome = true) ∧ (∀ k, k < c * 256 → w.frozen? ⟨g, o + k, none⟩ = false) ∧
    ∀ k, k < n * 256 → w.cell? ⟨g, o + k, none⟩ = some (.int .u8 (zs.getD k 0)))
theorem BufT.nil (w : World) : BufT w none 0 0 [] := ⟨rfl, Nat.le_refl _, Nat.zero_le _, .inl ⟨rfl, rfl⟩⟩
theorem BufT.only {S : Nat → Prop} {w w' : World} {A : Option Addr} {n c : Nat} {zs : List Int} (h : BufT w A n c zs) (k : Only S w w') (hS : ∀ g o s, A = some ⟨g, o, s⟩ → ¬ S g) : BufT w' A n c zs := by
  obtain ⟨h1, h2, h3, h4 | ⟨g, o, rfl, hl, hs, hf, hc⟩⟩ := h
  · exact ⟨h1, h2, h3, .inl h4⟩
  · have hn := hS g o none rfl
    refine ⟨h1, h2, h3, .inr ⟨g, o, rfl, Nat.lt_of_lt_of_le hl k.size, fun j hj => ?_, fun j hj => ?_, fun j hj => ?_⟩⟩
    · rw [k.cell (p := ⟨g, o + j, none⟩) hl hn]; exact hs j hj
    · rw [k.frozen (p := ⟨g, o + j, none⟩) hl hn]; exact hf j hj
    · rw [k.cell (p := ⟨g, o + j, none⟩) hl hn]; exact hc j hj
theorem BufT.on {w w' : World} {A : Option Addr} {n c : Nat} {zs : List Int} (h : BufT w A n c zs) (k : Below w.heap.size w w') : BufT w' A n c zs :=
  h.only (S := fun _ => False) (Only.of_below k) (fun _ _ _ _ h => h)
theorem buft_new (w : World) (zs : List Int) (ex : Array Value) (n c : Nat) (hn : zs.length = n * 256) (hc : n ≤ c) (hm : c ≤ maxLen) (he : ex.size = (c - n) * 256) :
    BufT (w.alloc (.cells ((zs.map (Value.int .u8)).toArray ++ ex) 50)) (some ⟨w.heap.size, 0, none⟩) n c zs := by
  have hb := heap_alloc_new w (.cells ((zs.map (Value.int .u8)).toArray ++ ex) 50)
  have hcm : c * 256 = n * 256 + (c - n) * 256 := by rw [← Nat.add_mul]; congr 1; omega
  refine ⟨hn, hc, hm, .inr ⟨w.heap.size, 0, rfl, by simp, fun k hk => ?_, fun k hk => frozen_of_row _ _ _ _ 50 hb, fun k hk => ?_⟩⟩
  · rw [cell_of_row _ _ _ _ 50 (0, 0) hb, Array.getElem?_eq_getElem (by simp; omega)]; rfl
  · rw [cell_of_row _ _ _ _ 50 (0, 0) hb, Array.getElem?_append_left (by simp; omega)]
    simp [List.getD_eq_getElem?_getD, List.getElem?_eq_getElem (show k < zs.length by omega)]

theorem src_buft {w : World} {A : Option Addr} {n c : Nat} {ys : List Int} (h : BufT w A n c ys) : Src Try.prog 256 69 (.slice A n c) n (ys.map (Value.int .u8)) w := by
  obtain ⟨h1, h2, h3, ⟨rfl, rfl⟩ | ⟨g, o, rfl, hl, hs, hf, hc⟩⟩ := h
  · obtain rfl : n = 0 := by omega
    have hz : ys = [] := List.eq_nil_of_length_eq_zero (by omega)
    subst hz
    exact Src.ofNil w Try.underlying69 0
  · refine Src.ofSlice w Try.underlying69 _ n c _ (by simp [h1]) (fun j u hu => ?_) (fun u hu => by simp at hu; obtain ⟨z, _, rfl⟩ := hu; rfl)
    rw [List.getElem?_map] at hu
    by_cases hj : j < ys.length
    · rw [List.getElem?_eq_getElem hj] at hu
      simp at hu
      rw [Addr.add_lit, hc j (by omega), List.getD_eq_getElem?_getD, List.getElem?_eq_getElem hj, ← hu]
      rfl
    · rw [List.getElem?_eq_none (by omega)] at hu; simp at hu

/-- append of tables onto tables. -/
theorem run_append_buft {w : World} {A : Option Addr} {n c : Nat} {zs : List Int} (h : BufT w A n c zs) {A2 : Option Addr} {n2 c2 : Nat} {ys : List Int} (h2 : BufT w A2 n2 c2 ys) (hl : n + n2 ≤ 1000) (ty : TypeId) :
    ∃ A' c' w', (Builtin.append_ #[69, 69] ty #[.slice A n c, .slice A2 n2 c2]).run Try.prog w = .ok (.slice A' (n + n2) c') w' ∧ BufT w' A' (n + n2) c' (zs ++ ys) ∧ Only (fun d => ∃ o s, A = some ⟨d, o, s⟩) w w' ∧ (A' = A ∨ A' = some ⟨w.heap.size, 0, none⟩) := by
  obtain ⟨i0, hi, hz0, hz1, hz2⟩ := info_parts info50
  have hzs : (tv zeros).cells.size = 256 := by show (cs zeros).size = 256; rw [cs_size]; exact len_zeros
  generalize tv zeros = z0 at hz0 hzs
  have hs := src_buft h2
  rw [← hz1] at hs
  have hy := h2.1
  by_cases hr : n + n2 ≤ c
  · obtain ⟨h1, hnc, hcm, ⟨rfl, h0⟩ | ⟨g, o, rfl, hg, hsm, hf, hc⟩⟩ := h
    · have hn : n = 0 := by omega
      have hn2 : n2 = 0 := by omega
      subst hn hn2 h0
      have hy : ys = [] := List.eq_nil_of_length_eq_zero (by have := h2.1; omega)
      have hz : zs = [] := List.eq_nil_of_length_eq_zero (by omega)
      subst hy hz
      refine ⟨none, 0, w, ?_, BufT.nil w, Only.refl _ _, .inl rfl⟩
      have hcl := hs.cells
      have hln := hs.len
      simp at hcl
      simp [Builtin.append_, run_underlying Try.underlying69, sizeOf, typeInfo, hi, hln, hcl]
    · have hmul : n * 256 + n2 * 256 ≤ c * 256 := by rw [← Nat.add_mul]; exact Nat.mul_le_mul_right 256 hr
      refine ⟨some ⟨g, o, none⟩, c, _, run_append_room_src w 69 69 ty 50 i0 Try.underlying69 hi g o n c _ n2 _ hs hr ?_ ?_, ?_, (Only.refl _ w).setCells g _ (fun _ => ⟨o, none, rfl⟩) _, .inl rfl⟩
      · intro j hj
        simp [hy] at hj
        rw [hz1, Nat.add_assoc]
        exact hsm _ (by omega)
      · intro j hj
        simp [hy] at hj
        rw [hz1, Nat.add_assoc]
        exact hf _ (by omega)
      · rw [hz1]
        refine ⟨by simp; omega, hr, hcm, .inr ⟨g, o, rfl, Nat.lt_of_lt_of_le hg ((Only.refl (fun d => d = g) w).setCells g (o + n * 256) (fun _ => rfl) _).size, fun k hk => ?_, fun k hk => ?_, fun k hk => ?_⟩⟩
        · by_cases hin : n * 256 ≤ k ∧ k < n * 256 + n2 * 256
          · obtain ⟨j, rfl⟩ : ∃ j, k = n * 256 + j := ⟨k - n * 256, by omega⟩
            rw [← Nat.add_assoc, World.cell?_setCells_in g (ys.map (Value.int .u8)) (o + n * 256) w (fun j hj => by simp [hy] at hj; rw [Nat.add_assoc]; exact hsm _ (by omega)) j (by simp; omega)]
            rfl
          · rw [World.cell?_setCells_out g _ _ _ _ (fun _ _ => by simp; omega)]
            exact hsm _ hk
        · rw [World.frozen?_setCells]; exact hf _ hk
        · by_cases hin : n * 256 ≤ k
          · obtain ⟨j, rfl⟩ : ∃ j, k = n * 256 + j := ⟨k - n * 256, by omega⟩
            have hj : j < ys.length := by omega
            rw [← Nat.add_assoc, World.cell?_setCells_in g (ys.map (Value.int .u8)) (o + n * 256) w (fun j hj => by simp [hy] at hj; rw [Nat.add_assoc]; exact hsm _ (by omega)) j (by simp; omega)]
            rw [List.getElem_map, List.getD_eq_getElem?_getD, List.getElem?_append_right (by omega), show n * 256 + j - zs.length = j by omega, List.getElem?_eq_getElem hj]
            rfl
          · rw [World.cell?_setCells_out g _ _ _ _ (fun _ _ => by simp; omega), hc k (Nat.lt_of_not_le hin)]
            simp only [List.getD_eq_getElem?_getD]
            rw [List.getElem?_append_left (by omega)]
  · have ho : (Builtin.firstCells i0.size n (.slice A n c)).run Try.prog w.drew = .ok (zs.map (Value.int .u8)).toArray w.drew := by
      rw [hz1]; exact (src_buft h).cellsD
    have hgc := grownCap_ge w (n + n2) c 50
    refine ⟨_, _, _, run_append_grow_src w 69 69 ty 50 i0 z0 Try.underlying69 hi hz0 A n c _ ho _ n2 _ hs (by omega) (by omega) (by rw [hz2]; exact growslice_fits (by omega) (by omega)), ?_, (Only.refl _ w).drew.alloc _, .inr rfl⟩
    have hx := buft_new w.drew (zs ++ ys) (Builtin.zeroCells z0.cells (grownCap w (n + n2) c 50 - (n + n2))) (n + n2) (grownCap w (n + n2) c 50) (by rw [List.length_append, h.1, h2.1, Nat.add_mul]) hgc (grownCap_le_maxLen _ _ _ _ (by unfold maxLen; omega)) (by rw [Builtin.zeroCells, Array.size_map, Array.size_range, hzs])
    rw [List.map_append] at hx
    exact hx

end Go.Proofs.Ytghihmmapignmaa
