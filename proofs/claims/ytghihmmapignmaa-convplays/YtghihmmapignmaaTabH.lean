/- Contracts of Map and of the reference's Map. -/
import Derived.Test.YtghihmmapignmaaTabA
import Derived.WalkKit
import Derived.WalkSpells
import Derived.WalkLawsBesides
import Derived.Lib.Hide
import Derived.OwnWalk
import Derived.Test.YtghihmmapignmaaPlainF
namespace Go.Proofs.Ytghihmmapignmaa
open Go.RowKit

/-- Each byte by the table. -/
def mapL (t zs : List Int) : List Int := zs.map fun z => t.getD z.toNat 0
def mapTo (t zs : List Int) : Nat → List Int
  | 0 => List.replicate zs.length 0
  | k + 1 => (mapTo t zs k).set k (t.getD (zs.getD k 0).toNat 0)
theorem len_mapTo (t zs : List Int) : ∀ k, (mapTo t zs k).length = zs.length
  | 0 => List.length_replicate
  | k + 1 => by rw [mapTo, List.length_set]; exact len_mapTo t zs k
theorem mapTo_at (t zs : List Int) : ∀ k, k ≤ zs.length → ∀ i, i < k → (mapTo t zs k)[i]? = some (t.getD (zs.getD i 0).toNat 0) := by
  intro k
  induction k with
  | zero => intro _ i hi; omega
  | succ k ih =>
    intro hk i hi
    rw [mapTo, List.getElem?_set]
    by_cases e : k = i
    · subst e; rw [if_pos rfl, if_pos (by rw [len_mapTo]; omega)]
    · rw [if_neg e]; exact ih (by omega) i (by omega)
theorem mapTo_all (t zs : List Int) : mapTo t zs zs.length = mapL t zs := by
  apply List.ext_getElem?
  intro i
  by_cases hi : i < zs.length
  · rw [mapTo_at t zs zs.length (Nat.le_refl _) i hi, mapL, List.getElem?_map, List.getElem?_eq_getElem hi, List.getD_eq_getElem?_getD (l := zs), List.getElem?_eq_getElem hi]; rfl
  · rw [List.getElem?_eq_none (by rw [len_mapTo]; omega), List.getElem?_eq_none (by rw [mapL, List.length_map]; omega)]

/-- A table of bytes. -/
def Good (l : List Int) : Prop := l.length = 256 ∧ ∀ k, k < 256 → 0 ≤ l.getD k 0 ∧ l.getD k 0 < 256
theorem mapL_are {t zs : List Int} (ht : Good t) (hz : Are zs) : Are (mapL t zs) := by
  intro z hm
  obtain ⟨x, hx, rfl⟩ := List.mem_map.1 hm
  have := hz x hx
  exact ht.2 x.toNat (by omega)

/-- Bytes of new memory come back; what was there is as it was. -/
def BytesPost (l : List Int) (w : World) (e : Ending) (w' : World) : Prop := ∃ A m c, e = .returned (.slice A m c) ∧ Buf w' A m c l ∧ (∀ g o s, A = some ⟨g, o, s⟩ → w.heap.size ≤ g) ∧ Below w.heap.size w w'
theorem row_buf {w : World} {b n : Nat} {l : List Int} (h : Row w b 5 (cs l)) (hl : l.length = n) (hm : n ≤ maxLen) : Buf w (some ⟨b, 0, none⟩) n n l :=
  ⟨hl, Nat.le_refl _, hm, .inr ⟨b, 0, rfl, h.lt, fun k hk => by rw [Nat.zero_add, h.cell k (by omega)]; rfl, fun k _ => h.free _, fun k hk => by rw [Nat.zero_add]; exact h.cell k (by omega)⟩⟩

theorem made_zeros (n : Nat) : madeCells (Value.cells (.int .u8 0)) n = cs (List.replicate n 0) := by
  apply Array.ext_getElem?
  intro i
  by_cases hi : i < n
  · simp [madeCells, cs, hi, Value.cells, Nat.mod_one]
  · rw [Array.getElem?_eq_none (by rw [size_madeCells]; omega), Array.getElem?_eq_none (by rw [cs_size]; simp; omega)]

theorem st_make {ops : Array Oper} {rest : List Oper} {o : Oper} {a : Act} {w : World} {Q : Exit → Act → World → Prop} (hgd : o.guard = none) (l c : Operand) (ho : o.op = .makeSlice 24 l c) (n : Nat) (hl : a.eval l = .int .i64 n) (hc : a.eval c = .int .i64 n) (hn : n ≤ 1000000)
    (h : ∀ (b : Nat) (w1 : World), Row w1 b 5 (cs (List.replicate n 0)) → Below w.heap.size w w1 → w.heap.size ≤ b → wpList Try.prog ops Q rest (a.put o.dst (.slice (some ⟨b, 0, none⟩) n n)) w1) :
    wpList Try.prog ops Q (o :: rest) a w := by
  obtain ⟨i0, hi, hz0, hz1, hz2⟩ := info_parts info5
  have hr := run_make (P := Try.prog) w 24 5 i0 (.int .u8 0) Try.underlying24 hi hz0 .i64 .i64 n n (by omega) (Int.le_refl _) (by rw [hz2]; omega) (by omega)
  simp only [Int.toNat_natCast, hz1, Nat.mul_one, made_zeros] at hr
  refine wpList_plain hgd fun K hK => ?_
  unfold Oper.wp
  simp [execOp, ho, hl, hc, hr, Result.andThen]
  exact hK _ _ (h _ _ (row_new w _ 5) ((Below.refl _ _).alloc (Nat.le_refl _) _) (Nat.le_refl _))

theorem row_bytes {w : World} {b n : Nat} {l : List Int} (h : Row w b 5 (cs l)) (hl : l.length = n) (hm : n ≤ maxLen) : Bytes w (some ⟨b, 0, none⟩) n n l :=
  ⟨hl, Nat.le_refl _, hm, fun _ => ⟨b, 0, rfl, h.lt, fun k hk => by rw [Nat.zero_add]; exact h.cell k (by omega)⟩⟩

set_option maxRecDepth 100000 in
set_option maxHeartbeats 400000 in
theorem map_any (t : List Int) (A : Option Addr) (n c : Nat) (zs : List Int) (w : World) (ht : Good t) (hb : Bytes w A n c zs) (hz : Are zs) (hm : n ≤ 1000000) (os : List Int) (he : mapL t zs = os) : Calls Try.prog 23 #[tv t, .slice A n c] w (BytesPost os w) := by
  have HE := Lib.hid he
  clear he
  have HT := Lib.hid ht; have HB := Lib.hid hb; have HZ := Lib.hid hz
  have HN := Lib.hid hb.1
  clear ht hb hz
  go_enter Try.func23, Try.ntmps23
  go_wp2_with (refine st_box rfl _ rfl t rfl ?_)
  intro b2 w0 r2 k0 l2
  go_wp2_with (refine st_make rfl _ _ rfl n rfl rfl hm ?_)
  intro g w1 rg k1 lg
  have R2 := Lib.hid (r2.on k1); have K1 := Lib.hid (k0.trans (k1.mono k0.size))
  have hne : b2 ≠ g := by have := r2.lt; omega
  have hg : w.heap.size ≤ g := by have := k0.size; omega
  have RG := Lib.hid (show Row w1 g 5 (cs (mapTo t zs 0)) by rw [mapTo, HN.out]; exact rg)
  clear r2 k0 k1 rg
  go_wp2
  go_loopw [13] (fun i wr => ∃ k : Nat, k ≤ n ∧ i = .int .i64 k ∧ Hid (Row wr b2 50 (cs t)) ∧ Hid (Row wr g 5 (cs (mapTo t zs k))) ∧ Hid (Below w.heap.size w wr)) (fun i _ => n - (intOf i).toNat)
  case atStart => exact ⟨0, by omega, rfl, R2, RG, K1⟩
  case round =>
    clear R2 RG K1
    obtain ⟨k, hk, rfl, R2, RG, K⟩ := hrel
    have LM := Lib.hid ((len_mapTo t zs k).trans HN.out)
    by_cases hlt : k < n
    · obtain ⟨bb, o, rfl, hbl, hc⟩ := HB.out.2.2.2 (by omega)
      have c0 := (K.out.cell (p := ⟨bb, o + k, none⟩) hbl).trans (hc k hlt)
      obtain ⟨z0, z1⟩ := HZ.out.at k
      have EM := Lib.hid (show mapTo t zs (k + 1) = (mapTo t zs k).set k (t.getD (zs.getD k 0).toNat 0) from rfl)
      clear hc
      generalize zs.getD k 0 = z at c0 z0 z1 EM
      obtain ⟨y, rfl⟩ : ∃ y : Nat, z = y := ⟨z.toNat, by omega⟩
      have ct := R2.out.cell y (by rw [HT.out.1]; omega)
      have EM2 := Lib.hid (show mapTo t zs (k + 1) = (mapTo t zs k).set k (t.getD y 0) from EM.out)
      clear EM
      generalize t.getD y 0 = v at ct EM2
      have cg := RG.out.cell k (by rw [LM.out]; exact hlt)
      have fg := RG.out.free k
      go_wp2
      go_roundw
      case rel => exact ⟨k + 1, by omega, by go_num, R2.out.past g _ _ hne, by rw [EM2.out]; exact RG.out.set k _, K.out.setCell (by omega) _⟩
      case measure => simp [intOf]; omega
    · have E := Lib.hid (show mapTo t zs k = mapL t zs by rw [show k = zs.length by rw [HN.out]; omega, mapTo_all])
      go_wp2
      go_ret
      refine ⟨some ⟨g, 0, none⟩, n, n, rfl, ?_, (fun g' o s h => by injection h with h; injection h with h; omega), K.out⟩
      have := row_buf RG.out LM.out (by unfold maxLen; omega)
      rw [E.out, HE.out] at this
      exact this

/-- Bytes that were just written out. -/
theorem bytes_new (w : World) (arr : Array Value) (cs : List Int) (t : TypeId) (s n : Nat) (hs : s = w.heap.size) (ha : arr.toList = cs.map (Value.int .u8)) (hn : cs.length = n) (hm : n ≤ maxLen) :
    Bytes (w.alloc (.cells arr t)) (some ⟨s, 0, none⟩) n n cs := by
  subst hs hn
  refine ⟨rfl, Nat.le_refl _, hm, fun _ => ⟨_, _, rfl, by simp, fun k hk => ?_⟩⟩
  have hb := World.news_of_block (w := w.alloc (.cells arr t)) (heap_alloc_new w (.cells arr t)) k (.int .u8 (cs.getD k 0)) (by rw [ha, List.getElem?_map, List.getD_eq_getElem?_getD, List.getElem?_eq_getElem hk]; rfl)
  by_cases h0 : k = 0
  · subst h0; simpa [Addr.add] using hb
  · simpa [Addr.add, h0] using hb

theorem mapL_snoc (t zs : List Int) (k : Nat) (hk : k < zs.length) : mapL t (zs.take (k + 1)) = mapL t (zs.take k) ++ [t.getD (zs.getD k 0).toNat 0] := by
  rw [List.take_add_one, mapL, mapL, List.map_append, List.getElem?_eq_getElem hk, List.getD_eq_getElem?_getD (l := zs), List.getElem?_eq_getElem hk]; rfl

set_option maxRecDepth 100000 in
set_option maxHeartbeats 800000 in
theorem rmap_any (t : List Int) (A : Option Addr) (n c : Nat) (zs : List Int) (w : World) (ht : Good t) (hb : Bytes w A n c zs) (hz : Are zs) (hm : n ≤ 900000) (os : List Int) (he : mapL t zs = os) : Calls Try.prog 59 #[tv t, .slice A n c] w (BytesPost os w) := by
  have HE := Lib.hid he
  clear he
  have HT := Lib.hid ht; have HB := Lib.hid hb; have HZ := Lib.hid hz
  have HN := Lib.hid hb.1
  clear ht hb hz
  go_enter Try.func59, Try.ntmps59
  go_wp2_with (refine st_box rfl _ rfl t rfl ?_)
  intro b2 w0 r2 k0 l2
  have R2 := Lib.hid r2; have K1 := Lib.hid k0
  clear r2 k0
  go_wp2
  go_loopw [5, 6] (fun v i wr => ∃ (k : Nat) (A' : Option Addr) (c' : Nat), k ≤ n ∧ i = .int .i64 k ∧ v = .slice A' k c' ∧ Hid (Row wr b2 50 (cs t)) ∧ Hid (Buf wr A' k c' (mapL t (zs.take k))) ∧ Hid (∀ g o s, A' = some ⟨g, o, s⟩ → w.heap.size ≤ g ∧ g ≠ b2) ∧ Hid (Below w.heap.size w wr)) (fun _ i _ => n - (intOf i).toNat)
  case atStart => exact ⟨0, none, 0, by omega, rfl, rfl, R2, Buf.nil _, (fun _ _ _ h => by cases h), K1⟩
  case round =>
    clear R2 K1
    obtain ⟨k, A', c', hk, rfl, rfl, R2, B, HA, K⟩ := hrel
    by_cases hlt : k < n
    · obtain ⟨bb, o, rfl, hbl, hc⟩ := HB.out.2.2.2 (by omega)
      have c0 := (K.out.cell (p := ⟨bb, o + k, none⟩) hbl).trans (hc k hlt)
      obtain ⟨z0, z1⟩ := HZ.out.at k
      have EM := Lib.hid (mapL_snoc t zs k (by rw [HN.out]; exact hlt))
      clear hc
      generalize zs.getD k 0 = z at c0 z0 z1 EM
      obtain ⟨y, rfl⟩ : ∃ y : Nat, z = y := ⟨z.toNat, by omega⟩
      have ct := R2.out.cell y (by rw [HT.out.1]; omega)
      have EM2 := Lib.hid (show mapL t (zs.take (k + 1)) = mapL t (zs.take k) ++ [t.getD y 0] from EM.out)
      clear EM
      generalize t.getD y 0 = v at ct EM2
      have kb : Below wr.heap.size wr (wr.alloc (.cells #[.int .u8 v] 5)) := (Below.refl _ _).alloc (Nat.le_refl _) _
      have B1 := Lib.hid (B.out.only (S := fun _ => False) (Only.of_below kb) (fun _ _ _ _ h => h))
      have N1 := Lib.hid (bytes_new wr #[.int .u8 v] [v] 5 _ 1 rfl rfl rfl (by decide))
      have R3 := Lib.hid (R2.out.on kb); have K3 := Lib.hid (K.out.trans (kb.mono K.out.size))
      have hsz := K.out.size
      have hb2 := R2.out.lt
      clear kb B K R2
      go_wp2_with (at_builtin; refine append_buf rfl _ _ rfl B1.out rfl N1.out (fun h => by cases h) rfl (by omega) ?_; intro A2 c2 w2 q1 q2 q3; have Q1 := Lib.hid q1; have Q2 := Lib.hid q2; have Q3 := Lib.hid q3; clear q1 q2 q3)
      go_roundw
      case rel =>
        refine ⟨k + 1, A2, c2, by omega, by go_num, rfl, ?_, ?_, ?_, ?_⟩
        · exact R3.out.only Q2.out (fun ⟨o, s, h⟩ => (HA.out _ o s h).2 rfl)
        · unfold Hid; rw [EM2.out]; exact Q1.out
        · intro g o s h
          rcases Q3.out with rfl | rfl
          · exact HA.out g o s h
          · injection h with h; injection h with h; simp at h; omega
        · exact K3.out.trans (Q2.out.below K3.out.size (fun d ⟨o, s, h⟩ => (HA.out d o s h).1))
      case measure => simp [intOf]; omega
    · have E := Lib.hid (show mapL t (zs.take k) = mapL t zs by rw [show k = zs.length by rw [HN.out]; omega, List.take_length])
      go_wp2
      go_ret
      have hB := B.out
      rw [E.out, HE.out] at hB
      exact ⟨A', k, c', rfl, hB, fun g o s h => (HA.out g o s h).1, K.out⟩

end Go.Proofs.Ytghihmmapignmaa
