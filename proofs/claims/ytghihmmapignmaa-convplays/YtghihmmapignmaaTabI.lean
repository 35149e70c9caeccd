/- Contract of Then. -/
import Derived.Test.YtghihmmapignmaaTabH
import Derived.WalkKit
import Derived.WalkSpells
import Derived.WalkLawsBesides
import Derived.Lib.Hide
namespace Go.Proofs.Ytghihmmapignmaa
open Go.RowKit

/-- A slice of tables. -/
structure Tbs (w : World) (A : Option Addr) (n : Nat) (L : List (List Int)) : Prop where
  len : L.length = n
  good : ∀ k, k < n → Good (L.getD k [])
  cells : 0 < n → ∃ b o, A = some ⟨b, o, none⟩ ∧ b < w.heap.size ∧ ∀ k, k < n → w.rangeAt b (o + k * 256) ((L.getD k []).map (Value.int .u8))

theorem range_on {w w' : World} {b o : Nat} {l : List Value} (h : w.rangeAt b o l) {B : Nat} (k : Below B w w') (hb : b < B) : w'.rangeAt b o l :=
  fun j v hv => (k.cell (p := ⟨b, o + j, none⟩) hb).trans (h j v hv)
theorem Tbs.on {w w' : World} {A : Option Addr} {n : Nat} {L : List (List Int)} (h : Tbs w A n L) (k : Below w.heap.size w w') : Tbs w' A n L :=
  ⟨h.len, h.good, fun hn => by
    obtain ⟨b, o, rfl, hb, hc⟩ := h.cells hn
    exact ⟨b, o, rfl, Nat.lt_of_lt_of_le hb k.size, fun j hj => range_on (hc j hj) k hb⟩⟩

theorem run_load_mid {w : World} {b o : Nat} {l : List Int} (hr : w.rangeAt b o (l.map (Value.int .u8))) (hl : l.length = 256) : (Instr.loadAt 50 (.pointer (some ⟨b, o, none⟩))).run Try.prog w = .ok (tv l) w :=
  run_loadAt_mid w b o 50 _ _ hr Try.underlying50 rfl (by rw [(zero_of_info zero24).2, List.length_map, hl])
theorem st_loadm {ops : Array Oper} {rest : List Oper} {o : Oper} {a : Act} {w : World} {Q : Exit → Act → World → Prop} (hgd : o.guard = none) (x : Operand) (ho : o.op = .load 50 x) (b k : Nat) (hx : a.eval x = .pointer (some ⟨b, k, none⟩)) (l : List Int) (hr : w.rangeAt b k (l.map (Value.int .u8))) (hl : l.length = 256)
    (h : wpList Try.prog ops Q rest (a.put o.dst (tv l)) w) : wpList Try.prog ops Q (o :: rest) a w := by
  refine wpList_plain hgd fun K hK => ?_
  unfold Oper.wp execOp
  simp only [ho, hx, run_load_mid hr hl, Sem.run_bind, Sem.run_pure, Result.andThen_ok]
  exact hK _ _ h

def behTo (t nx : List Int) : Nat → List Int
  | 0 => t
  | k + 1 => (behTo t nx k).set k (nx.getD (t.getD k 0).toNat 0)
theorem len_behTo (t nx : List Int) : ∀ k, (behTo t nx k).length = t.length
  | 0 => rfl
  | k + 1 => by rw [behTo, List.length_set]; exact len_behTo t nx k
theorem behTo_at (t nx : List Int) : ∀ k, k ≤ t.length → ∀ i, i < k → (behTo t nx k)[i]? = some (nx.getD (t.getD i 0).toNat 0) := by
  intro k
  induction k with
  | zero => intro _ i hi; omega
  | succ k ih =>
    intro hk i hi
    rw [behTo, List.getElem?_set]
    by_cases e : k = i
    · subst e; rw [if_pos rfl, if_pos (by rw [len_behTo]; omega)]
    · rw [if_neg e]; exact ih (by omega) i (by omega)
theorem behTo_all (t nx : List Int) : behTo t nx t.length = behind t nx := by
  apply List.ext_getElem?
  intro i
  by_cases hi : i < t.length
  · rw [behTo_at t nx t.length (Nat.le_refl _) i hi, behind, List.getElem?_map, List.getElem?_eq_getElem hi, List.getD_eq_getElem?_getD (l := t), List.getElem?_eq_getElem hi]; rfl
  · rw [List.getElem?_eq_none (by rw [len_behTo]; omega), List.getElem?_eq_none (by rw [behind, List.length_map]; omega)]
theorem Good.behind {t nx : List Int} (ht : Good t) (hn : Good nx) : Good (behind t nx) := by
  refine ⟨by rw [Ytghihmmapignmaa.behind, List.length_map, ht.1], fun k hk => ?_⟩
  have := ht.2 k hk
  have hk' : k < t.length := by rw [ht.1]; exact hk
  rw [Ytghihmmapignmaa.behind, List.getD_eq_getElem?_getD, List.getElem?_map, List.getElem?_eq_getElem hk']
  rw [List.getD_eq_getElem?_getD, List.getElem?_eq_getElem hk'] at this
  simp only [Option.getD_some, Option.map_some] at this ⊢
  exact hn.2 _ (by omega)
theorem good_ids : Good ids := ⟨len_ids, by decide +kernel⟩
theorem thenL_snoc (l : List (List Int)) (x t : List Int) : thenL (l ++ [x]) t = behind (thenL l t) x := by
  induction l generalizing t with
  | nil => rfl
  | cons y l ih => exact ih _
theorem thenL_take (L : List (List Int)) (j : Nat) (hj : j < L.length) (t : List Int) : thenL (L.take (j + 1)) t = behind (thenL (L.take j) t) (L.getD j []) := by
  rw [List.take_add_one, List.getElem?_eq_getElem hj, List.getD_eq_getElem?_getD, List.getElem?_eq_getElem hj]; exact thenL_snoc _ _ _

set_option maxRecDepth 100000 in
set_option maxHeartbeats 1000000 in
theorem then_any (A : Option Addr) (n c : Nat) (L : List (List Int)) (w : World) (h : Tbs w A n L) (hn : n ≤ 1000000) : Calls Try.prog 28 #[.slice A n c] w (TabPost (thenL L ids) w) := by
  have H := Lib.hid h
  clear h
  have GI := Lib.hid good_ids; have SA := Lib.hid same_any
  generalize ids = l at GI SA ⊢
  go_enter Try.func28, Try.ntmps28
  go_wp2_with (refine st_alloc rfl rfl ?_)
  intro b2 w0 r2 k0 l2
  go_wp2_with fail
  refine (SA.out w0).mono ?_
  rintro e w1 ⟨rfl, k1⟩
  have R2 := Lib.hid (r2.on k1); have K1 := Lib.hid (k0.trans (k1.mono k0.size))
  clear r2 k0 k1
  go_wp2_with (refine st_alloc rfl rfl ?_)
  intro b3 w2 r3 k2 l3
  have hne : b2 < b3 := by have := R2.out.lt; omega
  have R2' := Lib.hid (R2.out.on k2); have K2 := Lib.hid (K1.out.trans (k2.mono K1.out.size))
  clear R2 K1 k2
  go_wp2_with (refine st_store rfl _ _ rfl b3 rfl _ rfl _ r3 len_zeros GI.out.1 ?_)
  intro w3 r4 o3
  have R3 := Lib.hid (R2'.out.only o3 (by omega)); have K3 := Lib.hid (K2.out.trans (o3.below K2.out.size (fun d hd => by rw [hd]; omega)))
  clear R2' K2 o3 r3
  go_wp2
  go_loopw [11] (fun i wr => ∃ (j : Nat) (T : List Int), j ≤ n ∧ i = .int .i64 j ∧ Hid (T = thenL (L.take j) l) ∧ Hid (Good T) ∧ Hid (Row wr b2 50 (cs zeros)) ∧ Hid (Row wr b3 50 (cs T)) ∧ Hid (Below w.heap.size w wr)) (fun i _ => n - (intOf i).toNat)
  case atStart => exact ⟨0, l, by omega, rfl, rfl, GI, R3, r4, K3⟩
  case round =>
    clear R3 r4 K3
    obtain ⟨j, T, hj, rfl, ET, GT, R2, R3, K⟩ := hrel
    by_cases hlt : j < n
    · obtain ⟨bb, o, rfl, hbl, hc⟩ := H.out.cells (by omega)
      have HC := Lib.hid (range_on (hc j hlt) K.out hbl)
      have GN := Lib.hid (H.out.good j hlt)
      have EB := Lib.hid (thenL_take L j (by rw [H.out.len]; exact hlt) l)
      clear hc
      generalize L.getD j [] = nx at HC GN EB
      have hbr : bb < wr.heap.size := Nat.lt_of_lt_of_le hbl K.out.size
      go_wp2_with (first | (refine st_loadm rfl _ rfl bb (o + j * 256) rfl nx HC.out GN.out.1 ?_) | (refine st_alloc rfl rfl ?_))
      intro b5 w4 r5 k4 l5
      have h35 : b3 < b5 := by have := R3.out.lt; omega
      have R2a := Lib.hid (R2.out.on k4); have R3a := Lib.hid (R3.out.on k4); have Ka := Lib.hid (K.out.trans (k4.mono K.out.size))
      clear R2 R3 K k4 HC
      go_wp2_with (refine st_store rfl _ _ rfl b5 rfl _ rfl _ r5 len_zeros GN.out.1 ?_)
      intro w5 r5b o5
      have R2b := Lib.hid (R2a.out.only o5 (by omega)); have R3b := Lib.hid (R3a.out.only o5 (by omega)); have Kb := Lib.hid (Ka.out.trans (o5.below Ka.out.size (fun d hd => by rw [hd]; omega)))
      clear R2a R3a Ka o5 r5
      go_wp2_with (refine st_load rfl _ rfl b3 rfl _ R3b.out GT.out.1 ?_)
      go_loopw [16] (fun i wr => ∃ (k : Nat), k ≤ 256 ∧ i = .int .i64 k ∧ Hid (Row wr b2 50 (cs zeros)) ∧ Hid (Row wr b3 50 (cs (behTo T nx k))) ∧ Hid (Row wr b5 50 (cs nx)) ∧ Hid (Below w.heap.size w wr)) (fun i _ => 256 - (intOf i).toNat)
      case atStart => exact ⟨0, by omega, rfl, R2b, R3b, r5b, Kb⟩
      case round =>
        clear R2b R3b r5b Kb
        obtain ⟨k, hk, rfl, R2, R3, R5, K⟩ := hrel
        have LB := Lib.hid ((len_behTo T nx k).trans GT.out.1)
        by_cases hkl : k < 256
        · obtain ⟨z0, z1⟩ := GT.out.2 k hkl
          have EX := Lib.hid (show behTo T nx (k + 1) = (behTo T nx k).set k (nx.getD (T.getD k 0).toNat 0) from rfl)
          have LT := Lib.hid GT.out.1
          generalize hx : T.getD k 0 = x at z0 z1 EX
          obtain ⟨y, rfl⟩ : ∃ y : Nat, x = y := ⟨x.toNat, by omega⟩
          have HX := Lib.hid hx
          clear hx
          have c5 := R5.out.cell y (by rw [GN.out.1]; omega)
          have EX2 := Lib.hid (show behTo T nx (k + 1) = (behTo T nx k).set k (nx.getD y 0) from EX.out)
          clear EX
          generalize nx.getD y 0 = v at c5 EX2
          have c3 := R3.out.cell k (by rw [LB.out]; exact hkl)
          have f3 := R3.out.free k
          go_wp2_with (refine st_index rfl _ _ rfl T rfl _ _ rfl k rfl LT.out hkl ?_; rw [HX.out])
          go_roundw
          case rel => exact ⟨k + 1, by omega, by go_num, R2.out.past b3 _ _ (by omega), by rw [EX2.out]; exact R3.out.set k _, R5.out.past b3 _ _ (by omega), K.out.setCell (p := ⟨b3, k, none⟩) (by show w.heap.size ≤ b3; omega) _⟩
          case measure => simp [intOf]; omega
        · have E2 := Lib.hid (show behTo T nx k = behind T nx by rw [show k = T.length by rw [GT.out.1]; omega, behTo_all])
          go_wp2
          go_roundw
          case rel => exact ⟨j + 1, behTo T nx k, by omega, by go_num, by unfold Hid; rw [E2.out, EB.out, ET.out], by rw [E2.out]; exact GT.out.behind GN.out, R2, R3, K⟩
          case measure => simp [intOf]; omega
    · have EF := Lib.hid (show T = thenL L l by rw [ET.out, List.take_of_length_le (by rw [H.out.len]; omega)])
      go_wp2_with (first | (refine st_load rfl _ rfl b3 rfl _ R3.out GT.out.1 ?_) | (refine st_store rfl _ _ rfl b2 rfl _ rfl _ R2.out len_zeros GT.out.1 ?_))
      intro w5 r5 o5
      go_wp2
      exact res_tab rfl b2 rfl _ r5 GT.out.1 rfl ⟨by rw [EF.out], K.out.trans (o5.below K.out.size (fun d hd => by rw [hd]; exact l2))⟩

end Go.Proofs.Ytghihmmapignmaa
