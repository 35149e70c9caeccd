/- The walk of the law NumFactors. -/
import Derived.Test.YtheokjjkjigcfaaRead
import Derived.Test.YtheokjjkjigcfaaPlainF
import Derived.Test.YtheokjjkjigcfaaWalksR
import Derived.WalkKit
import Derived.WalkSpells
import Derived.WalkLawsBesides
import Derived.Lib.Hide
import Derived.Maps.AppendAt
import Derived.Deep.RegionHeld3
import Derived.Deep.AppendLies
namespace Go.Proofs.Ytheokjjkjigcfaa
open Go.RowKit

def sufT : Array Value := #[.string ⟨#[]⟩, .string ⟨#[99]⟩, .string ⟨#[119]⟩, .string ⟨#[98]⟩, .string ⟨#[107, 66]⟩, .string ⟨#[107]⟩, .string ⟨#[75]⟩, .string ⟨#[77, 66]⟩, .string ⟨#[77]⟩, .string ⟨#[71, 66]⟩, .string ⟨#[71]⟩]
def sufI : Array Value := #[.int .i64 1, .int .i64 1, .int .i64 2, .int .i64 512, .int .i64 1000, .int .i64 1024, .int .i64 1024, .int .i64 1000000, .int .i64 1048576, .int .i64 1000000000, .int .i64 1073741824]
def sufW (w : World) : World := (w.alloc (.cells sufT 9)).alloc (.cells sufI 3)
theorem sufT_at : ∀ k, k < 11 → sufT[k]? = some (.string (Plain.bs (Plain.sufL.getD k []))) := by
  intro k hk
  match k, hk with
  | 0, _ | 1, _ | 2, _ | 3, _ | 4, _ | 5, _ | 6, _ | 7, _ | 8, _ | 9, _ | 10, _ => rfl
  | k + 11, h => omega
theorem sufI_at : ∀ k, k < 11 → sufI[k]? = some (.int .i64 ((Plain.sufN.getD k 0 : Nat) : Int)) := by
  intro k hk
  match k, hk with
  | 0, _ | 1, _ | 2, _ | 3, _ | 4, _ | 5, _ | 6, _ | 7, _ | 8, _ | 9, _ | 10, _ => rfl
  | k + 11, h => omega
theorem suf_text (w : World) (k : Nat) (hk : k < 11) : (sufW w).cell? ⟨w.heap.size, k, none⟩ = some (.string (Plain.bs (Plain.sufL.getD k []))) := by
  unfold sufW
  rw [World.cell?_alloc_lt _ _ _ (by simp), World.cell?_alloc_new]
  exact sufT_at k hk
theorem suf_num (w : World) (k : Nat) (hk : k < 11) : (sufW w).cell? ⟨w.heap.size + 1, k, none⟩ = some (.int .i64 ((Plain.sufN.getD k 0 : Nat) : Int)) := by
  unfold sufW
  have h := World.cell?_alloc_new (w.alloc (.cells sufT 9)) sufI 3 k
  rw [show (w.alloc (.cells sufT 9)).heap.size = w.heap.size + 1 by simp] at h
  rw [h]
  exact sufI_at k hk
theorem suf_below (w : World) : Below w.heap.size w (sufW w) := ((Below.refl _ _).alloc (Nat.le_refl _) _).alloc (by simp) _
theorem suf_size (w : World) : (sufW w).heap.size = w.heap.size + 2 := by simp [sufW]

set_option maxHeartbeats 1000000 in
theorem suffixes_any (w : World) : Calls Try.prog 20 #[] w fun e w' => e = .returned (.tuple #[.slice (some ⟨w.heap.size, 0, none⟩) 11 11, .slice (some ⟨w.heap.size + 1, 0, none⟩) 11 11]) ∧ sufW w = w' := by
  go_enter Try.func20, Try.ntmps20
  go_wp2
  go_ret2
  exact ⟨by simp, rfl⟩

theorem held_of {wr w' : World} {p q : Addr} {u v : Value} (hp : wr.cell? p = some u) (hq : wr.cell? q = some v) (h : Below wr.heap.size wr w') : w'.cell? p = some u ∧ w'.cell? q = some v ∧ Below wr.heap.size wr w' :=
  ⟨(h.cell (World.block_lt_of_cell? _ _ hp)).trans hp, (h.cell (World.block_lt_of_cell? _ _ hq)).trans hq, h⟩
theorem held_nextF {wr w1 w2 : World} {p q : Addr} {u v : Value} (hp : wr.cell? p = some u) (hq : wr.cell? q = some v) (h : w1.cell? p = some u ∧ w1.cell? q = some v ∧ Below wr.heap.size wr w1) (k : Below w1.heap.size w1 w2) : w2.cell? p = some u ∧ w2.cell? q = some v ∧ Below wr.heap.size wr w2 :=
  held_of hp hq (h.2.2.trans (k.mono h.2.2.size))

/-- append of two ints onto a row of ints of the call's own. -/
theorem append_two {w : World} {ops : Array Oper} {rest : List Oper} {o : Oper} {a : Act} {Q : Exit → Act → World → Prop} (hgd : o.guard = none) (s x : Operand)
    (ho : o.op = .call { callee := .builtin .append, args := #[s, x], argTypes := #[31, 31] })
    (base : Nat) (v : Value) (zs : List Int) (hs : a.eval s = v) (hown : w.ownsRow base 3 1 v zs.length (Plain.intVals zs)) (y z : Int) (b : Nat) (hbn : b = w.heap.size)
    (hx : a.eval x = .slice (some ⟨b, 0, none⟩) 2 2)
    (hb : zs.length + 2 ≤ 1000000) (hbase : base ≤ w.heap.size)
    (h : ∀ v' w', w'.ownsRow base 3 1 v' (zs ++ [y, z]).length (Plain.intVals (zs ++ [y, z])) → w'.heap.size ≥ w.heap.size → (∀ k, k < w.heap.size → some k ≠ v.ownBlock → w'.heap[k]? = w.heap[k]?) → Below base w w' → wpList Try.prog ops Q rest (a.put o.dst v') w') :
    wpList Try.prog ops Q (o :: rest) a (w.alloc (.cells #[.int .i64 y, .int .i64 z] 3)) := by
  obtain ⟨i0, hi, hz0, hz1, hz2⟩ := info_parts info3
  subst hbn
  refine wpList_append_own _ hgd s x 31 ho base 3 i0 (.int .i64 0) 1 8 Try.underlying31 hi hz0 hz1 hz2 rfl (by decide) v zs.length _ hs (hown.alloc _) ⟨w.heap.size, 0, none⟩ 2 2 [.int .i64 y, .int .i64 z] hx rfl (cell_two_new _ _ _ _) ?_ (by unfold maxLen; omega) (by omega) (by simp; omega) ?_
  · intro u hu
    simp at hu
    rcases hu with rfl | rfl <;> rfl
  · intro v' w' h1 h2 _
    refine h v' w' ?_ ?_ ?_ ?_
    · rw [List.length_append, Plain.intVals, List.map_append]
      exact h1
    · have := h2.size
      simp at this
      omega
    · intro k hk hne
      rw [h2.block k (by simp; omega) hne]
      exact Below.heap_alloc w _ k hk
    · exact Below.grown ((Below.refl base w).alloc hbase _) h2 (by simp; omega) (fun k hk => (hown.lt k hk).1)

/-- A slice of numbers that came in, at one place. -/
theorem IsRow.at {q : IntKind} {w : World} {A : Option Addr} {n c : Nat} {zs : List Int} (h : IsRow q w A n c zs) (i : Nat) (hi : i < n) : ∃ b o, A = some ⟨b, o, none⟩ ∧ w.cell? ⟨b, o + i, none⟩ = some (.int q (zs.getD i 0)) ∧ (Lit.int q (zs.getD i 0)).wf = true := by
  rcases h with ⟨_, h, _⟩ | ⟨x, rfl, hl, hm, hz, hc, hw⟩
  · omega
  · obtain ⟨b, o, s⟩ := x
    have h0 := hc 0 (by omega)
    have hs : s = none := by simpa [Addr.add] using World.cell?_spot h0
    subst hs
    have hk' := hc i (by omega)
    have hwf : (Lit.int q (zs.getD i 0)).wf = true := hw _ (by rw [List.getD_eq_getElem?_getD, List.getElem?_eq_getElem (show i < zs.length by omega)]; exact List.getElem_mem _)
    refine ⟨b, o, rfl, ?_, hwf⟩
    by_cases h0 : i = 0
    · subst h0; simpa [Addr.add] using hk'
    · simpa [Addr.add, h0] using hk'
theorem IsRow.len {q : IntKind} {w : World} {A : Option Addr} {n c : Nat} {zs : List Int} (h : IsRow q w A n c zs) : n ≤ maxLen := by
  rcases h with ⟨_, h, _⟩ | ⟨x, rfl, hl, hm, _⟩
  · rw [h]; exact Nat.zero_le _
  · exact Nat.le_trans hl hm

theorem held_b {B : Nat} {wr w' : World} {p q : Addr} {u v : Value} (hp : wr.cell? p = some u) (hq : wr.cell? q = some v) (lp : p.block < B) (lq : q.block < B) (h : Below B wr w') : w'.cell? p = some u ∧ w'.cell? q = some v ∧ Below B wr w' :=
  ⟨(h.cell lp).trans hp, (h.cell lq).trans hq, h⟩
theorem own_two {w : World} {base : Nat} {v : Value} {fs : List Int} {x y : Int} (h : w.ownsRow base 3 1 v (fs.length + 2) (Plain.intVals fs ++ [.int .i64 x, .int .i64 y])) : w.ownsRow base 3 1 v (fs ++ [x, y]).length (Plain.intVals (fs ++ [x, y])) := by
  rw [List.length_append, Plain.intVals, List.map_append]
  exact h
theorem ba_size (a b : ByteArray) : (a ++ b).size = a.size + b.size := by simp
theorem one_x : (ByteArray.mk #[120]).size = 1 := rfl
theorem ba_data (a b : ByteArray) : (a ++ b).data.toList = a.data.toList ++ b.data.toList := by simp

set_option maxRecDepth 100000 in
set_option maxHeartbeats 8000000 in
theorem factors_yes (A : Option Addr) (n c : Nat) (ls : List Int) (B : Option Addr) (m d : Nat) (ws : List Int) (w : World) (ha : IsRow .u16 w A n c ls) (hb : IsRow .u8 w B m d ws) (h1 : 1 ≤ n) (h12 : n ≤ 12) (hmn : n ≤ m) (hm : m ≤ 9223372036854775807) :
    Calls Try.prog 6 #[.slice A n c, .slice B m d] w fun e w' => e = .returned (.bool true) ∧ Below w.heap.size w w' := by
  have HA := Lib.hid ha; have HB := Lib.hid hb
  clear ha hb
  obtain ⟨i0, hi, hz0, hz1, hz2⟩ := info_parts info3
  have d1 : decide ((n : Int) < 1) = false := by simp; omega
  have d2 : decide ((12 : Int) < (n : Int)) = false := by simp; omega
  have d3 : decide (m < n) = false := by simp; omega
  go_enter Try.func6, Try.ntmps6
  go_wp2_with fail
  refine (suffixes_any _).mono ?_
  rintro e w1 ⟨rfl, hw1⟩
  have SZ := Lib.hid (suf_size w); have SB := Lib.hid (suf_below w)
  have HW := Lib.hid hw1; clear hw1
  go_wp2
  go_loopw [7, 8, 9] (fun st v i wr => ∃ (j : Nat) (t : ByteArray) (fs : List Int), j ≤ n ∧ i = .int .i64 j ∧ st = .string t ∧ t.size ≤ 40 * j ∧ fs.length ≤ 2 * j ∧ wr.ownsRow (w.heap.size + 2) 3 1 v fs.length (Plain.intVals fs) ∧ Below (w.heap.size + 2) (sufW w) wr ∧ Hid (Plain.FacAt j t.data.toList fs)) (fun _ _ i _ => n - (intOf i).toNat)
  case atStart => exact ⟨0, ⟨#[]⟩, [], Nat.zero_le _, rfl, rfl, by decide, by simp, World.ownsRow_nil _ _ _ _, by rw [← HW.out]; exact Below.refl _ _, .inl ⟨rfl, rfl, rfl⟩⟩
  case round =>
    clear HW
    obtain ⟨j, t, fs, hj, rfl, rfl, hts, hfs, hown, hbel, FA⟩ := hrel
    have OWN := Lib.hid hown
    clear hown
    have hsz := hbel.size
    rw [SZ.out] at hsz
    by_cases hlt : j < n
    · obtain ⟨b, o, rfl, cx, wx⟩ := HA.out.at j hlt
      obtain ⟨b', o', rfl, cy, wy⟩ := HB.out.at j (by omega)
      have lx := World.block_lt_of_cell? _ _ cx
      have ly := World.block_lt_of_cell? _ _ cy
      obtain ⟨x0, x1⟩ := bounds_u16 wx
      obtain ⟨y0, y1⟩ := bounds_u8 wy
      have BW : Below w.heap.size w wr := SB.out.trans (hbel.mono (by omega))
      have cx := (BW.cell (p := ⟨b, o + j, none⟩) lx).trans cx
      have cy := (BW.cell (p := ⟨b', o' + j, none⟩) ly).trans cy
      generalize ls.getD j 0 = X at *
      generalize ws.getD j 0 = Y at *
      obtain ⟨x, rfl⟩ : ∃ x : Nat, X = (x : Int) := ⟨X.toNat, by omega⟩
      obtain ⟨y, rfl⟩ : ∃ y : Nat, Y = (y : Int) := ⟨Y.toNat, by omega⟩
      obtain ⟨k, hk⟩ : ∃ k : Nat, (y : Int) % 11 = (k : Int) := ⟨y % 11, by simp⟩
      have hk11 : k < 11 := by omega
      have hx : x ≤ 65535 := by omega
      have HK := Lib.hid hk; clear hk
      have ixw : IntKind.i64.wrap (x : Int) = (x : Int) := IntWalk.i64_in _ (by omega)
      have ik0 : (0 : Int) ≤ (k : Int) := by omega
      have ik1 : (k : Int) < 11 := by omega
      have ij0 : (0 : Int) ≤ (j : Int) := by omega
      have ij1 : (j : Int) < (n : Int) := by omega
      have in0 : (0 : Int) < (n : Int) := by omega
      have ct : wr.cell? ⟨w.heap.size, k, none⟩ = some (.string (Plain.bs (Plain.sufL.getD k []))) := (hbel.cell (p := ⟨w.heap.size, k, none⟩) (by simp)).trans (suf_text w k hk11)
      have cn : wr.cell? ⟨w.heap.size + 1, k, none⟩ = some (.int .i64 ((Plain.sufN.getD k 0 : Nat) : Int)) := (hbel.cell (p := ⟨w.heap.size + 1, k, none⟩) (by simp)).trans (suf_num w k hk11)
      have hsn := (Plain.suf_le k hk11).2
      have hsl : (Plain.bs (Plain.sufL.getD k [])).size ≤ 2 := by rw [Plain.bs_size]; exact Plain.suf_len k hk11
      have hdl : (Plain.bs (Plain.decL (x : Int))).size ≤ 21 := by rw [Plain.bs_size]; exact (Plain.decL_len x (by omega) (by omega)).2
      have F1 := Lib.hid (fun h : j = 0 => (h ▸ FA.out : Plain.FacAt 0 t.data.toList fs).first x k hx hk11)
      have F2 := Lib.hid (fun h : 0 < j => FA.out.next h x k hx hk11)
      have IT := Lib.hid (show (Plain.bs (Plain.decL (x : Int))).data.toList ++ (Plain.bs (Plain.sufL.getD k [])).data.toList = Plain.item x k by rw [Plain.bs_data, Plain.bs_data, Plain.item, Plain.decL, if_neg (by omega), Int.toNat_natCast])
      obtain ⟨U, hU⟩ : ∃ U, Plain.bs (Plain.sufL.getD k []) = U := ⟨_, rfl⟩
      obtain ⟨D, hD⟩ : ∃ D, Plain.bs (Plain.decL (x : Int)) = D := ⟨_, rfl⟩
      rw [hU] at ct hsl IT
      rw [hD] at hdl IT
      have HD := Lib.hid hD
      clear hU hD x0 x1 y0 wx wy FA
      generalize Plain.sufN.getD k 0 = N at *
      clear ly
      by_cases hj0 : j = 0
      · subst hj0
        have F := Lib.hid (F1.out rfl)
        clear F1 F2
        simp only [Nat.add_zero] at cx cy
        have sa1 : ∀ w : World, (Op.stringOp .add t D).run Try.prog w = .ok (.string (t ++ D)) w := fun w => run_string_add_sum w _ _ (by omega)
        have sa2 : ∀ w : World, (Op.stringOp .add (t ++ D) U).run Try.prog w = .ok (.string (t ++ D ++ U)) w := fun w => run_string_add_sum w _ _ (by rw [ba_size]; omega)
        rw [show ((0 : Nat) : Int) = 0 from rfl]
        go_wp2
        rw [HK.out]
        go_region_held3 (fun w' => w'.cell? ⟨b, o, none⟩ = some (.int .u16 (x : Int)) ∧ w'.cell? ⟨w.heap.size, k, none⟩ = some (.string U) ∧ Below wr.heap.size wr w')
          (first | assumption | exact held_of cx ct (Below.refl _ _) | exact held_of cx ct (Below.refl _ _).drew | exact held_nextF cx ct (by assumption) k9)
          (first | (go_at_call 12; ((with_reducible refine (dec_any (x : Int) _ (by omega) (by omega)).mono ?_); rw [HD.out]; rintro e w9 ⟨rfl, k9⟩)))
        rename_i hH
        have k10 := hH.2.2
        have cx9 := hH.1
        clear hH k9
        have hsz9 := k10.size
        have cn9 : w9.cell? ⟨w.heap.size + 1, k, none⟩ = some (.int .i64 (N : Int)) := (k10.cell (p := ⟨w.heap.size + 1, k, none⟩) (by simp; omega)).trans cn
        have OW := own_below OWN.out k10
        have B9 := hbel.trans (k10.mono hsz)
        clear k10
        have lX : b < w.heap.size + 2 := by omega
        go_wp2
        go_region_held3 (fun w' => w'.cell? ⟨b, o, none⟩ = some (.int .u16 (x : Int)) ∧ w'.cell? ⟨w.heap.size + 1, k, none⟩ = some (.int .i64 (N : Int)) ∧ Below (w.heap.size + 2) w9 w')
          (first | assumption | exact held_b cx9 cn9 lX (by simp) (Below.refl _ _) | exact held_b cx9 cn9 lX (by simp) (Below.refl _ _).drew | exact held_b cx9 cn9 lX (by simp) ((Below.refl _ _).alloc (by omega) _).drew | exact held_b cx9 cn9 lX (by simp) ((Below.refl _ _).alloc (by omega) _) | exact held_b cx9 cn9 lX (by simp) (Below.grown ((Below.refl _ _).alloc (by omega) _).drew hgrow (by simp; omega) (fun q hq => (OW.lt q hq).1)))
          ((refine step_append_lies _ (by rfl) _ _ _ (by rfl) (w.heap.size + 2) 3 i0 _ 1 8 Try.underlying31 hi hz0 hz1 hz2 rfl (by omega) _ fs.length (Plain.intVals fs) (by rfl) ((OW.alloc _).drew) ⟨w9.heap.size, 0, none⟩ 2 2 [.int .i64 (x : Int), .int .i64 (N : Int)] (by rfl) (by rfl) (World.news_of_block (cs := #[.int .i64 (x : Int), .int .i64 (N : Int)]) (t := 3) (fr := (0, 0)) (heap_alloc_new w9 _)) (by simp [Value.oneCell']) (by omega) (by unfold maxLen; omega) (by omega) (by simp; omega) (w9.heap.size + 1) (by simp) ?_; intro gg cap w10 hown1 hgrow hat hlt9))
        rename_i hH
        have BB := Lib.hid (B9.trans hH.2.2)
        have OO := Lib.hid (own_two hown1)
        have TT := Lib.hid (show Plain.FacAt 1 (t ++ D ++ U).data.toList (fs ++ [(x : Int), (N : Int)]) by rw [ba_data, ba_data, List.append_assoc, IT.out]; exact F.out)
        have TS := Lib.hid (show (t ++ D ++ U).size ≤ 40 * (1) by rw [ba_size, ba_size]; omega)
        clear hH hown1 hgrow hat hlt9 OW B9 cx cy ct cn cx9 cn9
        go_wp2
        go_roundw
        case rel => exact ⟨1, _, fs ++ [(x : Int), (N : Int)], by omega, by go_num, rfl, TS.out, by rw [List.length_append, List.length_cons, List.length_cons, List.length_nil]; omega, OO.out, BB.out, TT⟩
        case measure => simp [intOf]; omega
      · have hjp : 0 < j := by omega
        have F := Lib.hid (F2.out hjp)
        clear F1 F2
        have sa1 : ∀ w : World, (Op.stringOp .add (t ++ ⟨#[120]⟩) D).run Try.prog w = .ok (.string (t ++ ⟨#[120]⟩ ++ D)) w := fun w => run_string_add_sum w _ _ (by rw [ba_size, one_x]; omega)
        have sa2 : ∀ w : World, (Op.stringOp .add (t ++ ⟨#[120]⟩ ++ D) U).run Try.prog w = .ok (.string (t ++ ⟨#[120]⟩ ++ D ++ U)) w := fun w => run_string_add_sum w _ _ (by rw [ba_size, ba_size, one_x]; omega)
        go_wp2
        rw [HK.out]
        go_region_held3 (fun w' => w'.cell? ⟨b, o + j, none⟩ = some (.int .u16 (x : Int)) ∧ w'.cell? ⟨w.heap.size, k, none⟩ = some (.string U) ∧ Below wr.heap.size wr w')
          (first | assumption | exact held_of cx ct (Below.refl _ _) | exact held_of cx ct (Below.refl _ _).drew | exact held_nextF cx ct (by assumption) k9)
          (first | (go_at_call 12; ((with_reducible refine (dec_any (x : Int) _ (by omega) (by omega)).mono ?_); rw [HD.out]; rintro e w9 ⟨rfl, k9⟩)))
        rename_i hH
        have k10 := hH.2.2
        have cx9 := hH.1
        clear hH k9
        have hsz9 := k10.size
        have cn9 : w9.cell? ⟨w.heap.size + 1, k, none⟩ = some (.int .i64 (N : Int)) := (k10.cell (p := ⟨w.heap.size + 1, k, none⟩) (by simp; omega)).trans cn
        have OW := own_below OWN.out k10
        have B9 := hbel.trans (k10.mono hsz)
        clear k10
        have lX : b < w.heap.size + 2 := by omega
        go_wp2
        go_region_held3 (fun w' => w'.cell? ⟨b, o + j, none⟩ = some (.int .u16 (x : Int)) ∧ w'.cell? ⟨w.heap.size + 1, k, none⟩ = some (.int .i64 (N : Int)) ∧ Below (w.heap.size + 2) w9 w')
          (first | assumption | exact held_b cx9 cn9 lX (by simp) (Below.refl _ _) | exact held_b cx9 cn9 lX (by simp) (Below.refl _ _).drew | exact held_b cx9 cn9 lX (by simp) ((Below.refl _ _).alloc (by omega) _).drew | exact held_b cx9 cn9 lX (by simp) ((Below.refl _ _).alloc (by omega) _) | exact held_b cx9 cn9 lX (by simp) (Below.grown ((Below.refl _ _).alloc (by omega) _).drew hgrow (by simp; omega) (fun q hq => (OW.lt q hq).1)))
          ((refine step_append_lies _ (by rfl) _ _ _ (by rfl) (w.heap.size + 2) 3 i0 _ 1 8 Try.underlying31 hi hz0 hz1 hz2 rfl (by omega) _ fs.length (Plain.intVals fs) (by rfl) ((OW.alloc _).drew) ⟨w9.heap.size, 0, none⟩ 2 2 [.int .i64 (x : Int), .int .i64 (N : Int)] (by rfl) (by rfl) (World.news_of_block (cs := #[.int .i64 (x : Int), .int .i64 (N : Int)]) (t := 3) (fr := (0, 0)) (heap_alloc_new w9 _)) (by simp [Value.oneCell']) (by omega) (by unfold maxLen; omega) (by omega) (by simp; omega) (w9.heap.size + 1) (by simp) ?_; intro gg cap w10 hown1 hgrow hat hlt9))
        rename_i hH
        have BB := Lib.hid (B9.trans hH.2.2)
        have OO := Lib.hid (own_two hown1)
        have TT := Lib.hid (show Plain.FacAt (j + 1) (t ++ ⟨#[120]⟩ ++ D ++ U).data.toList (fs ++ [(x : Int), (N : Int)]) by rw [ba_data, ba_data, ba_data, List.append_assoc, List.append_assoc, IT.out]; exact F.out)
        have TS := Lib.hid (show (t ++ ⟨#[120]⟩ ++ D ++ U).size ≤ 40 * (j + 1) by rw [ba_size, ba_size, ba_size, one_x]; omega)
        clear hH hown1 hgrow hat hlt9 OW B9 cx cy ct cn cx9 cn9
        go_wp2
        go_roundw
        case rel => exact ⟨j + 1, _, fs ++ [(x : Int), (N : Int)], by omega, by go_num, rfl, TS.out, by rw [List.length_append, List.length_cons, List.length_cons, List.length_nil]; omega, OO.out, BB.out, TT⟩
        case measure => simp [intOf]; omega
    · obtain rfl : n = j := by omega
      have HV := Lib.hid (FA.out.ends (by omega))
      have BW := Lib.hid (SB.out.trans (hbel.mono (by omega)))
      obtain ⟨A2, c2, hv, hints, hin⟩ := own_ints OWN.out
      have HI := Lib.hid hints; have HIN := Lib.hid hin
      have HM := Lib.hid (show fs.length ≤ maxLen by unfold maxLen; omega)
      have HF := Lib.hid hv
      clear hints hv hin FA
      rw [HF.out]
      go_wp2_with fail
      refine (get_at t _ (Plain.mulS fs) _ rfl HV.out (by omega)).mono ?_
      rintro e w2 ⟨rfl, k2⟩
      have HI2 := Lib.hid (HI.out.below k2 (fun b o h _ => (HIN.out b o h).2))
      have B2 := Lib.hid (BW.out.trans (k2.mono BW.out.size))
      clear k2
      generalize fs.length = q at *
      go_wp2_with fail
      refine (mul_any A2 q c2 fs _ HM.out HI2.out).mono ?_
      rw [show Plain.mulV fs = Plain.intV (Plain.mulS fs) from rfl, show Plain.mulOk fs = (Plain.mulS fs).isSome from rfl]
      rintro e w3 ⟨rfl, rfl⟩
      generalize Plain.mulS fs = r
      go_wp2_with fail
      refine (runs_any _).mono ?_
      rintro e w4 ⟨rfl, k4⟩
      have B4 := B2.out.trans (k4.mono B2.out.size)
      clear k4
      go_wp2
      go_ret
      exact ⟨by simp, B4⟩

set_option maxRecDepth 100000 in
set_option maxHeartbeats 2000000 in
theorem factors_no (A : Option Addr) (n c : Nat) (B : Option Addr) (m d : Nat) (w : World) (hn : n ≤ 9223372036854775807) (_hm : m ≤ 9223372036854775807) (h : ¬ (1 ≤ n ∧ n ≤ 12 ∧ n ≤ m)) :
    Calls Try.prog 6 #[.slice A n c, .slice B m d] w fun e w' => e = .returned (.bool true) ∧ Below w.heap.size w w' := by
  by_cases h1 : 1 ≤ n
  · by_cases h2 : n ≤ 12
    · have h3 : ¬ n ≤ m := fun h3 => h ⟨h1, h2, h3⟩
      clear h
      go_enter Try.func6, Try.ntmps6
      go_wp2_with fail
      refine (runs_any _).mono ?_
      rintro e w4 ⟨rfl, k4⟩
      go_wp2
      go_ret
      exact ⟨rfl, k4⟩
    · clear h
      go_enter Try.func6, Try.ntmps6
      go_wp2_with fail
      refine (runs_any _).mono ?_
      rintro e w4 ⟨rfl, k4⟩
      go_wp2
      go_ret
      exact ⟨rfl, k4⟩
  · clear h
    go_enter Try.func6, Try.ntmps6
    go_wp2_with fail
    refine (runs_any _).mono ?_
    rintro e w4 ⟨rfl, k4⟩
    go_wp2
    go_ret
    exact ⟨rfl, k4⟩

theorem factors_walk (A : Option Addr) (n c : Nat) (ls : List Int) (B : Option Addr) (m d : Nat) (ws : List Int) (w : World) (ha : IsRow .u16 w A n c ls) (hb : IsRow .u8 w B m d ws) :
    Calls Try.prog 6 #[.slice A n c, .slice B m d] w fun e w' => e = .returned (.bool true) ∧ Below w.heap.size w w' := by
  have la := ha.len
  have lb := hb.len
  unfold maxLen at la lb
  by_cases h : 1 ≤ n ∧ n ≤ 12 ∧ n ≤ m
  · exact factors_yes A n c ls B m d ws w ha hb h.1 h.2.1 h.2.2 lb
  · exact factors_no A n c B m d w la lb h

end Go.Proofs.Ytheokjjkjigcfaa
