/- Contract of num.write. -/
import Derived.Test.YtheokjjkjigcfaaRows
import Derived.Test.YtheokjjkjigcfaaWalksG
import Derived.WalkKit
import Derived.WalkSpells
import Derived.WalkLawsBesides
import Derived.Lib.Hide
import Derived.Laws.BytesArg
namespace Go.Proofs.Ytheokjjkjigcfaa
open Go.RowKit

/-- The array: its last cells hold acc. -/
structure Room (w : World) (b : Nat) (acc : List UInt8) : Prop where
  lt : b < w.heap.size
  cell : ∀ j, j < 20 → ∃ x : Int, w.cell? ⟨b, j, none⟩ = some (.int .u8 x)
  free : ∀ j, j < 20 → w.frozen? ⟨b, j, none⟩ = false
  held : ∀ j, j < acc.length → w.cell? ⟨b, 20 - acc.length + j, none⟩ = some (.int .u8 ((acc.getD j 0).toNat : Int))

theorem Room.new (w : World) (cs : Array Value) (t : TypeId) (hc : ∀ j, j < 20 → ∃ x : Int, cs[j]? = some (.int .u8 x)) : Room (w.alloc (.cells cs t)) w.heap.size [] := by
  refine ⟨by simp, fun j hj => ?_, fun j _ => frozen_of_row _ _ _ cs t (heap_alloc_new w _), fun j hj => absurd hj (by simp)⟩
  obtain ⟨x, hx⟩ := hc j hj
  exact ⟨x, (cell_of_row _ _ _ cs t (0, 0) (heap_alloc_new w _)).trans hx⟩
theorem Room.put {w : World} {b : Nat} {acc : List UInt8} (h : Room w b acc) (hl : acc.length < 20) (c : UInt8) : Room (w.setCell ⟨b, 19 - acc.length, none⟩ (.int .u8 (c.toNat : Int))) b (c :: acc) := by
  have hfr := h.free (19 - acc.length) (by omega)
  obtain ⟨x0, hx0⟩ := h.cell (19 - acc.length) (by omega)
  refine ⟨by have := h.lt; simpa using this, fun j hj => ?_, fun j hj => ?_, fun j hj => ?_⟩
  · by_cases he : j = 19 - acc.length
    · subst he
      exact ⟨_, World.cell?_setCell_same _ _ _ hx0⟩
    · obtain ⟨x, hx⟩ := h.cell j hj
      exact ⟨x, by rw [World.cell?_setCell_other _ _ _ _ (by intro h2; injection h2 with _ h3; exact he h3.symm)]; exact hx⟩
  · simpa using h.free j hj
  · simp only [List.length_cons] at hj ⊢
    match j, hj with
    | 0, _ =>
      rw [show 20 - (acc.length + 1) + 0 = 19 - acc.length by omega]
      exact World.cell?_setCell_same _ _ _ hx0
    | j + 1, hj =>
      rw [World.cell?_setCell_other _ _ _ _ (by intro h2; injection h2 with _ h3; omega)]
      have := h.held j (by omega)
      rw [show 20 - (acc.length + 1) + (j + 1) = 20 - acc.length + j by omega]
      simpa using this

theorem twenty : ∀ j, j < 20 → ∃ x : Int, (#[Value.int .u8 0, .int .u8 0, .int .u8 0, .int .u8 0, .int .u8 0, .int .u8 0, .int .u8 0, .int .u8 0, .int .u8 0, .int .u8 0, .int .u8 0, .int .u8 0, .int .u8 0, .int .u8 0, .int .u8 0, .int .u8 0, .int .u8 0, .int .u8 0, .int .u8 0, .int .u8 0] : Array Value)[j]? = some (.int .u8 x) := by
  intro j hj
  refine ⟨0, ?_⟩
  match j, hj with
  | 0, _ | 1, _ | 2, _ | 3, _ | 4, _ | 5, _ | 6, _ | 7, _ | 8, _ | 9, _ | 10, _ | 11, _ | 12, _ | 13, _ | 14, _ | 15, _ | 16, _ | 17, _ | 18, _ | 19, _ => rfl
  | j + 20, h => omega
theorem len48 : Try.prog.arrayLen 48 = 20 := by kernel_rfl
theorem arr48 : Try.prog.underlying 48 = some (.array (Try.prog.arrayLen 48) (Try.prog.elem 48)) := by kernel_rfl
theorem size48 (w : World) : (sizeOf (Try.prog.elem 48)).run Try.prog w = .ok 1 w := by kernel_rfl
theorem slice_room (w : World) (b f : Nat) (hf : f < 20) : (Instr.sliceAt 48 (.pointer (some ⟨b, 0, none⟩)) (some (.int .i64 (f : Int))) none none).run Try.prog w = .ok (.slice (some ⟨b, f, none⟩) (20 - f) (20 - f)) w := by
  rw [run_sliceAt_array_l w 48 _ arr48 .i64 (f : Int) (by omega) (by rw [len48]; omega), size48, len48]
  have h1 : ¬ 20 = f := by omega
  by_cases h0 : f = 0
  · subst h0; simp [Result.andThen, slicedAt, Addr.add]
  · simp [Result.andThen, slicedAt, Addr.add, h1, h0]
theorem Room.text {w : World} {b : Nat} {acc : List UInt8} (h : Room w b acc) (f : Nat) (hf : acc.length + f = 20) : (convert 29 9 (.slice (some ⟨b, f, none⟩) (20 - f) (20 - f))).run Try.prog w = .ok (.string (Plain.bs acc)) w := by
  have h1 := run_convert_bytes_arg (P := Try.prog) w 29 5 Try.underlying29 Try.underlying5 b f (20 - f) (20 - f) (acc.map fun c => (c.toNat : Int)) (by simp; omega) (fun i hi => by
    have h2 := h.held i (by omega)
    rw [show 20 - acc.length + i = f + i by omega] at h2
    rw [h2]
    have hi' : i < acc.length := by omega
    simp [List.getD_eq_getElem?_getD, hi']) 9 Try.underlying9
  rw [h1]
  congr 2
  simp only [strOfNums, Plain.bs, List.map_map]
  congr 2
  conv => rhs; rw [← List.map_id acc]
  apply List.map_congr_left
  intro x _
  simp
theorem ret_str {a b : List UInt8} (h : a = b) : Ending.returned (.string (Plain.bs b)) = .returned (.string (Plain.bs a)) := by rw [h]

theorem figs (d : Nat) (h : d < (ByteArray.mk #[48, 49, 50, 51, 52, 53, 54, 55, 56, 57, 65, 66, 67, 68, 69, 70]).size) : (ByteArray.mk #[48, 49, 50, 51, 52, 53, 54, 55, 56, 57, 65, 66, 67, 68, 69, 70])[d] = Plain.fig d := by
  match d, h with
  | 0, _ | 1, _ | 2, _ | 3, _ | 4, _ | 5, _ | 6, _ | 7, _ | 8, _ | 9, _ | 10, _ | 11, _ | 12, _ | 13, _ | 14, _ | 15, _ => rfl
  | d + 16, h => exact absurd h (by simp [ByteArray.size])

set_option maxHeartbeats 2000000 in
theorem write_any (n base least : Nat) (w : World) (hb : 2 ≤ base) (hb2 : base ≤ 16) (hl0 : 1 ≤ least) (hl : least ≤ 20) (hn : n ≤ 18446744073709551615) (hn2 : n < base ^ 20) :
    Calls Try.prog 24 #[.int .u64 (n : Int), .int .u64 (base : Int), .int .i64 (least : Int)] w fun e w' => e = .returned (.string (Plain.bs (Plain.digits base least n))) ∧ Below w.heap.size w w' := by
  have HN := Lib.hid hn2; clear hn2
  go_enter Try.func24, Try.ntmps24
  go_wp2
  go_loopw [0, 8] (fun nn i wr => ∃ (f u : Nat) (acc : List UInt8), f ≤ 20 ∧ i = .int .i64 f ∧ nn = .int .u64 u ∧ acc.length + f = 20 ∧ u ≤ 18446744073709551615 ∧ Hid (u < base ^ f) ∧ Hid (Room wr w.heap.size acc) ∧ Below w.heap.size w wr ∧ Hid (Plain.digits base least n = Plain.wr base least f u acc)) (fun _ i _ => (intOf i).toNat)
  case atStart => exact ⟨20, n, [], Nat.le_refl _, rfl, rfl, rfl, hn, HN, Room.new _ _ _ twenty, (Below.refl _ _).alloc (Nat.le_refl _) _, rfl⟩
  case round =>
    obtain ⟨f, u, acc, hf, rfl, rfl, hacc, hu, HU, RM, hbel, HE⟩ := hrel
    by_cases hgo : 0 < u ∨ acc.length < least
    · have hf1 : 1 ≤ f := by
        rcases hgo with h | h
        · have := HU.out
          rcases Nat.eq_zero_or_pos f with h0 | h0
          · rw [h0] at this; simp at this; omega
          · exact h0
        · omega
      obtain ⟨g, rfl⟩ : ∃ g, f = g + 1 := ⟨f - 1, by omega⟩
      obtain ⟨x0, hx0⟩ := RM.out.cell g (by omega)
      have hfr := RM.out.free g (by omega)
      obtain ⟨q, hq⟩ : ∃ q, u / base = q := ⟨_, rfl⟩
      obtain ⟨d, hd⟩ : ∃ d, u % base = d := ⟨_, rfl⟩
      have hdb : d < 16 := by rw [← hd]; have := Nat.mod_lt u (show 0 < base by omega); omega
      have hqu : q ≤ u := by rw [← hq]; exact Nat.div_le_self _ _
      have hqi : (u : Int) / (base : Int) = (q : Int) := by rw [← hq]; simp
      have hdi : (u : Int) % (base : Int) = (d : Int) := by rw [← hd]; simp
      have hdz : d < (ByteArray.mk #[48, 49, 50, 51, 52, 53, 54, 55, 56, 57, 65, 66, 67, 68, 69, 70]).size := by simpa [ByteArray.size] using hdb
      have X : Hid (Room (wr.setCell ⟨w.heap.size, g, none⟩ (.int .u8 (((ByteArray.mk #[48, 49, 50, 51, 52, 53, 54, 55, 56, 57, 65, 66, 67, 68, 69, 70])[d]'hdz).toNat : Int))) w.heap.size (Plain.fig d :: acc)) := by
        have h1 := RM.out.put (show acc.length < 20 by omega) (Plain.fig d)
        rw [show 19 - acc.length = g by omega] at h1
        rw [figs d hdz]
        exact h1
      have Y : Hid (Plain.digits base least n = Plain.wr base least g q (Plain.fig d :: acc)) := by
        unfold Hid
        rw [HE.out, Plain.wr_yes _ _ _ _ _ hgo, hq, hd]
      have Z : Hid (q < base ^ g) := by
        unfold Hid
        rw [← hq, Nat.div_lt_iff_lt_mul (by omega)]
        have := HU.out
        rwa [Nat.pow_succ] at this
      clear hq hd
      by_cases h0 : 0 < u
      · clear hgo
        go_wp2
        go_roundw
        case rel => exact ⟨g, q, Plain.fig d :: acc, by omega, by go_num, by go_num, by simp; omega, by omega, Z, X, hbel.setCell (Nat.le_refl _) _, Y⟩
        case measure => simp [intOf]
      · have hlt : acc.length < least := by omega
        clear hgo
        go_wp2
        go_roundw
        case rel => exact ⟨g, q, Plain.fig d :: acc, by omega, by go_num, by go_num, by simp; omega, by omega, Z, X, hbel.setCell (Nat.le_refl _) _, Y⟩
        case measure => simp [intOf]
    · have h0 : ¬ 0 < u := fun h => hgo (.inl h)
      have h1 : ¬ acc.length < least := fun h => hgo (.inr h)
      have HV := Lib.hid (HE.out.trans (Plain.wr_no _ _ _ _ _ hgo))
      have hsl := slice_room wr w.heap.size f (by omega)
      have htx := RM.out.text f hacc
      clear hgo
      go_wp2
      go_ret
      exact ⟨ret_str HV.out, hbel⟩

end Go.Proofs.Ytheokjjkjigcfaa
