/- Contract of the law RunsRuns itself, which the other laws call. -/
import Derived.Test.YtjmgdnkfhfbbiaaRows
import Derived.Test.YtjmgdnkfhfbbiaaWalksC
import Derived.WalkKit
import Derived.WalkSpells
import Derived.WalkLawsBesides
import Derived.Lib.Hide
namespace Go.Proofs.Ytjmgdnkfhfbbiaa
open Go.RowKit

theorem eql_run (w : World) (a b : Int) (x : Bool) (c d : Int) (y : Bool) : (binOp .eql 26 (.agg #[.int .i64 a, .int .i64 b, .bool x]) (.agg #[.int .i64 c, .int .i64 d, .bool y])).run Try.prog w = .ok (.bool (a == c && b == d && x == y)) w := by
  rw [run_eql_struct, run_equalIn_agg _ _ _ _ _ (by kernel_rfl) (by kernel_rfl)]
  by_cases h1 : a = c <;> by_cases h2 : b = d <;> by_cases h3 : x = y <;> simp [go_sem, Try.underlying26, h1, h2, h3]
theorem neq_run (w : World) (a b : Int) (x : Bool) (c d : Int) (y : Bool) : (binOp .neq 26 (.agg #[.int .i64 a, .int .i64 b, .bool x]) (.agg #[.int .i64 c, .int .i64 d, .bool y])).run Try.prog w = .ok (.bool (!(a == c && b == d && x == y))) w := by
  rw [run_neq_struct, run_equalIn_agg _ _ _ _ _ (by kernel_rfl) (by kernel_rfl)]
  by_cases h1 : a = c <;> by_cases h2 : b = d <;> by_cases h3 : x = y <;> simp [go_sem, Try.underlying26, h1, h2, h3]

theorem runs_any (A : Option Addr) (n c : Nat) (zs : List Int) (u : Int) (w : World) (h : Bytes w A n c zs) (hn : n ≤ 2000) (hu2 : u ≤ 9223372036854775807) :
    Calls Try.prog 8 #[.slice A n c, .int .i64 u] w (RunsPost u zs w) := by
  by_cases hu : u < 1
  · exact runs_no A n c zs u w hu
  · obtain ⟨U, rfl⟩ := Int.eq_ofNat_of_zero_le (show 0 ≤ u by omega)
    exact runs_yes A n c zs U w h hn (by omega) (by omega)
theorem runs_at (A : Option Addr) (n c : Nat) (zs : List Int) (u : Int) (xs : List Plain.Run) (w : World) (h : Bytes w A n c zs) (hn : n ≤ 2000) (hu2 : u ≤ 9223372036854775807) (hx : Plain.runsOf u zs = xs) :
    Calls Try.prog 8 #[.slice A n c, .int .i64 u] w fun e w' => ∃ v, e = .returned v ∧ w'.ownsRow w.heap.size 26 3 v xs.length (Plain.runCells xs) ∧ Below w.heap.size w w' := by
  subst hx
  exact runs_any A n c zs u w h hn hu2

/-- A slice of runs that reads as a list. -/
def RunsAt (w : World) (A : Option Addr) (n : Nat) (xs : List Plain.Run) : Prop :=
  xs.length = n ∧ (0 < n → ∃ b, A = some ⟨b, 0, none⟩ ∧ b < w.heap.size ∧ ∀ k, k < n → w.cell? ⟨b, k * 3, none⟩ = some (.int .i64 (xs.getD k default).p) ∧ w.cell? ⟨b, k * 3 + 1, none⟩ = some (.int .i64 (xs.getD k default).l) ∧ w.cell? ⟨b, k * 3 + 2, none⟩ = some (.bool (xs.getD k default).z))
theorem RunsAt.on {w w' : World} {A : Option Addr} {n : Nat} {xs : List Plain.Run} (h : RunsAt w A n xs) (k : Below w.heap.size w w') : RunsAt w' A n xs := by
  refine ⟨h.1, fun hn => ?_⟩
  obtain ⟨b, rfl, hb, hc⟩ := h.2 hn
  exact ⟨b, rfl, Nat.lt_of_lt_of_le hb k.size, fun j hj => ⟨(k.cell (p := ⟨b, j * 3, none⟩) hb).trans (hc j hj).1, (k.cell (p := ⟨b, j * 3 + 1, none⟩) hb).trans (hc j hj).2.1, (k.cell (p := ⟨b, j * 3 + 2, none⟩) hb).trans (hc j hj).2.2⟩⟩
theorem own_runs {w : World} {base : Nat} {v : Value} {xs : List Plain.Run} (h : w.ownsRow base 26 3 v xs.length (Plain.runCells xs)) :
    ∃ A c, v = .slice A xs.length c ∧ RunsAt w A xs.length xs := by
  have h2 := h
  have h3 := h.lt
  rcases h.2 with ⟨rfl, h0⟩ | ⟨g, cap, cur, rfl, _⟩
  · exact ⟨none, 0, by rw [h0], ⟨rfl, fun hp => absurd hp (by omega)⟩⟩
  · refine ⟨_, cap, rfl, ⟨rfl, fun _ => ⟨g, rfl, (h3 g rfl).2, fun k hk => ?_⟩⟩⟩
    obtain ⟨p0, p1, p2⟩ := Plain.runCells_at xs k hk
    exact ⟨(h2.cellAt _ (by omega)).trans p0, (h2.cellAt _ (by omega)).trans p1, (h2.cellAt _ (by omega)).trans p2⟩

/-- Bytes that were just written out. -/
theorem bytes_new (w : World) (arr : Array Value) (cs : List Int) (t : TypeId) (s n : Nat) (hs : s = w.heap.size) (ha : arr.toList = cs.map (Value.int .u8)) (hn : cs.length = n) (hm : n ≤ maxLen) :
    Bytes (w.alloc (.cells arr t)) (some ⟨s, 0, none⟩) n n cs := by
  subst hs hn
  refine ⟨rfl, Nat.le_refl _, hm, fun _ => ⟨_, _, rfl, by simp, fun k hk => ?_⟩⟩
  have hb := World.news_of_block (w := w.alloc (.cells arr t)) (heap_alloc_new w (.cells arr t)) k (.int .u8 (cs.getD k 0)) (by rw [ha, List.getElem?_map, List.getD_eq_getElem?_getD, List.getElem?_eq_getElem hk]; rfl)
  by_cases h0 : k = 0
  · subst h0; simpa [Addr.add] using hb
  · simpa [Addr.add, h0] using hb

theorem runs3 : Plain.runsOf 2 [0, 0, 1, 0, 0, 0, 0] = [⟨0, 2, true⟩, ⟨2, 2, false⟩, ⟨4, 3, true⟩] := by decide +kernel

set_option maxHeartbeats 1000000 in
theorem law_runs (w : World) : Calls Try.prog 3 #[] w fun e w' => e = .returned (.bool true) ∧ Below w.heap.size w w' := by
  have he := eql_run
  go_enter Try.func3, Try.ntmps3
  go_wp2_with fail
  refine (runs_at _ _ _ [0, 0, 1, 0, 0, 0, 0] _ [⟨0, 2, true⟩, ⟨2, 2, false⟩, ⟨4, 3, true⟩] _ (bytes_new _ _ _ _ _ _ (by simp) rfl rfl (by decide)) (by decide) (by decide) runs3).mono ?_
  rintro e w1 ⟨v, rfl, o1, k1⟩
  obtain ⟨A, c, rfl, h1⟩ := own_runs o1
  have K1 := Lib.hid (show Below w.heap.size w w1 from ((Below.refl w.heap.size w).alloc (Nat.le_refl _) _).trans (k1.mono (by simp)))
  clear k1 o1
  obtain ⟨b, rfl, hb, hc⟩ := h1.2 (by decide)
  obtain ⟨d0, d1, d2⟩ := hc 0 (by decide)
  obtain ⟨d3, d4, d5⟩ := hc 1 (by decide)
  obtain ⟨d6, d7, d8⟩ := hc 2 (by decide)
  simp at d0 d1 d2 d3 d4 d5 d6 d7 d8
  clear hc h1
  rw [show ([⟨0, 2, true⟩, ⟨2, 2, false⟩, ⟨4, 3, true⟩] : List Plain.Run).length = 3 from rfl]
  go_wp2_with fail
  refine (zero_any none 0 0 [] _ (by omega) ⟨rfl, fun h => absurd h (by omega), fun k h => absurd h (by omega)⟩).mono ?_
  rw [show allZeros [] = true from rfl]
  rintro e w2 ⟨rfl, rfl⟩
  go_wp2_with fail
  refine (lead_any _ _ _ [0, 1] _ (bytes_new _ _ _ _ _ _ (by simp) rfl rfl (by decide))).mono ?_
  rw [show Plain.lead [0, 1] = 1 from rfl]
  rintro e w3 ⟨rfl, rfl⟩
  go_wp2_with fail
  refine (trail_any _ _ _ [0, 1] _ (bytes_new _ _ _ _ _ _ (by simp) rfl rfl (by decide))).mono ?_
  rw [show Plain.trail [0, 1] = 0 from rfl]
  rintro e w4 ⟨rfl, rfl⟩
  go_wp2
  go_ret
  exact ⟨by first | rfl | decide | simp, (K1.out.alloc K1.out.size _).alloc (by have := K1.out.size; simp; omega) _⟩

end Go.Proofs.Ytjmgdnkfhfbbiaa
