/- Contract of the statements' own 'same', at two rows with the same spans. -/
import Derived.Test.YtamignakfliocaaRows
import Derived.Test.YtamignakfliocaaPlainP
import Derived.Test.YtamignakfliocaaWalksP
import Derived.WalkKit
import Derived.WalkSpells
import Derived.WalkLawsBesides
import Derived.Lib.Hide
import Derived.Deep.QuietTactic
import Derived.BigQuiet
namespace Go.Proofs.Ytamignakfliocaa
open Go.RowKit

theorem neq_span (w : World) (a b c d : Int) : (binOp .neq 27 (.agg #[.int .i64 a, .int .i64 b]) (.agg #[.int .i64 c, .int .i64 d])).run Try.prog w = .ok (.bool (!(a == c && b == d))) w := by
  rw [run_neq_struct, run_equalIn_agg _ _ _ _ _ (by kernel_rfl) (by kernel_rfl)]
  by_cases h1 : a = c <;> by_cases h2 : b = d <;> simp [go_sem, Try.underlying27, h1, h2]

/-- A slice of spans that reads as a list. -/
def Spans (w : World) (A : Option Addr) (n : Nat) (xs : List (Int × Int)) : Prop :=
  xs.length = n ∧ (0 < n → ∃ b, A = some ⟨b, 0, none⟩ ∧ ∀ k, k < n → w.cell? ⟨b, k * 2, none⟩ = some (.int .i64 (xs.getD k (0, 0)).1) ∧ w.cell? ⟨b, k * 2 + 1, none⟩ = some (.int .i64 (xs.getD k (0, 0)).2))

theorem own_spans {w : World} {base : Nat} {e : TypeId} {v : Value} {xs : List (Int × Int)} (h : w.ownsRow base e 2 v xs.length (Plain.spanCells xs)) :
    ∃ A c, v = .slice A xs.length c ∧ Spans w A xs.length xs ∧ ∀ b o, A = some ⟨b, o, none⟩ → base ≤ b ∧ b < w.heap.size := by
  have h2 := h
  have h3 := h.lt
  rcases h.2 with ⟨rfl, h0⟩ | ⟨g, cap, cur, rfl, _⟩
  · exact ⟨none, 0, by rw [h0], ⟨rfl, fun hp => absurd hp (by omega)⟩, fun b o hb => by cases hb⟩
  · have hc := h2.cells (g := g) rfl
    refine ⟨_, cap, rfl, ⟨rfl, fun _ => ⟨g, rfl, fun k hk => ?_⟩⟩, fun b o hb => by
      injection hb with hb
      injection hb with hb _
      subst hb
      exact h3 _ rfl⟩
    obtain ⟨p0, p1⟩ := Plain.spanCells_at xs k hk
    have q0 := hc _ _ p0
    have q1 := hc _ _ p1
    by_cases hk0 : k = 0
    · subst hk0
      exact ⟨by simpa [Addr.add] using q0, by simpa [Addr.add] using q1⟩
    · have hk2 : ¬ k * 2 = 0 := by omega
      exact ⟨by simpa [Addr.add, hk2] using q0, by simpa [Addr.add] using q1⟩

set_option maxHeartbeats 1000000 in
theorem same_any (A B : Option Addr) (n c d : Nat) (xs : List (Int × Int)) (w : World) (hn : n ≤ 4096) (ha : Spans w A n xs) (hb : Spans w B n xs) :
    Calls Try.prog 28 #[.slice A n c, .slice B n d] w fun e w' => e = .returned (.bool true) ∧ ∃ m, w' = w.drewN m := by
  have HA := Lib.hid ha.2
  have HB := Lib.hid hb.2
  clear ha hb
  have hq := neq_span
  go_enter Try.func28, Try.ntmps28
  go_wp2
  go_loopw [5] (fun i wr => ∃ (k : Nat), k ≤ n ∧ i = .int .i64 k ∧ Hid (∃ m, wr = w.drewN m)) (fun i _ => n - (intOf i).toNat)
  case atStart => exact ⟨0, Nat.zero_le _, rfl, 0, rfl⟩
  case round =>
    obtain ⟨k, hk, rfl, HM⟩ := hrel
    by_cases hlt : k < n
    · obtain ⟨b, rfl, hc⟩ := HA.out (by omega)
      obtain ⟨b', rfl, hc'⟩ := HB.out (by omega)
      obtain ⟨m, hm⟩ := HM.out
      have e0 : wr.cell? ⟨b, k * 2, none⟩ = some (.int .i64 (xs.getD k (0, 0)).1) := by rw [hm]; exact (hc k hlt).1
      have e1 : wr.cell? ⟨b, k * 2 + 1, none⟩ = some (.int .i64 (xs.getD k (0, 0)).2) := by rw [hm]; exact (hc k hlt).2
      have e2 : wr.cell? ⟨b', k * 2, none⟩ = some (.int .i64 (xs.getD k (0, 0)).1) := by rw [hm]; exact (hc' k hlt).1
      have e3 : wr.cell? ⟨b', k * 2 + 1, none⟩ = some (.int .i64 (xs.getD k (0, 0)).2) := by rw [hm]; exact (hc' k hlt).2
      clear hc hc' hm m
      generalize (xs.getD k (0, 0)).1 = x at *
      generalize (xs.getD k (0, 0)).2 = y at *
      go_wp2
      go_quiet (fail)
      go_wp2
      go_roundw
      case rel => exact ⟨k + 1, by omega, by go_num, by obtain ⟨m, hm⟩ := HM.out; exact ⟨m + nq, by rw [hm, World.drewN_drewN]⟩⟩
      case measure => simp [intOf]; omega
    · go_wp2
      go_ret
      exact ⟨rfl, HM.out⟩

end Go.Proofs.Ytamignakfliocaa
