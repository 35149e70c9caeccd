/- Contract of the statements' own 'same', at two rows with the same runs. -/
import Derived.Test.YtjmgdnkfhfbbiaaRows
import Derived.Test.YtjmgdnkfhfbbiaaWalksD
import Derived.WalkKit
import Derived.WalkSpells
import Derived.WalkLawsBesides
import Derived.Lib.Hide
import Derived.Deep.QuietTactic
import Derived.BigQuiet
namespace Go.Proofs.Ytjmgdnkfhfbbiaa
open Go.RowKit

set_option maxHeartbeats 1000000 in
theorem same_any (A B : Option Addr) (n c d : Nat) (xs : List Plain.Run) (w : World) (hn : n ≤ 4096) (ha : RunsAt w A n xs) (hb : RunsAt w B n xs) :
    Calls Try.prog 12 #[.slice A n c, .slice B n d] w fun e w' => e = .returned (.bool true) ∧ ∃ m, w' = w.drewN m := by
  have HA := Lib.hid ha.2
  have HB := Lib.hid hb.2
  clear ha hb
  have hq := neq_run
  go_enter Try.func12, Try.ntmps12
  go_wp2
  go_loopw [5] (fun i wr => ∃ (k : Nat), k ≤ n ∧ i = .int .i64 k ∧ Hid (∃ m, wr = w.drewN m)) (fun i _ => n - (intOf i).toNat)
  case atStart => exact ⟨0, Nat.zero_le _, rfl, 0, rfl⟩
  case round =>
    obtain ⟨k, hk, rfl, HM⟩ := hrel
    by_cases hlt : k < n
    · obtain ⟨b, rfl, _, hc⟩ := HA.out (by omega)
      obtain ⟨b', rfl, _, hc'⟩ := HB.out (by omega)
      obtain ⟨m, hm⟩ := HM.out
      have e0 : wr.cell? ⟨b, k * 3, none⟩ = some (.int .i64 (xs.getD k default).p) := by rw [hm]; exact (hc k hlt).1
      have e1 : wr.cell? ⟨b, k * 3 + 1, none⟩ = some (.int .i64 (xs.getD k default).l) := by rw [hm]; exact (hc k hlt).2.1
      have e2 : wr.cell? ⟨b, k * 3 + 2, none⟩ = some (.bool (xs.getD k default).z) := by rw [hm]; exact (hc k hlt).2.2
      have e3 : wr.cell? ⟨b', k * 3, none⟩ = some (.int .i64 (xs.getD k default).p) := by rw [hm]; exact (hc' k hlt).1
      have e4 : wr.cell? ⟨b', k * 3 + 1, none⟩ = some (.int .i64 (xs.getD k default).l) := by rw [hm]; exact (hc' k hlt).2.1
      have e5 : wr.cell? ⟨b', k * 3 + 2, none⟩ = some (.bool (xs.getD k default).z) := by rw [hm]; exact (hc' k hlt).2.2
      clear hc hc' hm m
      generalize (xs.getD k default).p = x at *
      generalize (xs.getD k default).l = y at *
      generalize (xs.getD k default).z = z at *
      go_wp2
      go_quiet (fail)
      go_wp2
      go_roundw
      case rel => exact ⟨k + 1, by omega, by go_num, by obtain ⟨m, hm⟩ := HM.out; exact ⟨m + nq, by rw [hm, World.drewN_drewN]⟩⟩
      case measure => simp [intOf]; omega
    · go_wp2
      go_ret
      exact ⟨rfl, HM.out⟩

end Go.Proofs.Ytjmgdnkfhfbbiaa
