/- Contract of named: the rows as they lie in memory. -/
import Derived.Test.YtghihmmapignmaaTabC
import Derived.WalkKit
import Derived.WalkSpells
import Derived.WalkLawsBesides
import Derived.Lib.Hide
import Derived.Great.Walk
namespace Go.Proofs.Ytghihmmapignmaa
open Go.RowKit

def rowsC (L : List (Nat × Nat × Nat)) : Array Value := (L.flatMap fun r => [.int .u8 r.1, .int .u8 r.2.1, .int .i64 r.2.2]).toArray

def NamedPost (c t : Nat) (w : World) (e : Ending) (w' : World) : Prop := ∃ b, e = .returned (.slice (some ⟨b, 0, none⟩) 44 44) ∧ Row w' b 87 (rowsC (rowsOf c t)) ∧ w.heap.size ≤ b ∧ Below w.heap.size w w'

set_option maxRecDepth 100000 in
set_option maxHeartbeats 4000000 in
theorem named_any (c t : Nat) (w : World) : Calls Try.prog 72 #[.int .u8 c, .int .u8 t] w (NamedPost c t w) := by
  go_enter Try.func72, Try.ntmps72
  go_wp2_with (refine Great.wpList_buildSliceTo rfl 89 87 44 _ rfl w.heap.size rfl _ rfl Try.underlying89 (rowsC (rowsOf c t)) (by kernel_rfl) ?_)
  go_ret
  exact ⟨_, rfl, row_new _ _ _, Nat.le_refl _, (Below.refl _ _).alloc (Nat.le_refl _) _⟩

end Go.Proofs.Ytghihmmapignmaa
