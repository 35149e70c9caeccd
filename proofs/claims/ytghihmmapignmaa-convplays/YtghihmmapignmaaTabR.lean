/- Contract of the law TabRuns itself, which the other laws call. -/
import Derived.Test.YtghihmmapignmaaTabG
import Derived.Test.YtghihmmapignmaaTabI
import Derived.WalkKit
import Derived.WalkSpells
import Derived.WalkLawsBesides
import Derived.Lib.Hide
import Derived.Lib.SlBytesConst
namespace Go.Proofs.Ytghihmmapignmaa
open Go.RowKit

theorem good_tb (i : Bool) : Good (tbL i) := ⟨len_tb i, by cases i <;> decide +kernel⟩
theorem good_asc : Good tbA := ⟨len_asc, by decide +kernel⟩
theorem good_lower : Good lower := ⟨len_lower, by decide +kernel⟩
theorem good_upper : Good upper := ⟨len_upper, by decide +kernel⟩

/-- Bytes of a constant string that were just written out. -/
theorem bytes_const (w : World) (arr : Array Value) (l : List Int) (t : TypeId) (fr : Nat × Nat) (s n : Nat) (hs : s = w.heap.size) (ha : arr = cs l) (hn : l.length = n) (hm : n ≤ maxLen) :
    Bytes (w.alloc (.cells arr t fr)) (some ⟨s, 0, none⟩) n n l := by
  subst hs hn ha
  refine ⟨rfl, Nat.le_refl _, hm, fun _ => ⟨_, _, rfl, by simp, fun k hk => ?_⟩⟩
  rw [Nat.zero_add, cell_of_row _ _ k (cs l) t fr (heap_alloc_new w _)]
  simp [cs, List.getD_eq_getElem?_getD, List.getElem?_eq_getElem hk]

theorem tbs_nil (w : World) : Tbs w none 0 [] := ⟨rfl, fun k hk => absurd hk (by omega), fun h => absurd h (by omega)⟩

end Go.Proofs.Ytghihmmapignmaa
