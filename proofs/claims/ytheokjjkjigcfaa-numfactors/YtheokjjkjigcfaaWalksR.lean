/- Contract of the law NumRuns itself, which the other laws call. -/
import Derived.Test.YtheokjjkjigcfaaRows
import Derived.Test.YtheokjjkjigcfaaWalksI
import Derived.WalkKit
import Derived.WalkSpells
import Derived.WalkLawsBesides
import Derived.Lib.Hide
namespace Go.Proofs.Ytheokjjkjigcfaa
open Go.RowKit

theorem get_at (s : ByteArray) (l : List UInt8) (o : Option Int) (w : World) (hl : s.data.toList = l) (ho : Plain.getS l = o) (hs : s.size ≤ 100000) :
    Calls Try.prog 9 #[.string s] w fun e w' => e = .returned (.tuple #[.int .i64 (Plain.intV o), .bool o.isSome]) ∧ Below w.heap.size w w' := by
  subst hl ho
  exact get_any s w hs
theorem getHex_at (s : ByteArray) (l : List UInt8) (o : Option Nat) (w : World) (hl : s.data.toList = l) (ho : Plain.getHexS l = o) (hs : s.size ≤ maxLen) :
    Calls Try.prog 10 #[.string s] w fun e w' => e = .returned (.tuple #[.int .i64 (Plain.natV o), .bool o.isSome]) ∧ w = w' := by
  subst hl ho
  exact getHex_any s w hs
theorem getDec_at (s : ByteArray) (l : List UInt8) (o : Option Nat) (w : World) (hl : s.data.toList = l) (ho : Plain.getDecS l = o) (hs : s.size ≤ maxLen) :
    Calls Try.prog 13 #[.string s] w fun e w' => e = .returned (.tuple #[.int .i64 (Plain.natV o), .bool o.isSome]) ∧ w = w' := by
  subst hl ho
  exact getDec_any s w hs

theorem runs1 : Plain.getS [50, 120, 51, 107] = some 6144 := by decide +kernel
theorem runs2 : Plain.getHexS [48, 120, 49, 102] = some 31 := by decide +kernel
theorem runs3 : Plain.bs (Plain.hexL 255) = ByteArray.mk #[48, 120, 48, 48, 48, 48, 48, 48, 70, 70] := by
  rw [show Plain.hexL 255 = [48, 120, 48, 48, 48, 48, 48, 48, 70, 70] by decide +kernel]; rfl
theorem runs4 : Plain.bs (Plain.decL (-7)) = ByteArray.mk #[45, 55] := by
  rw [show Plain.decL (-7) = [45, 55] by decide +kernel]; rfl

set_option maxHeartbeats 1000000 in
theorem runs_any (w : World) : Calls Try.prog 3 #[] w fun e w' => e = .returned (.bool true) ∧ Below w.heap.size w w' := by
  go_enter Try.func3, Try.ntmps3
  go_wp2_with fail
  refine (get_at _ [50, 120, 51, 107] (some 6144) _ rfl runs1 (by decide)).mono ?_
  rintro e w1 ⟨rfl, k1⟩
  rw [Option.isSome_some, show Plain.intV (some 6144) = 6144 from rfl]
  go_wp2_with fail
  refine (getHex_at _ [48, 120, 49, 102] (some 31) _ rfl runs2 (by decide)).mono ?_
  rintro e w2 ⟨rfl, rfl⟩
  rw [Option.isSome_some, show Plain.natV (some 31) = 31 from rfl]
  go_wp2_with fail
  refine (hex_any _ _ (by omega)).mono ?_
  rw [runs3]
  rintro e w2 ⟨rfl, k2⟩
  go_wp2_with fail
  refine (dec_any _ _ (by omega) (by omega)).mono ?_
  rw [runs4]
  rintro e w3 ⟨rfl, k3⟩
  go_wp2
  go_ret
  exact ⟨by first | rfl | decide, (k1.trans (k2.mono k1.size)).trans (k3.mono (Nat.le_trans k1.size k2.size))⟩

end Go.Proofs.Ytheokjjkjigcfaa
