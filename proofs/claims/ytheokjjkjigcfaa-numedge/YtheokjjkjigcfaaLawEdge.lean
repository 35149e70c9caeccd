/- The walk of the law NumEdge. -/
import Derived.Test.YtheokjjkjigcfaaRead
import Derived.Test.YtheokjjkjigcfaaWalksR
import Derived.WalkKit
import Derived.WalkSpells
import Derived.WalkLawsBesides
import Derived.Lib.Hide
namespace Go.Proofs.Ytheokjjkjigcfaa
open Go.RowKit

def yesL : List (List UInt8) := [[52, 54, 49, 49, 54, 56, 54, 48, 49, 56, 52, 50, 55, 51, 56, 55, 57, 48, 52], [52, 50, 57, 52, 57, 54, 55, 50, 57, 54, 71], [48], [48, 48, 120, 49], [52, 49, 57, 52, 51, 48, 52, 120, 49, 48, 50, 52, 120, 49, 48, 50, 52, 120, 49, 48, 50, 52, 120, 49, 48, 50, 52], [48, 48, 48, 48, 48, 48, 48, 48, 48, 48, 48, 48, 48, 48, 48, 48, 48, 48, 49]]
def noL : List (List UInt8) := [[52, 54, 49, 49, 54, 56, 54, 48, 49, 56, 52, 50, 55, 51, 56, 55, 57, 48, 53], [52, 50, 57, 52, 57, 54, 55, 50, 57, 55, 71], [], [120], [49, 120], [120, 49], [57, 57, 57, 57, 57, 57, 57, 57, 57, 57, 57, 57, 57, 57, 57, 57, 57, 57, 57], [48, 48, 48, 48, 48, 48, 48, 48, 48, 48, 48, 48, 48, 48, 48, 48, 48, 48, 48, 49], [49, 107, 98], [49, 32], [45, 49], [43, 49], [49, 66], [49, 107, 75], [48, 120, 52, 54, 49, 49, 54, 56, 54, 48, 49, 56, 52, 50, 55, 51, 56, 55, 57, 48, 53], [48, 120, 57, 57, 57, 57, 57, 57, 57, 57, 57, 57, 71, 57]]
def yesC : Array Value := #[.string ⟨#[52, 54, 49, 49, 54, 56, 54, 48, 49, 56, 52, 50, 55, 51, 56, 55, 57, 48, 52]⟩, .string ⟨#[52, 50, 57, 52, 57, 54, 55, 50, 57, 54, 71]⟩, .string ⟨#[48]⟩, .string ⟨#[48, 48, 120, 49]⟩, .string ⟨#[52, 49, 57, 52, 51, 48, 52, 120, 49, 48, 50, 52, 120, 49, 48, 50, 52, 120, 49, 48, 50, 52, 120, 49, 48, 50, 52]⟩, .string ⟨#[48, 48, 48, 48, 48, 48, 48, 48, 48, 48, 48, 48, 48, 48, 48, 48, 48, 48, 49]⟩]
def noC : Array Value := #[.string ⟨#[52, 54, 49, 49, 54, 56, 54, 48, 49, 56, 52, 50, 55, 51, 56, 55, 57, 48, 53]⟩, .string ⟨#[52, 50, 57, 52, 57, 54, 55, 50, 57, 55, 71]⟩, .string ⟨#[]⟩, .string ⟨#[120]⟩, .string ⟨#[49, 120]⟩, .string ⟨#[120, 49]⟩, .string ⟨#[57, 57, 57, 57, 57, 57, 57, 57, 57, 57, 57, 57, 57, 57, 57, 57, 57, 57, 57]⟩, .string ⟨#[48, 48, 48, 48, 48, 48, 48, 48, 48, 48, 48, 48, 48, 48, 48, 48, 48, 48, 48, 49]⟩, .string ⟨#[49, 107, 98]⟩, .string ⟨#[49, 32]⟩, .string ⟨#[45, 49]⟩, .string ⟨#[43, 49]⟩, .string ⟨#[49, 66]⟩, .string ⟨#[49, 107, 75]⟩, .string ⟨#[48, 120, 52, 54, 49, 49, 54, 56, 54, 48, 49, 56, 52, 50, 55, 51, 56, 55, 57, 48, 53]⟩, .string ⟨#[48, 120, 57, 57, 57, 57, 57, 57, 57, 57, 57, 57, 71, 57]⟩]
theorem yes_ok : ∀ k, k < 6 → (Plain.getS (yesL.getD k [])).isSome = true := by decide +kernel
theorem no_ok : ∀ k, k < 16 → (Plain.getS (noL.getD k [])).isSome = false := by decide +kernel
theorem yes_len : ∀ k, k < 6 → (yesL.getD k []).length ≤ 100 := by decide +kernel
theorem no_len : ∀ k, k < 16 → (noL.getD k []).length ≤ 100 := by decide +kernel
theorem yes_cell : ∀ k, k < 6 → yesC[k]? = some (.string (Plain.bs (yesL.getD k []))) := by
  intro k hk
  match k, hk with
  | 0, _ | 1, _ | 2, _ | 3, _ | 4, _ | 5, _ => rfl
  | k + 6, h => omega
theorem no_cell : ∀ k, k < 16 → noC[k]? = some (.string (Plain.bs (noL.getD k []))) := by
  intro k hk
  match k, hk with
  | 0, _ | 1, _ | 2, _ | 3, _ | 4, _ | 5, _ | 6, _ | 7, _ | 8, _ | 9, _ | 10, _ | 11, _ | 12, _ | 13, _ | 14, _ | 15, _ => rfl
  | k + 16, h => omega
def edgeW (w : World) : World := (w.alloc (.cells yesC 9)).alloc (.cells noC 9)
theorem edge_yes (w : World) (k : Nat) (hk : k < 6) : (edgeW w).cell? ⟨w.heap.size, k, none⟩ = some (.string (Plain.bs (yesL.getD k []))) := by
  unfold edgeW
  rw [World.cell?_alloc_lt _ _ _ (by simp), World.cell?_alloc_new]
  exact yes_cell k hk
theorem edge_no (w : World) (k : Nat) (hk : k < 16) : (edgeW w).cell? ⟨w.heap.size + 1, k, none⟩ = some (.string (Plain.bs (noL.getD k []))) := by
  unfold edgeW
  have h := World.cell?_alloc_new (w.alloc (.cells yesC 9)) noC 9 k
  rw [show (w.alloc (.cells yesC 9)).heap.size = w.heap.size + 1 by simp] at h
  rw [h]
  exact no_cell k hk
theorem edge_below (w : World) : Below w.heap.size w (edgeW w) := ((Below.refl _ _).alloc (Nat.le_refl _) _).alloc (by simp) _
theorem edge_size (w : World) : (edgeW w).heap.size = w.heap.size + 2 := by simp [edgeW]

theorem hex1 : Plain.getHexS [48, 120, 52, 48, 48, 48, 48, 48, 48, 48, 48, 48, 48, 48, 48, 48, 48, 48] = some 4611686018427387904 := by decide +kernel
theorem hex2 : Plain.getHexS [48, 120, 52, 48, 48, 48, 48, 48, 48, 48, 48, 48, 48, 48, 48, 48, 48, 49] = none := by decide +kernel
theorem hex3 : Plain.getHexS [48, 120, 48, 48, 48, 48, 48, 48, 48, 48, 48, 48, 48, 48, 48, 48, 48, 48, 49] = none := by decide +kernel
theorem hex4 : Plain.getHexS [48, 120] = none := by decide +kernel

set_option maxRecDepth 100000 in
set_option maxHeartbeats 4000000 in
theorem edge_walk (w : World) : Calls Try.prog 8 #[] w fun e w' => e = .returned (.bool true) ∧ Below w.heap.size w w' := by
  go_enter Try.func8, Try.ntmps8
  go_wp2
  go_loopw [3] (fun i wr => ∃ (k : Nat), k ≤ 6 ∧ i = .int .i64 k ∧ Below (w.heap.size + 2) (edgeW w) wr) (fun i _ => 6 - (intOf i).toNat)
  case atStart => exact ⟨0, Nat.zero_le _, rfl, Below.refl _ _⟩
  case round =>
    obtain ⟨k, hk, rfl, hb⟩ := hrel
    have hsz := hb.size
    rw [edge_size] at hsz
    by_cases hlt : k < 6
    · have hc : wr.cell? ⟨w.heap.size, k, none⟩ = some (.string (Plain.bs (yesL.getD k []))) := (hb.cell (p := ⟨w.heap.size, k, none⟩) (by simp)).trans (edge_yes w k hlt)
      have HO := Lib.hid (yes_ok k hlt)
      have HZ := Lib.hid (show (Plain.bs (yesL.getD k [])).size ≤ 100000 by rw [Plain.bs_size]; have := yes_len k hlt; omega)
      generalize yesL.getD k [] = l at *
      go_wp2_with fail
      refine (get_at (Plain.bs l) l (Plain.getS l) _ rfl rfl HZ.out).mono ?_
      rw [HO.out]
      rintro e w1 ⟨rfl, k1⟩
      have B := Lib.hid (hb.trans (k1.mono hsz))
      clear k1
      go_wp2
      go_roundw
      case rel => exact ⟨k + 1, by omega, by go_num, B.out⟩
      case measure => simp [intOf]; omega
    · obtain rfl : 6 = k := by omega
      have HB := Lib.hid hb
      clear hb
      rw [show ((6 : Nat) : Int) = 6 from rfl]
      go_wp2
      go_loopw [6] (fun i wr => ∃ (k : Nat), k ≤ 16 ∧ i = .int .i64 k ∧ Below (w.heap.size + 2) (edgeW w) wr) (fun i _ => 16 - (intOf i).toNat)
      case atStart => exact ⟨0, Nat.zero_le _, rfl, HB.out⟩
      case round =>
        clear HB hsz
        obtain ⟨k, hk, rfl, hb⟩ := hrel
        rename_i wr
        have hsz := hb.size
        rw [edge_size] at hsz
        by_cases hlt : k < 16
        · have hc : wr.cell? ⟨w.heap.size + 1, k, none⟩ = some (.string (Plain.bs (noL.getD k []))) := (hb.cell (p := ⟨w.heap.size + 1, k, none⟩) (by simp)).trans (edge_no w k hlt)
          have HO := Lib.hid (no_ok k hlt)
          have HZ := Lib.hid (show (Plain.bs (noL.getD k [])).size ≤ 100000 by rw [Plain.bs_size]; have := no_len k hlt; omega)
          generalize noL.getD k [] = l at *
          go_wp2_with fail
          refine (get_at (Plain.bs l) l (Plain.getS l) _ rfl rfl HZ.out).mono ?_
          rw [HO.out]
          rintro e w1 ⟨rfl, k1⟩
          have B := Lib.hid (hb.trans (k1.mono hsz))
          clear k1
          go_wp2
          go_roundw
          case rel => exact ⟨k + 1, by omega, by go_num, B.out⟩
          case measure => simp [intOf]; omega
        · obtain rfl : 16 = k := by omega
          have BB := Lib.hid ((edge_below w).trans (hb.mono (by omega)))
          clear hb hsz
          rw [show ((16 : Nat) : Int) = 16 from rfl]
          go_wp2_with fail
          refine (getHex_at _ [48, 120, 52, 48, 48, 48, 48, 48, 48, 48, 48, 48, 48, 48, 48, 48, 48, 48] (some 4611686018427387904) _ rfl hex1 (by decide)).mono ?_
          rw [Option.isSome_some, show Plain.natV (some 4611686018427387904) = 4611686018427387904 from rfl]
          rintro e w2 ⟨rfl, rfl⟩
          go_wp2_with fail
          refine (getHex_at _ [48, 120, 52, 48, 48, 48, 48, 48, 48, 48, 48, 48, 48, 48, 48, 48, 48, 49] none _ rfl hex2 (by decide)).mono ?_
          rw [Option.isSome_none, show Plain.natV none = 0 from rfl]
          rintro e w2 ⟨rfl, rfl⟩
          go_wp2_with fail
          refine (getHex_at _ [48, 120, 48, 48, 48, 48, 48, 48, 48, 48, 48, 48, 48, 48, 48, 48, 48, 48, 49] none _ rfl hex3 (by decide)).mono ?_
          rw [Option.isSome_none, show Plain.natV none = 0 from rfl]
          rintro e w2 ⟨rfl, rfl⟩
          go_wp2_with fail
          refine (getHex_at _ [48, 120] none _ rfl hex4 (by decide)).mono ?_
          rw [Option.isSome_none, show Plain.natV none = 0 from rfl]
          rintro e w2 ⟨rfl, rfl⟩
          go_wp2_with fail
          refine (runs_any _).mono ?_
          rintro e w3 ⟨rfl, k3⟩
          have k4 := BB.out.trans (k3.mono BB.out.size)
          clear k3
          go_wp2
          go_ret
          exact ⟨rfl, k4⟩

end Go.Proofs.Ytheokjjkjigcfaa
