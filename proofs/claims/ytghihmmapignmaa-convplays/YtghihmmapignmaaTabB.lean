/- Contract of lay. -/
import Derived.Test.YtghihmmapignmaaTabA
import Derived.WalkKit
import Derived.WalkSpells
import Derived.WalkLawsBesides
import Derived.Lib.Hide
import Derived.Deep.QuietTactic
import Derived.BigQuiet
import Derived.StillTailTactics
namespace Go.Proofs.Ytghihmmapignmaa
open Go.RowKit

theorem len_layL (t : List Int) (f g : Nat) : ∀ n, (layL t f g n).length = t.length
  | 0 => rfl
  | n + 1 => by rw [layL, List.length_set]; exact len_layL t f g n

def rowC (f g n : Nat) : Array Value := #[.int .u8 f, .int .u8 g, .int .i64 n]

def LayPost (b : Nat) (l : List Int) (w : World) (e : Ending) (w' : World) : Prop := ∃ v, e = .returned v ∧ Row w' b 50 (cs l) ∧ Only (fun d => d = b) w w'

set_option maxRecDepth 100000 in
set_option maxHeartbeats 800000 in
theorem lay_any (b f g n : Nat) (t : List Int) (w : World) (h : Row w b 50 (cs t)) (ht : t.length = 256) (hf : f + n ≤ 256) (hg : g + n ≤ 256) :
    Calls Try.prog 71 #[.pointer (some ⟨b, 0, none⟩), .agg (rowC f g n)] w (LayPost b (layL t f g n) w) := by
  have hlt := h.lt
  have H := Lib.hid (h.on ((Below.refl _ w).alloc (Nat.le_refl _) (.cells (rowC f g n) 87)))
  have X := Lib.hid (row_new w (rowC f g n) 87)
  have O := Lib.hid ((Only.refl (fun d => d = b) w).alloc (.cells (rowC f g n) 87))
  have HT := Lib.hid ht
  clear h ht
  have hfb : f ≤ 256 := by omega
  have hgb : g ≤ 256 := by omega
  unfold rowC
  go_enter Try.func71, Try.ntmps71
  go_wp2
  go_loopw [7] (fun i wr => ∃ k : Nat, k ≤ n ∧ i = .int .i64 k ∧ Hid (Row wr b 50 (cs (layL t f g k))) ∧ Hid (Row wr w.heap.size 87 (rowC f g n)) ∧ Hid (Only (fun d => d = b) w wr)) (fun i _ => n - (intOf i).toNat)
  case atStart => exact ⟨0, by omega, rfl, H, X, O⟩
  case round =>
    clear H X O
    obtain ⟨k, hk, rfl, R, X, O⟩ := hrel
    have L := Lib.hid ((len_layL t f g k).trans HT.out)
    by_cases hl : k < n
    · have c0 : wr.cell? ⟨w.heap.size, 0, none⟩ = some (.int .u8 f) := X.out.at 0
      have c1 : wr.cell? ⟨w.heap.size, 1, none⟩ = some (.int .u8 g) := X.out.at 1
      have i0 : (0 : Int) ≤ (f : Int) + (k : Int) := by omega
      have i1 : (f : Int) + (k : Int) < 256 := by omega
      have iw : IntKind.i64.wrap ((f : Int) + (k : Int)) = (f : Int) + (k : Int) := IntWalk.i64_in _ (by omega)
      have ifw : IntKind.i64.wrap (f : Int) = (f : Int) := IntWalk.i64_in _ (by omega)
      have iu : IntKind.u8.wrap (k : Int) = (k : Int) := IntWalk.u8_in _ (by omega)
      have ig : IntKind.u8.wrap ((g : Int) + (k : Int)) = (g : Int) + (k : Int) := IntWalk.u8_in _ (by omega)
      have it : ((f : Int) + (k : Int)).toNat = f + k := by omega
      go_wp2
      go_still_tail 13, (by kernel_rfl)
      change wpList _ _ _ _ _ wr.drew
      generalize hW : wr.drew = W at *
      have R' := Lib.hid (show Row W b 50 (cs (layL t f g k)) by rw [← hW]; exact R.out)
      have X' := Lib.hid (show Row W w.heap.size 87 (rowC f g n) by rw [← hW]; exact X.out)
      have O' := Lib.hid (show Only (fun d => d = b) w W by rw [← hW]; exact O.out.drew)
      clear hW R X O c0 c1
      have d0 := R'.out.cell (f + k) (by rw [L.out]; omega)
      have d1 := R'.out.free (f + k)
      go_wp2
      go_roundw
      case rel =>
        refine ⟨k + 1, by omega, by go_num, ?_, X'.out.past b _ _ (by omega), O'.out.setCell ⟨b, f + k, none⟩ (fun _ => rfl) _⟩
        have := R'.out.set (f + k) ((g : Int) + (k : Int))
        rw [layL, show (((g + k) % 256 : Nat) : Int) = (g : Int) + (k : Int) by omega]
        exact this
      case measure => simp [intOf]; omega
    · obtain rfl : n = k := by omega
      go_wp2
      go_end0
      exact ⟨_, rfl, R.out, O.out⟩

end Go.Proofs.Ytghihmmapignmaa
