/- Two tables in a slice, of the two codes. -/
import Derived.Test.YtghihmmapignmaaTabR
import Derived.Test.YtghihmmapignmaaTabL
namespace Go.Proofs.Ytghihmmapignmaa
open Go.RowKit

theorem then_EA : thenL [tbE, tbA] ids = ids := by decide +kernel
theorem then_AE : thenL [tbA, tbE] ids = ids := by decide +kernel

theorem range_of_row {w : World} {b : Nat} {t : TypeId} {pre l post : List Int} {o : Nat} (h : Row w b t (cs (pre ++ l ++ post))) (ho : pre.length = o) : w.rangeAt b o (l.map (Value.int .u8)) := by
  intro j v hv
  subst ho
  rw [h.at (pre.length + j)]
  rw [List.getElem?_map] at hv
  by_cases hj : j < l.length
  · rw [List.getElem?_eq_getElem hj] at hv
    simp only [Option.map_some, Option.some.injEq] at hv
    simp [cs, List.getElem?_append, hj, ← hv]
  · rw [List.getElem?_eq_none (by omega)] at hv; simp at hv

/-- Two tables that were just written out. -/
theorem tbs_two {w : World} {b : Nat} {E A : List Int} (h : Row w b 50 (cs (E ++ A))) (hE : Good E) (hA : Good A) : Tbs w (some ⟨b, 0, none⟩) 2 [E, A] := by
  refine ⟨rfl, fun k hk => ?_, fun _ => ⟨b, 0, rfl, h.lt, fun k hk => ?_⟩⟩
  · match k, hk with
    | 0, _ => exact hE
    | 1, _ => exact hA
  · match k, hk with
    | 0, _ => exact range_of_row (pre := []) (post := A) (by simpa using h) rfl
    | 1, _ => exact range_of_row (pre := E) (post := []) (by simpa using h) (by rw [hE.1])

/-- All bytes by the table by which each stays. -/
theorem map_ids {zs : List Int} (h : Are zs) : mapL ids zs = zs := by
  rw [mapL]
  conv => rhs; rw [← List.map_id zs]
  refine List.map_congr_left (fun z hz => ?_)
  have hb := h z hz
  have : ∀ k < 256, ids.getD k 0 = (k : Int) := by decide +kernel
  rw [this z.toNat (by omega)]
  simp only [id]
  omega

end Go.Proofs.Ytghihmmapignmaa
