/- Steps as the laws' arguments; contract of few. -/
import Derived.Test.YtbmcaldeiddgeaaWalksB
import Derived.WalkKit
import Derived.WalkSpells
import Derived.WalkLawsBesides
import Derived.Lib.Hide
import Derived.BigQuiet
namespace Go.Proofs.Ytbmcaldeiddgeaa
open Go.RowKit

/-- One step as a value. -/
structure St where
  kind : Nat
  a : El
  b : El
deriving Inhabited

/-- A list of bytes that is told. -/
structure ElOk (w : World) (x : El) : Prop where
  bytes : Bytes w x.a x.n x.c x.zs
  nil : x.a = none → x.n = 0 ∧ x.c = 0
theorem ElOk.on {w w' : World} {x : El} (h : ElOk w x) (k : Below w.heap.size w w') : ElOk w' x := ⟨h.bytes.on k, h.nil⟩

/-- A slice of steps. -/
structure Steps (w : World) (A : Option Addr) (n : Nat) (L : List St) : Prop where
  len : L.length = n
  cells : 0 < n → ∃ b o, A = some ⟨b, o, none⟩ ∧ b < w.heap.size ∧ ∀ k, k < n → w.cell? ⟨b, o + k * 3, none⟩ = some (.int .u8 ((L.getD k default).kind : Nat)) ∧
    w.cell? ⟨b, o + k * 3 + 1, none⟩ = some (.slice (L.getD k default).a.a (L.getD k default).a.n (L.getD k default).a.c) ∧ w.cell? ⟨b, o + k * 3 + 2, none⟩ = some (.slice (L.getD k default).b.a (L.getD k default).b.n (L.getD k default).b.c)
  kind : ∀ k, k < n → (L.getD k default).kind < 256
  one : ∀ k, k < n → ElOk w (L.getD k default).a
  two : ∀ k, k < n → ElOk w (L.getD k default).b

theorem Steps.on {w w' : World} {A : Option Addr} {n : Nat} {L : List St} (h : Steps w A n L) (k : Below w.heap.size w w') : Steps w' A n L := by
  refine ⟨h.len, fun hn => ?_, h.kind, fun j hj => (h.one j hj).on k, fun j hj => (h.two j hj).on k⟩
  obtain ⟨b, o, rfl, hb, hc⟩ := h.cells hn
  exact ⟨b, o, rfl, Nat.lt_of_lt_of_le hb k.size, fun j hj => ⟨(k.cell (p := ⟨b, o + j * 3, none⟩) hb).trans (hc j hj).1, (k.cell (p := ⟨b, o + j * 3 + 1, none⟩) hb).trans (hc j hj).2.1, (k.cell (p := ⟨b, o + j * 3 + 2, none⟩) hb).trans (hc j hj).2.2⟩⟩

/-- How many bytes there are in all. -/
def total (L : List St) : Nat := (L.map fun x => x.a.n + x.b.n).sum
theorem total_snoc (L : List St) (k : Nat) (h : k < L.length) : total (L.take (k + 1)) = total (L.take k) + (L.getD k default).a.n + (L.getD k default).b.n := by
  rw [List.take_add_one, total, List.map_append, List.sum_append, List.getElem?_eq_getElem h, List.getD_eq_getElem?_getD, List.getElem?_eq_getElem h]
  simp [total]; omega
theorem total_le (L : List St) (k : Nat) : total (L.take k) ≤ total L := by
  have : total L = total (L.take k) + total (L.drop k) := by rw [total, total, total, ← List.sum_append, ← List.map_append, List.take_append_drop]
  omega

def FewPost (L : List St) (w : World) (e : Ending) (w' : World) : Prop :=
  ∃ x : Bool, e = .returned (.bool x) ∧ (x = true → L.length ≤ 60 ∧ total L ≤ 12000) ∧ Below w.heap.size w w'

set_option maxHeartbeats 1000000 in
theorem few_any (A : Option Addr) (n c : Nat) (L : List St) (w : World) (h : Steps w A n L) (hm : n ≤ 9223372036854775807) : Calls Try.prog 12 #[.slice A n c] w (FewPost L w) := by
  have H := Lib.hid h
  clear h
  go_enter Try.func12, Try.ntmps12
  go_wp2
  go_loopw [3, 4] (fun s i wr => ∃ (j t : Nat), j ≤ n ∧ j ≤ 100 ∧ i = .int .i64 j ∧ s = .int .i64 t ∧ Hid (t = total (L.take j)) ∧ t ≤ j * 4000 ∧ Hid (Below w.heap.size w wr)) (fun _ i _ => n - (intOf i).toNat)
  case atStart => exact ⟨0, 0, Nat.zero_le _, Nat.zero_le _, rfl, rfl, rfl, Nat.zero_le _, Below.refl _ _⟩
  case round =>
    obtain ⟨j, t, hj, hj1, rfl, rfl, HT, ht, HB⟩ := hrel
    by_cases hlt : j < n
    · by_cases hlt2 : j < 100
      · obtain ⟨b, o, rfl, hb, hc⟩ := H.out.cells (by omega)
        obtain ⟨_, c1, c2⟩ := hc j hlt
        have c1 := (HB.out.cell (p := ⟨b, o + j * 3 + 1, none⟩) hb).trans c1
        have c2 := (HB.out.cell (p := ⟨b, o + j * 3 + 2, none⟩) hb).trans c2
        have HS := Lib.hid (total_snoc L j (by have := H.out.len; omega))
        have b1 := (H.out.one j hlt).bytes
        have b2 := (H.out.two j hlt).bytes
        have m1 : (L.getD j default).a.n ≤ 9223372036854775807 := by have := b1.2.1; have := b1.2.2.1; unfold maxLen at this; omega
        have m2 : (L.getD j default).b.n ≤ 9223372036854775807 := by have := b2.2.1; have := b2.2.2.1; unfold maxLen at this; omega
        clear hc b1 b2
        generalize L.getD j default = x at *
        obtain ⟨xk, ⟨xa, xn, xc, xz⟩, ⟨ya, yn, yc, yz⟩⟩ := x
        simp only at c1 c2 HS m1 m2
        have hji : (j : Int) < (n : Int) := by omega
        have hj0 : (0 : Int) ≤ (j : Int) := by omega
        by_cases hx : 2000 < xn
        · go_wp2
          go_ret
          exact ⟨false, rfl, (fun h => by cases h), HB.out⟩
        · by_cases hy : 2000 < yn
          · go_wp2
            go_ret
            exact ⟨false, rfl, (fun h => by cases h), HB.out⟩
          · have hw1 : IntKind.i64.wrap ((t : Int) + (xn : Int)) = (t : Int) + (xn : Int) := IntWalk.i64_in _ (by omega)
            have hw2 : IntKind.i64.wrap ((t : Int) + (xn : Int) + (yn : Int)) = (t : Int) + (xn : Int) + (yn : Int) := IntWalk.i64_in _ (by omega)
            go_wp2
            go_quiet (fail)
            go_wp2
            go_roundw
            case rel => exact ⟨j + 1, t + xn + yn, by omega, by omega, by go_num, by go_num, by unfold Hid; rw [HS.out, ← HT.out], by omega, below_drewN HB.out _⟩
            case measure => simp [intOf]; omega
      · have hj3 : j = 100 := by omega
        have hd : decide ((n : Int) ≤ 60) = false := by simp; omega
        go_wp2
        go_ret
        exact ⟨false, rfl, (fun h => by cases h), HB.out⟩
    · have hjn : j = n := by omega
      have HL := Lib.hid (show t = total L by rw [HT.out, hjn, ← H.out.len, List.take_length])
      have HN := Lib.hid H.out.len
      clear H HT
      by_cases h1 : n ≤ 60
      · by_cases h2 : t ≤ 12000
        · have hd : decide ((t : Int) ≤ 12000) = true := by simp; omega
          go_wp2
          go_ret
          exact ⟨true, rfl, fun _ => ⟨by rw [HN.out]; exact h1, by rw [← HL.out]; exact h2⟩, HB.out⟩
        · have hd : decide ((t : Int) ≤ 12000) = false := by simp; omega
          go_wp2
          go_ret
          exact ⟨false, rfl, (fun h => by cases h), HB.out⟩
      · have hd : decide ((n : Int) ≤ 60) = false := by simp; omega
        go_wp2
        go_ret
        exact ⟨false, rfl, (fun h => by cases h), HB.out⟩

end Go.Proofs.Ytbmcaldeiddgeaa
