/- Contracts of the law's Few, of disk.May and what it calls. -/
import Derived.Test.YtdfjhgibdabeeaaDevs
import Derived.WalkKit
import Derived.WalkSpells
import Derived.WalkLawsBesides
import Derived.Lib.Hide
import Derived.BigQuiet
namespace Go.Proofs.Ytdfjhgibdabeeaa
open Go.RowKit

def TruthPost (z : Bool) (w : World) (e : Ending) (w' : World) : Prop := e = .returned (.bool z) ∧ Below w.heap.size w w'

set_option maxHeartbeats 400000 in
theorem few_any (x : Hd) (D : Dev) (w : World) (h : DevIn w x D) : Calls Try.prog 13 #[x.val] w (TruthPost D.few w) := by
  have hk := Lib.hid (show (decide (x.dn ≤ 400) && decide (x.bn ≤ 60) && decide (x.sn ≤ 60) && decide (x.hn ≤ 200)) = D.few by rw [Dev.few, h.data.len, h.bad.len, h.soft.len, h.shorts.len])
  have K0 := Lib.hid (show Below w.heap.size w (w.alloc (.cells x.cells 30)) from (Below.refl _ _).alloc (Nat.le_refl _) _)
  clear h
  generalize D.few = z at *
  obtain ⟨da, dn, dc, ba, bn, bc, sa, sn, sc, ha, hn, hc⟩ := x
  simp only at hk
  show Calls Try.prog 13 #[.agg #[.slice da dn dc, .slice ba bn bc, .slice sa sn sc, .slice ha hn hc]] w _
  go_enter Try.func13, Try.ntmps13
  by_cases h1 : dn ≤ 400
  · by_cases h2 : bn ≤ 60
    · by_cases h3 : sn ≤ 60
      · by_cases h4 : hn ≤ 200
        · go_wp2
          go_ret
          exact ⟨by rw [← hk.out]; simp [h1, h2, h3, h4]; omega, K0.out⟩
        · have hd : decide ((hn : Int) ≤ 200) = false := by simp; omega
          go_wp2
          go_ret
          exact ⟨by rw [← hk.out]; simp [h4], K0.out⟩
      · have hd : decide ((sn : Int) ≤ 60) = false := by simp; omega
        go_wp2
        go_ret
        exact ⟨by rw [← hk.out]; simp [h3], K0.out⟩
    · have hd : decide ((bn : Int) ≤ 60) = false := by simp; omega
      go_wp2
      go_ret
      exact ⟨by rw [← hk.out]; simp [h2], K0.out⟩
  · have hd : decide ((dn : Int) ≤ 400) = false := by simp; omega
    go_wp2
    go_ret
    exact ⟨by rw [← hk.out]; simp [h1], K0.out⟩

set_option maxHeartbeats 400000 in
theorem neg_any (z : Int) (w : World) : Calls Try.prog 29 #[.int .i64 z] w fun e w' => e = .returned (.bool (decide (z < 0))) ∧ w = w' := by
  go_enter Try.func29, Try.ntmps29
  by_cases h : z < 0
  · go_wp2
    go_ret
    exact ⟨by simp [h], by simp⟩
  · go_wp2
    go_ret
    exact ⟨by simp [h], by simp⟩

set_option maxHeartbeats 400000 in
theorem off_any (p q : Int) (w : World) (z : Bool) (hz : softOk (p, q) = !z) : Calls Try.prog 31 #[.agg #[.int .i64 p, .int .i64 q]] w (TruthPost z w) := by
  have hk := Lib.hid (show (decide (p < 0) || decide (q < 0) || decide (20 < q)) = z from Bool.not_inj hz)
  have K0 := Lib.hid (show Below w.heap.size w (w.alloc (.cells #[.int .i64 p, .int .i64 q] 26)) from (Below.refl _ _).alloc (Nat.le_refl _) _)
  clear hz
  go_enter Try.func31, Try.ntmps31
  by_cases h1 : p < 0
  · go_wp2
    go_ret
    exact ⟨by rw [← hk.out]; simp [h1], K0.out⟩
  · by_cases h2 : q < 0
    · go_wp2
      go_ret
      exact ⟨by rw [← hk.out]; simp [h2], K0.out⟩
    · by_cases h3 : 20 < q
      · go_wp2
        go_ret
        exact ⟨by rw [← hk.out]; simp [h3], K0.out⟩
      · go_wp2
        go_ret
        exact ⟨by rw [← hk.out]; simp [h1, h2, h3], K0.out⟩

def FoundPost (z : Bool) (w : World) (e : Ending) (w' : World) : Prop := ∃ i : Int, e = .returned (.int .i64 i) ∧ decide (0 ≤ i) = z ∧ Below w.heap.size w w'
theorem found_post {z : Bool} {w w' : World} {i : Int} (hz : decide (0 ≤ i) = z) (k : Below w.heap.size w w') : FoundPost z w (.returned (.int .i64 i)) w' := ⟨i, rfl, hz, k⟩

set_option maxHeartbeats 1000000 in
theorem index_bad (A : Option Addr) (n c : Nat) (zs : List Int) (w : World) (h : Nums .i64 w A n c zs) : Calls Try.prog 32 #[.slice A n c, .func (.func 29) #[] #[]] w (FoundPost (zs.any fun z => decide (z < 0)) w) := by
  have H := Lib.hid h
  have hm : n ≤ 9223372036854775807 := by have := h.le; have := h.mx; unfold maxLen at this; omega
  clear h
  go_enter Try.func32, Try.ntmps32
  go_wp2
  go_loop [8] (fun i => ∃ j : Nat, j ≤ n ∧ i = .int .i64 j ∧ Hid (((zs.take j).any fun z => decide (z < 0)) = false)) (fun i => n - (intOf i).toNat)
  case atStart => exact ⟨0, Nat.zero_le _, rfl, by simp [Hid]⟩
  case round =>
    obtain ⟨j, hj, rfl, HT⟩ := hrel
    by_cases hlt : j < n
    · obtain ⟨b, o, rfl, hb, hc⟩ := H.out.cells (by omega)
      have c0 := hc j hlt
      have HS := Lib.hid (show (zs.take (j + 1)).any (fun z => decide (z < 0)) = decide (zs.getD j 0 < 0) by
        have hl : j < zs.length := by have := H.out.len; omega
        rw [List.take_add_one, List.any_append, HT.out, List.getElem?_eq_getElem hl, List.getD_eq_getElem?_getD, List.getElem?_eq_getElem hl]
        simp)
      have HI := Lib.hid (show zs.getD j 0 < 0 → (zs.any fun z => decide (z < 0)) = true from fun hz => by
        have hl : j < zs.length := by have := H.out.len; omega
        rw [List.getD_eq_getElem?_getD, List.getElem?_eq_getElem hl] at hz
        exact List.any_eq_true.2 ⟨_, List.getElem_mem hl, by simpa using hz⟩)
      clear hc
      have hji : (j : Int) < (n : Int) := by omega
      generalize zs.getD j 0 = z at *
      by_cases hz : z < 0
      · go_wp2_with (go_at_call 29; refine (neg_any _ _).mono ?_; rintro e w' ⟨rfl, rfl⟩)
        go_ret
        exact found_post (by rw [HI.out hz]; simp) (by first | exact Below.refl _ _ | simp)
      · go_wp2_with (go_at_call 29; refine (neg_any _ _).mono ?_; rintro e w' ⟨rfl, rfl⟩)
        go_round
        case rel => exact ⟨j + 1, by omega, by go_num, by unfold Hid; rw [HS.out]; simp; omega⟩
        case measure => simp [intOf]; omega
    · have hjn : j = n := by omega
      have HL := Lib.hid (show (zs.any fun z => decide (z < 0)) = false by have := HT.out; rwa [hjn, ← H.out.len, List.take_length] at this)
      go_wp2
      go_ret
      exact found_post (by rw [HL.out]; rfl) (by first | exact Below.refl _ _ | simp)

end Go.Proofs.Ytdfjhgibdabeeaa
