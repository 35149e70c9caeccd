/- Contracts of runs.Lead, runs.Trail, runs.Zero and of the reference's. -/
import Derived.Test.YtjmgdnkfhfbbiaaRows
import Derived.Test.YtjmgdnkfhfbbiaaPlain
import Derived.WalkKit
import Derived.WalkSpells
import Derived.WalkLawsBesides
import Derived.Lib.Hide
namespace Go.Proofs.Ytjmgdnkfhfbbiaa
open Go.RowKit

set_option maxHeartbeats 400000 in
theorem lead_any (A : Option Addr) (n c : Nat) (zs : List Int) (w : World) (h : Bytes w A n c zs) :
    Calls Try.prog 10 #[.slice A n c] w fun e w' => e = .returned (.int .i64 (Plain.lead zs : Nat)) ∧ w = w' := by
  obtain ⟨hz, hnc, hcm, hx⟩ := h
  have HZ := Lib.hid hz; have HX := Lib.hid hx
  clear hz hx
  have hm : n ≤ 9223372036854775807 := by unfold maxLen at hcm; omega
  clear hcm hnc
  go_enter Try.func10, Try.ntmps10
  go_wp2
  go_loopw [3] (fun i wr => ∃ (k : Nat), k ≤ n ∧ i = .int .i64 k ∧ w = wr ∧ Hid (Plain.lead zs = k + Plain.lead (zs.drop k))) (fun i _ => n - (intOf i).toNat)
  case atStart => exact ⟨0, Nat.zero_le _, rfl, rfl, by simp [Hid]⟩
  case round =>
    obtain ⟨k, hk, rfl, rfl, HE⟩ := hrel
    by_cases hlt : k < n
    · obtain ⟨b, o, rfl, hb, hc⟩ := HX.out (by omega)
      have hd := Plain.drop_cons zs k (by have := HZ.out; omega)
      have c0 := hc k hlt
      clear hc
      by_cases h0 : zs.getD k 0 = 0
      · rw [h0] at c0 hd
        have X : Hid (Plain.lead zs = (k + 1 : Nat) + Plain.lead (zs.drop (k + 1))) := by
          have := HE.out
          rw [hd, Plain.lead_yes] at this
          unfold Hid
          omega
        clear hd h0
        go_wp2
        go_roundw
        case rel => exact ⟨k + 1, by omega, by go_num, by simp, X⟩
        case measure => simp [intOf]; omega
      · have X : Hid (Plain.lead zs = k) := by
          have := HE.out
          rw [hd, Plain.lead_no _ _ h0] at this
          exact this
        generalize zs.getD k 0 = z at *
        have hz0 : (z == 0) = false := by simpa using h0
        clear hd h0
        go_wp2
        go_ret
        exact ⟨by rw [X.out]; rfl, rfl⟩
    · have X : Hid (Plain.lead zs = k) := by
        have := HE.out
        rw [List.drop_of_length_le (by have := HZ.out; omega), Plain.lead_nil] at this
        exact this
      go_wp2
      go_ret
      exact ⟨by rw [X.out]; rfl, rfl⟩

set_option maxHeartbeats 400000 in
theorem rlead_any (A : Option Addr) (n c : Nat) (zs : List Int) (w : World) (h : Bytes w A n c zs) :
    Calls Try.prog 14 #[.slice A n c] w fun e w' => e = .returned (.int .i64 (Plain.lead zs : Nat)) ∧ w = w' := by
  obtain ⟨hz, hnc, hcm, hx⟩ := h
  have HZ := Lib.hid hz; have HX := Lib.hid hx
  clear hz hx
  have hm : n ≤ 9223372036854775807 := by unfold maxLen at hcm; omega
  clear hcm hnc
  go_enter Try.func14, Try.ntmps14
  go_wp2
  go_loopw [3] (fun i wr => ∃ (k : Nat), k ≤ n ∧ i = .int .i64 k ∧ w = wr ∧ Hid (Plain.lead zs = k + Plain.lead (zs.drop k))) (fun i _ => n - (intOf i).toNat)
  case atStart => exact ⟨0, Nat.zero_le _, rfl, rfl, by simp [Hid]⟩
  case round =>
    obtain ⟨k, hk, rfl, rfl, HE⟩ := hrel
    by_cases hlt : k < n
    · obtain ⟨b, o, rfl, hb, hc⟩ := HX.out (by omega)
      have hd := Plain.drop_cons zs k (by have := HZ.out; omega)
      have c0 := hc k hlt
      clear hc
      by_cases h0 : zs.getD k 0 = 0
      · rw [h0] at c0 hd
        have X : Hid (Plain.lead zs = (k + 1 : Nat) + Plain.lead (zs.drop (k + 1))) := by
          have := HE.out
          rw [hd, Plain.lead_yes] at this
          unfold Hid
          omega
        clear hd h0
        go_wp2
        go_roundw
        case rel => exact ⟨k + 1, by omega, by go_num, by simp, X⟩
        case measure => simp [intOf]; omega
      · have X : Hid (Plain.lead zs = k) := by
          have := HE.out
          rw [hd, Plain.lead_no _ _ h0] at this
          exact this
        generalize zs.getD k 0 = z at *
        have hz0 : (z == 0) = false := by simpa using h0
        clear hd h0
        go_wp2
        go_ret
        exact ⟨by rw [X.out]; rfl, rfl⟩
    · have X : Hid (Plain.lead zs = k) := by
        have := HE.out
        rw [List.drop_of_length_le (by have := HZ.out; omega), Plain.lead_nil] at this
        exact this
      go_wp2
      go_ret
      exact ⟨by rw [X.out]; rfl, rfl⟩

set_option maxHeartbeats 400000 in
theorem trail_any (A : Option Addr) (n c : Nat) (zs : List Int) (w : World) (h : Bytes w A n c zs) :
    Calls Try.prog 11 #[.slice A n c] w fun e w' => e = .returned (.int .i64 (Plain.trail zs : Nat)) ∧ w = w' := by
  obtain ⟨hz, hnc, hcm, hx⟩ := h
  have HZ := Lib.hid hz; have HX := Lib.hid hx
  clear hz hx
  have hm : n ≤ 9223372036854775807 := by unfold maxLen at hcm; omega
  clear hcm hnc
  go_enter Try.func11, Try.ntmps11
  go_wp2
  go_loopw [3] (fun i wr => ∃ (k : Nat), k ≤ n ∧ i = .int .i64 k ∧ w = wr ∧ Hid (Plain.trail zs = k + Plain.lead (zs.reverse.drop k))) (fun i _ => n - (intOf i).toNat)
  case atStart => exact ⟨0, Nat.zero_le _, rfl, rfl, by simp [Hid, Plain.trail]⟩
  case round =>
    obtain ⟨k, hk, rfl, rfl, HE⟩ := hrel
    by_cases hlt : k < n
    · obtain ⟨b, o, rfl, hb, hc⟩ := HX.out (by omega)
      have hd := Plain.drop_cons zs.reverse k (by have := HZ.out; simp; omega)
      rw [Plain.rev_at zs k (by have := HZ.out; omega), HZ.out] at hd
      have c0 := hc (n - 1 - k) (by omega)
      clear hc
      by_cases h0 : zs.getD (n - 1 - k) 0 = 0
      · rw [h0] at c0 hd
        have X : Hid (Plain.trail zs = (k + 1 : Nat) + Plain.lead (zs.reverse.drop (k + 1))) := by
          have := HE.out
          rw [hd, Plain.lead_yes] at this
          unfold Hid
          omega
        clear hd h0
        go_wp2
        go_roundw
        case rel => exact ⟨k + 1, by omega, by go_num, by simp, X⟩
        case measure => simp [intOf]; omega
      · have X : Hid (Plain.trail zs = k) := by
          have := HE.out
          rw [hd, Plain.lead_no _ _ h0] at this
          exact this
        generalize zs.getD (n - 1 - k) 0 = z at *
        have hz0 : (z == 0) = false := by simpa using h0
        clear hd h0
        go_wp2
        go_ret
        exact ⟨by rw [X.out]; rfl, rfl⟩
    · have X : Hid (Plain.trail zs = k) := by
        have := HE.out
        rw [List.drop_of_length_le (by have := HZ.out; simp; omega), Plain.lead_nil] at this
        exact this
      go_wp2
      go_ret
      exact ⟨by rw [X.out]; rfl, rfl⟩

set_option maxHeartbeats 400000 in
theorem rtrail_any (A : Option Addr) (n c : Nat) (zs : List Int) (w : World) (h : Bytes w A n c zs) :
    Calls Try.prog 15 #[.slice A n c] w fun e w' => e = .returned (.int .i64 (Plain.trail zs : Nat)) ∧ w = w' := by
  obtain ⟨hz, hnc, hcm, hx⟩ := h
  have HZ := Lib.hid hz; have HX := Lib.hid hx
  clear hz hx
  have hm : n ≤ 9223372036854775807 := by unfold maxLen at hcm; omega
  clear hcm hnc
  go_enter Try.func15, Try.ntmps15
  go_wp2
  go_loopw [3] (fun i wr => ∃ (k : Nat), k ≤ n ∧ i = .int .i64 k ∧ w = wr ∧ Hid (Plain.trail zs = k + Plain.lead (zs.reverse.drop k))) (fun i _ => n - (intOf i).toNat)
  case atStart => exact ⟨0, Nat.zero_le _, rfl, rfl, by simp [Hid, Plain.trail]⟩
  case round =>
    obtain ⟨k, hk, rfl, rfl, HE⟩ := hrel
    by_cases hlt : k < n
    · obtain ⟨b, o, rfl, hb, hc⟩ := HX.out (by omega)
      have hd := Plain.drop_cons zs.reverse k (by have := HZ.out; simp; omega)
      rw [Plain.rev_at zs k (by have := HZ.out; omega), HZ.out] at hd
      have c0 := hc (n - 1 - k) (by omega)
      clear hc
      by_cases h0 : zs.getD (n - 1 - k) 0 = 0
      · rw [h0] at c0 hd
        have X : Hid (Plain.trail zs = (k + 1 : Nat) + Plain.lead (zs.reverse.drop (k + 1))) := by
          have := HE.out
          rw [hd, Plain.lead_yes] at this
          unfold Hid
          omega
        clear hd h0
        go_wp2
        go_roundw
        case rel => exact ⟨k + 1, by omega, by go_num, by simp, X⟩
        case measure => simp [intOf]; omega
      · have X : Hid (Plain.trail zs = k) := by
          have := HE.out
          rw [hd, Plain.lead_no _ _ h0] at this
          exact this
        generalize zs.getD (n - 1 - k) 0 = z at *
        have hz0 : (z == 0) = false := by simpa using h0
        clear hd h0
        go_wp2
        go_ret
        exact ⟨by rw [X.out]; rfl, rfl⟩
    · have X : Hid (Plain.trail zs = k) := by
        have := HE.out
        rw [List.drop_of_length_le (by have := HZ.out; simp; omega), Plain.lead_nil] at this
        exact this
      go_wp2
      go_ret
      exact ⟨by rw [X.out]; rfl, rfl⟩

set_option maxHeartbeats 1000000 in
theorem zero_any (A : Option Addr) (n c : Nat) (L : List El) (w : World) (hm : n ≤ 9223372036854775807) (h : Lists w A n L) :
    Calls Try.prog 9 #[.slice A n c] w fun e w' => e = .returned (.bool (allZeros L)) ∧ w = w' := by
  obtain ⟨hz, hx, hy⟩ := h
  have HZ := Lib.hid hz; have HX := Lib.hid hx; have HY := Lib.hid hy
  clear hz hx hy
  go_enter Try.func9, Try.ntmps9
  go_wp2
  go_loopw [7] (fun i wr => ∃ (k : Nat), k ≤ n ∧ i = .int .i64 k ∧ w = wr ∧ Hid (allZeros L = allZeros (L.drop k))) (fun i _ => n - (intOf i).toNat)
  case atStart => exact ⟨0, Nat.zero_le _, rfl, rfl, by simp [Hid]⟩
  case round =>
    obtain ⟨k, hk, rfl, rfl, HE⟩ := hrel
    by_cases hlt : k < n
    · obtain ⟨b, o, rfl, hb, hc⟩ := HX.out (by omega)
      have hd := drop_el L k (by have := HZ.out; omega)
      have c0 := hc k hlt
      have c1 := HY.out k hlt
      have hs : allZeros L = (Plain.zeros (L.getD k default).zs && allZeros (L.drop (k + 1))) := by
        rw [HE.out, hd]; rfl
      clear hc hd HE
      generalize L.getD k default = x at *
      obtain ⟨a, m, c', zs⟩ := x
      have c1' : Bytes w a m c' zs := c1
      have c0' : w.cell? ⟨b, o + k, none⟩ = some (.slice a m c') := c0
      have hs' : allZeros L = (Plain.zeros zs && allZeros (L.drop (k + 1))) := hs
      clear c0 c1 hs
      have HS := Lib.hid hs'; have C1 := Lib.hid c1'
      clear hs' c1'
      have hml := C1.out.1
      have hle := Plain.lead_le zs
      have hfu := Plain.lead_full zs
      cases hzs : Plain.zeros zs with
      | true =>
        have hl : Plain.lead zs = m := by rw [hfu.2 hzs, hml]
        have X : Hid (allZeros L = allZeros (L.drop (k + 1))) := by
          have := HS.out
          rw [hzs, Bool.true_and] at this
          exact this
        clear hzs hfu hle hml
        have HL := Lib.hid hl
        clear hl
        go_wp2_with (go_at_call 10; refine (lead_any _ _ _ zs _ C1.out).mono ?_; rw [HL.out]; rintro e w' ⟨rfl, rfl⟩)
        go_roundw
        case rel => exact ⟨k + 1, by omega, by go_num, by simp, X⟩
        case measure => simp [intOf]; omega
      | false =>
        have hl : Plain.lead zs < m := by
          have : Plain.lead zs ≠ zs.length := fun h => by rw [hfu.1 h] at hzs; cases hzs
          omega
        have X : Hid (allZeros L = false) := by
          have := HS.out
          rw [hzs, Bool.false_and] at this
          exact this
        clear hzs hfu hle hml
        go_wp2_with (go_at_call 10; refine (lead_any _ _ _ zs _ C1.out).mono ?_; generalize Plain.lead zs = q at *; rintro e w' ⟨rfl, rfl⟩)
        go_ret
        exact ⟨by rw [X.out]; rfl, rfl⟩
    · have X : Hid (allZeros L = true) := by
        have := HE.out
        rw [List.drop_of_length_le (by have := HZ.out; omega)] at this
        exact this
      go_wp2
      go_ret
      exact ⟨by rw [X.out]; rfl, rfl⟩

set_option maxHeartbeats 400000 in
theorem rzero_any (A : Option Addr) (n c : Nat) (zs : List Int) (w : World) (h : Bytes w A n c zs) :
    Calls Try.prog 16 #[.slice A n c] w fun e w' => e = .returned (.bool (Plain.zeros zs)) ∧ w = w' := by
  have HB := Lib.hid h
  have hv : (((Plain.lead zs : Nat) : Int) == (n : Int)) = Plain.zeros zs := by
    rw [Bool.eq_iff_iff, ← Plain.lead_full, h.1]
    simp
    omega
  have HV := Lib.hid hv
  clear hv h
  go_enter Try.func16, Try.ntmps16
  go_wp2_with (go_at_call 14; refine (rlead_any _ _ _ zs _ HB.out).mono ?_; generalize Plain.lead zs = q at *; rintro e w' ⟨rfl, rfl⟩)
  go_ret
  exact ⟨by rw [← HV.out]; rfl, rfl⟩

/-- One list, laid into a slice of its own. -/
theorem zero_one (A : Option Addr) (n c : Nat) (zs : List Int) (w : World) (s : Nat) (hs : s = w.heap.size) (h : Bytes w A n c zs) :
    Calls Try.prog 9 #[.slice (some ⟨s, 0, none⟩) 1 1] (w.alloc (.cells #[.slice A n c] 24)) fun e w' => e = .returned (.bool (Plain.zeros zs)) ∧ w.alloc (.cells #[.slice A n c] 24) = w' := by
  have hz : allZeros [⟨A, n, c, zs⟩] = Plain.zeros zs := by simp [allZeros]
  rw [← hz]
  subst hs
  refine zero_any _ _ _ _ _ (by omega) ⟨rfl, fun _ => ⟨_, _, rfl, by simp, fun k hk => ?_⟩, fun k hk => ?_⟩
  · obtain rfl : k = 0 := by omega
    simp [go_sem]
  · obtain rfl : k = 0 := by omega
    exact h.on ((Below.refl _ _).alloc (Nat.le_refl _) _)

end Go.Proofs.Ytjmgdnkfhfbbiaa
