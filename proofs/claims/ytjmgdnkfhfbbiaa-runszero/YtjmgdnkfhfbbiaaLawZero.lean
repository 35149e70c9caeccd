/- The walk of the law RunsZero. -/
import Derived.Test.YtjmgdnkfhfbbiaaReadR
import Derived.Test.YtjmgdnkfhfbbiaaLawJoin
import Derived.WalkKit
import Derived.WalkSpells
import Derived.WalkLawsBesides
import Derived.Lib.Hide
namespace Go.Proofs.Ytjmgdnkfhfbbiaa
open Go.RowKit

theorem zero_at (A : Option Addr) (n c : Nat) (L : List El) (z : Bool) (w : World) (hm : n ≤ 9223372036854775807) (h : Lists w A n L) (hz : allZeros L = z) :
    Calls Try.prog 9 #[.slice A n c] w fun e w' => e = .returned (.bool z) ∧ w = w' := by
  subst hz
  exact zero_any A n c L w hm h
theorem zero_one_at (A : Option Addr) (n c : Nat) (zs : List Int) (z : Bool) (w : World) (s : Nat) (hs : s = w.heap.size) (h : Bytes w A n c zs) (hz : Plain.zeros zs = z) :
    Calls Try.prog 9 #[.slice (some ⟨s, 0, none⟩) 1 1] (w.alloc (.cells #[.slice A n c] 24)) fun e w' => e = .returned (.bool z) ∧ w.alloc (.cells #[.slice A n c] 24) = w' := by
  subst hz
  exact zero_one A n c zs w s hs h

set_option maxHeartbeats 400000 in
theorem zero_big (A : Option Addr) (n c : Nat) (w : World) (hn : 50 < n) (hm : n ≤ 9223372036854775807) :
    Calls Try.prog 5 #[.slice A n c] w fun e w' => e = .returned (.bool true) ∧ Below w.heap.size w w' := by
  go_enter Try.func5, Try.ntmps5
  go_wp2_with fail
  refine (law_runs _).mono ?_
  rintro e w1 ⟨rfl, k1⟩
  go_wp2
  go_ret
  exact ⟨rfl, k1⟩

set_option maxHeartbeats 2000000 in
theorem zero_small (A : Option Addr) (n c : Nat) (L : List El) (w : World) (hr : IsRows w A n L) (hn : n ≤ 50) :
    Calls Try.prog 5 #[.slice A n c] w fun e w' => e = .returned (.bool true) ∧ Below w.heap.size w w' := by
  obtain ⟨_, hl, hnil⟩ := hr
  have HL := Lib.hid hl; have HNIL := Lib.hid hnil
  clear hl hnil
  go_enter Try.func5, Try.ntmps5
  go_wp2
  go_loopw [3, 4, 5] (fun v e i wr => ∃ (k : Nat), k ≤ n ∧ i = .int .i64 k ∧ e = .bool (allZeros (L.take k)) ∧ wr.ownsRow w.heap.size 5 1 v (cat (L.take k)).length ((cat (L.take k)).map (Value.int .u8)) ∧ (cat (L.take k)).length ≤ 2000 * k ∧ Below w.heap.size w wr) (fun _ _ i _ => n - (intOf i).toNat)
  case atStart => exact ⟨0, Nat.zero_le _, rfl, by simp [allZeros], by simpa [cat] using World.ownsRow_nil _ _ _ _, by simp [cat], Below.refl _ _⟩
  case round =>
    obtain ⟨k, hk, rfl, rfl, hown, hlen, hbel⟩ := hrel
    have OWN := Lib.hid hown; have BEL := Lib.hid hbel
    have hsz := hbel.size
    clear hown hbel
    by_cases hlt : k < n
    · have hLl := HL.out.1
      obtain ⟨b, o, rfl, hb, hc⟩ := HL.out.2.1 (by omega)
      have G : ∀ w', Below w.heap.size w w' → w'.cell? ⟨b, o + k, none⟩ = some (.slice (L.getD k default).a (L.getD k default).n (L.getD k default).c) ∧ Bytes w' (L.getD k default).a (L.getD k default).n (L.getD k default).c (L.getD k default).zs :=
        fun w' h => ⟨(h.cell (p := ⟨b, o + k, none⟩) hb).trans (hc k hlt), (HL.out.2.2 k hlt).on h⟩
      have c2 := HNIL.out k hlt
      have hcs := cat_snoc L k (by omega)
      have has := allZeros_snoc L k (by omega)
      clear hc
      generalize L.getD k default = x at *
      obtain ⟨a, m, d, zs⟩ := x
      have G' : Hid (∀ w', Below w.heap.size w w' → w'.cell? ⟨b, o + k, none⟩ = some (.slice a m d) ∧ Bytes w' a m d zs) := G
      have C2 : Hid (a = none → m = 0 ∧ d = 0) := c2
      have HCS : Hid (cat (L.take (k + 1)) = cat (L.take k) ++ zs) := hcs
      have HAS : Hid (allZeros (L.take (k + 1)) = (allZeros (L.take k) && Plain.zeros zs)) := has
      clear c2 hcs has G
      obtain ⟨c0, c1⟩ := G'.out wr BEL.out
      have C1 := Lib.hid c1
      clear c1
      have hmm : m ≤ 9223372036854775807 := by have h1 := C1.out.2.1; have h2 := C1.out.2.2.1; unfold maxLen at h2; omega
      have hzl := C1.out.1
      by_cases hm : m ≤ 2000
      · generalize allZeros (L.take k) = z0 at *
        obtain ⟨ys, hys⟩ : ∃ ys, cat (L.take k) = ys := ⟨_, rfl⟩
        rw [hys] at hlen OWN HCS
        clear hys
        obtain ⟨q, hq⟩ : ∃ q, ys.length = q := ⟨_, rfl⟩
        rw [hq] at hlen OWN
        have HQ := Lib.hid hq
        clear hq
        go_wp2_with (at_builtin; refine append_bytes rfl _ _ rfl w.heap.size _ q ys rfl OWN.out a m d zs C1.out C2.out rfl (by omega) hsz ?_; intro v2 w2 o2 k2; have O2 := Lib.hid o2; have K2 := Lib.hid (BEL.out.trans k2); clear o2 k2)
        obtain ⟨c0', c1'⟩ := G'.out w2 K2.out
        have C3 := Lib.hid c1'
        clear c0 c1' C1
        have hx3 : Hid (0 < m → ∃ b o, a = some ⟨b, o, none⟩ ∧ b < w2.heap.size ∧ ∀ k, k < m → w2.cell? ⟨b, o + k, none⟩ = some (.int .u8 (zs.getD k 0))) := C3.out.2.2.2
        go_loopw [4, 6] (fun e j wr2 => ∃ (i : Nat), i ≤ m ∧ j = .int .i64 i ∧ e = .bool (z0 && Plain.zeros (zs.take i)) ∧ w2 = wr2) (fun _ j _ => m - (intOf j).toNat)
        case atStart => exact ⟨0, Nat.zero_le _, rfl, by simp [Plain.zeros], rfl⟩
        case round =>
          obtain ⟨i, hi, rfl, rfl, rfl⟩ := hrel
          by_cases hlt2 : i < m
          · obtain ⟨b2, o2, rfl, _, hc2⟩ := hx3.out (by omega)
            have d0 := hc2 i hlt2
            have hsn := zeros_snoc zs i (by omega)
            clear hc2
            generalize zs.getD i 0 = y at *
            cases hz : (z0 && Plain.zeros (zs.take i)) with
            | true =>
              have HS : Hid ((z0 && Plain.zeros (zs.take (i + 1))) = (y == 0)) := by
                unfold Hid; rw [hsn, ← Bool.and_assoc, hz, Bool.true_and]
              clear hz hsn
              go_wp2
              go_roundw
              case rel => exact ⟨i + 1, by omega, by go_num, by rw [HS.out], by simp⟩
              case measure => simp [intOf]; omega
            | false =>
              have HS : Hid ((z0 && Plain.zeros (zs.take (i + 1))) = false) := by
                unfold Hid; rw [hsn, ← Bool.and_assoc, hz, Bool.false_and]
              clear hz hsn
              go_wp2
              go_roundw
              case rel => exact ⟨i + 1, by omega, by go_num, by rw [HS.out], by simp⟩
              case measure => simp [intOf]; omega
          · obtain rfl : i = m := by omega
            have HZ : Hid (allZeros (L.take (k + 1)) = (z0 && Plain.zeros (zs.take i))) := by
              unfold Hid; rw [HAS.out, List.take_of_length_le (by omega)]
            generalize (z0 && Plain.zeros (zs.take i)) = z1 at *
            go_wp2
            go_roundw
            case rel => exact ⟨k + 1, by omega, by go_num, by rw [HZ.out], by rw [HCS.out, List.length_append, HQ.out, hzl]; exact O2.out, by rw [HCS.out, List.length_append, HQ.out, hzl]; omega, K2.out⟩
            case measure => simp [intOf]; omega
      · go_wp2_with fail
        refine (law_runs _).mono ?_
        rintro e w1 ⟨rfl, k1⟩
        go_wp2
        go_ret
        exact ⟨rfl, BEL.out.trans (k1.mono hsz)⟩
    · obtain rfl : k = n := by omega
      have hLl := HL.out.1
      rw [List.take_of_length_le (by omega)] at OWN hlen
      rw [show allZeros (L.take k) = allZeros L by rw [List.take_of_length_le (by omega)]]
      have hzc := zeros_cat L
      have hle := Plain.lead_le (cat L)
      have hlf := Plain.lead_full (cat L)
      have hte := Plain.trail_le (cat L)
      have htf := Plain.trail_full (cat L)
      rw [hzc] at hlf htf
      obtain ⟨C, q, rfl, hC, _⟩ := own_bytes rfl OWN.out
      have HL2 := Lib.hid (HL.out.on BEL.out); have HC := Lib.hid hC
      clear hC OWN
      generalize cat L = ys at *
      generalize ys.length = m at *
      have HC2 := Lib.hid (HC.out.on ((Below.refl _ _).alloc (Nat.le_refl _) (.cells #[.slice C m q] 24)))
      have K2 := Lib.hid (BEL.out.alloc hsz (.cells #[.slice C m q] 24))
      cases hz : allZeros L with
      | true =>
        rw [hz] at hzc
        have h1 : Plain.lead ys = m := hlf.2 hz
        have h2 : Plain.trail ys = m := htf.2 hz
        have H1 := Lib.hid h1; have H2 := Lib.hid h2; have HZ := Lib.hid hz; have HZC := Lib.hid hzc
        clear h1 h2 hz hzc hlf htf hle hte
        go_wp2_with fail
        refine (zero_at _ _ _ L _ _ (by omega) HL2.out HZ.out).mono ?_
        rintro e w3 ⟨rfl, rfl⟩
        go_wp2_with fail
        refine (zero_one_at _ _ _ ys _ _ _ rfl HC.out HZC.out).mono ?_
        rintro e w3 ⟨rfl, rfl⟩
        go_wp2_with fail
        refine (lead_at _ _ _ ys _ _ HC2.out H1.out).mono ?_
        rintro e w3 ⟨rfl, rfl⟩
        go_wp2_with fail
        refine (trail_at _ _ _ ys _ _ HC2.out H2.out).mono ?_
        rintro e w3 ⟨rfl, rfl⟩
        go_wp2_with fail
        refine (law_runs _).mono ?_
        rintro e w3 ⟨rfl, k3⟩
        go_wp2
        go_ret
        exact ⟨by first | rfl | simp, K2.out.trans (k3.mono K2.out.size)⟩
      | false =>
        rw [hz] at hzc
        have h1 : Plain.lead ys ≠ m := fun h => by rw [hlf.1 h] at hz; cases hz
        have h2 : Plain.trail ys ≠ m := fun h => by rw [htf.1 h] at hz; cases hz
        have HZ := Lib.hid hz; have HZC := Lib.hid hzc
        obtain ⟨x, hx⟩ : ∃ x, Plain.lead ys = x := ⟨_, rfl⟩
        obtain ⟨y, hy⟩ : ∃ x, Plain.trail ys = x := ⟨_, rfl⟩
        rw [hx] at h1 hle
        rw [hy] at h2 hte
        have H1 := Lib.hid hx; have H2 := Lib.hid hy
        have h1b : ((x : Int) == (m : Int)) = false := by simp; omega
        have h2b : ((y : Int) == (m : Int)) = false := by simp; omega
        clear hx hy hz hzc hlf htf
        go_wp2_with fail
        refine (zero_at _ _ _ L _ _ (by omega) HL2.out HZ.out).mono ?_
        rintro e w3 ⟨rfl, rfl⟩
        go_wp2_with fail
        refine (zero_one_at _ _ _ ys _ _ _ rfl HC.out HZC.out).mono ?_
        rintro e w3 ⟨rfl, rfl⟩
        go_wp2_with fail
        refine (lead_at _ _ _ ys _ _ HC2.out H1.out).mono ?_
        rintro e w3 ⟨rfl, rfl⟩
        go_wp2_with fail
        refine (trail_at _ _ _ ys _ _ HC2.out H2.out).mono ?_
        rintro e w3 ⟨rfl, rfl⟩
        go_wp2_with fail
        refine (law_runs _).mono ?_
        rintro e w3 ⟨rfl, k3⟩
        go_wp2
        go_ret
        exact ⟨by first | rfl | simp, K2.out.trans (k3.mono K2.out.size)⟩

theorem zero_walk (A : Option Addr) (n c : Nat) (L : List El) (w : World) (hr : IsRows w A n L) :
    Calls Try.prog 5 #[.slice A n c] w fun e w' => e = .returned (.bool true) ∧ Below w.heap.size w w' := by
  by_cases hn : n ≤ 50
  · exact zero_small A n c L w hr hn
  · have := hr.1
    unfold maxLen at this
    exact zero_big A n c w (by omega) (by omega)

end Go.Proofs.Ytjmgdnkfhfbbiaa
