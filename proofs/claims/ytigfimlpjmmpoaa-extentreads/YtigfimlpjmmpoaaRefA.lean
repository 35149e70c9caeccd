/- Contracts of the reference's find, At, MayContent. -/
import Derived.Test.YtigfimlpjmmpoaaWalksA
import Derived.Test.YtigfimlpjmmpoaaSpecB
import Derived.WalkKit
import Derived.WalkSpells
import Derived.WalkLawsBesides
import Derived.Lib.Hide
import Derived.BigQuiet
namespace Go.Proofs.Ytigfimlpjmmpoaa
open Go.RowKit

def fnd (L : List Ex) (k : Int) : Int := if (look L k).isSome = true then (idx L k : Int) else -1
theorem fnd_yes {L : List Ex} (hu : Up L) {k : Int} {j : Nat} (hj : j < L.length) (h : (L.getD j default).no = k) : fnd L k = (j : Int) ∧ look L k = some (L.getD j default).bs := by
  have hm : L.getD j default ∈ L := by rw [List.getD_eq_getElem?_getD, List.getElem?_eq_getElem hj]; exact List.getElem_mem _
  have h1 := look_mem hu hm
  rw [h] at h1
  have h2 : idx L k = j := idx_unique (by omega) (fun i hi => by have := up_lt hu i j hi hj; omega) (fun _ => by omega)
  exact ⟨by rw [fnd, h1, h2]; rfl, h1⟩
theorem fnd_no {L : List Ex} {k : Int} (h : ∀ j, j < L.length → (L.getD j default).no ≠ k) : fnd L k = -1 ∧ look L k = none := by
  have h1 : look L k = none := look_none fun e he hk => by
    obtain ⟨j, hj, rfl⟩ := List.mem_iff_getElem.1 he
    have := h j hj
    rw [List.getD_eq_getElem?_getD, List.getElem?_eq_getElem hj] at this
    exact this hk
  exact ⟨by rw [fnd, h1]; rfl, h1⟩

set_option maxHeartbeats 2000000 in
theorem rfind_any (s : Int) (A : Option Addr) (n c : Nat) (L : List Ex) (k : Int) (w : World) (h : Exts w A n c L) (hu : Up L) (v : Int) (hv : fnd L k = v) :
    Calls Try.prog 38 #[ct s A n c, .int .i64 k] w fun e w' => e = .returned (.int .i64 v) ∧ Below w.heap.size w w' := by
  have HV := Lib.hid hv
  have K0 := Lib.hid (show Below w.heap.size w (w.alloc (.cells #[.int .i64 s, .slice A n c] 24)) from (Below.refl _ _).alloc (Nat.le_refl _) _)
  have H := Lib.hid h; have HU := Lib.hid hu
  have hm := h.max
  clear h hv hu
  show Calls Try.prog 38 #[.agg #[.int .i64 s, .slice A n c], .int .i64 k] w _
  go_enter Try.func38, Try.ntmps38
  go_wp2
  go_loop [5] (fun i => ∃ j : Nat, j ≤ n ∧ i = .int .i64 j ∧ Hid (∀ m, m < j → (L.getD m default).no ≠ k)) (fun i => n - (intOf i).toNat)
  case atStart => exact ⟨0, Nat.zero_le _, rfl, fun m h => absurd h (by omega)⟩
  case round =>
    obtain ⟨j, hj, rfl, HT⟩ := hrel
    by_cases hlt : j < n
    · obtain ⟨b, o, rfl, hb, _⟩ := H.out.cells (by omega)
      have cn := (H.out.on K0.out).no j hlt
      have hji : (j : Int) < (n : Int) := by omega
      have HY := Lib.hid (show (L.getD j default).no = k → fnd L k = (j : Int) from fun h => (fnd_yes HU.out (j := j) (by rw [H.out.len]; exact hlt) h).1)
      have HN := Lib.hid (show (L.getD j default).no ≠ k → ∀ m, m < j + 1 → (L.getD m default).no ≠ k from fun h m hm => by
        by_cases he : m = j
        · rw [he]; exact h
        · exact HT.out m (by omega))
      generalize (L.getD j default).no = no at *
      by_cases g : no = k
      · go_wp2
        go_ret
        exact ⟨ret_int (by rw [← HV.out, HY.out g]), K0.out⟩
      · go_wp2
        go_round
        case rel => exact ⟨j + 1, by omega, by go_num, HN.out g⟩
        case measure => simp [intOf]; omega
    · obtain rfl : j = n := by omega
      have HF := Lib.hid (fnd_no (L := L) (k := k) (by rw [H.out.len]; exact HT.out)).1
      go_wp2
      go_ret
      exact ⟨ret_int (by rw [← HV.out, HF.out]), K0.out⟩

set_option maxHeartbeats 2000000 in
theorem rat_any (s : Int) (A : Option Addr) (n c : Nat) (L : List Ex) (p : Int) (w : World) (h : Exts w A n c L) (hu : Up L) (p0 : 0 ≤ p) (p1 : p ≤ 9223372036854775807) (v : Int) (hv : at_ L p = v) :
    Calls Try.prog 40 #[ct s A n c, .int .i64 p] w fun e w' => e = .returned (.int .u8 v) ∧ Below w.heap.size w w' := by
  have HV := Lib.hid hv
  have K0 := Lib.hid (show Below w.heap.size w (w.alloc (.cells #[.int .i64 s, .slice A n c] 24)) from (Below.refl _ _).alloc (Nat.le_refl _) _)
  have B0 := Lib.hid (box_new w s A n c)
  have H := Lib.hid h; have HU := Lib.hid hu
  have hm := h.max
  obtain ⟨r, hr⟩ : ∃ r : Nat, p % 8 = (r : Int) := ⟨(p % 8).toNat, by omega⟩
  have r8 : r < 8 := by omega
  clear h hv hu
  show Calls Try.prog 40 #[.agg #[.int .i64 s, .slice A n c], .int .i64 p] w _
  go_enter Try.func40, Try.ntmps40
  obtain ⟨u, huu⟩ : ∃ u, fnd L (p / 8) = u := ⟨_, rfl⟩
  have HF := Lib.hid huu
  clear huu
  go_wp2_with fail
  refine (rfind_any s A n c L (p / 8) _ (H.out.on K0.out) HU.out u HF.out).mono ?_
  rintro e w1 ⟨rfl, k1⟩
  have K1 := Lib.hid (K0.out.trans (k1.mono K0.out.size)); have B1 := Lib.hid (B0.out.on k1)
  have c0 := B1.out.c0; have c1 := B1.out.c1
  clear k1
  by_cases hneg : u < 0
  · go_wp2
    go_ret
    refine ⟨ret_int ?_, K1.out⟩
    rw [← HV.out, at_]
    cases hl : look L (p / 8) with
    | none => rfl
    | some bs => have := HF.out; rw [fnd, hl] at this; simp at this; omega
  · obtain ⟨i, rfl⟩ : ∃ i : Nat, u = (i : Int) := ⟨u.toNat, by omega⟩
    have hl := HF.out
    rw [fnd] at hl
    split at hl
    · rename_i his
      have hii : idx L (p / 8) = i := by omega
      have hx := look_idx HU.out (p / 8)
      rw [hii] at hx
      by_cases hc : i < L.length ∧ (L.getD i default).no = p / 8
      · rw [if_pos hc] at hx
        have hin : i < n := by rw [← H.out.len]; exact hc.1
        obtain ⟨b, o, rfl, hb, _⟩ := H.out.cells (by omega)
        have cb := (H.out.on K1.out).byte i hin r r8
        have HB := Lib.hid (show (L.getD i default).bs.getD r 0 = v by rw [← HV.out, at_, hx, hr]; rfl)
        rw [HB.out] at cb
        have hji : (i : Int) < (n : Int) := by omega
        clear hl his hx hc hneg hii
        have hi0 : (0 : Int) ≤ (i : Int) := by omega
        go_wp2
        go_ret
        exact ⟨rfl, K1.out⟩
      · rw [if_neg hc] at hx; rw [hx] at his; cases his
    · omega

set_option maxHeartbeats 4000000 in
theorem rmay_any (s : Int) (A : Option Addr) (n c : Nat) (L : List Ex) (w : World) (h : Exts w A n c L) (z : Bool) (hz : may s L = z) : Calls Try.prog 20 #[ct s A n c] w (TruthPost z w) := by
  have HZ := Lib.hid hz
  have K0 := Lib.hid (show Below w.heap.size w (w.alloc (.cells #[.int .i64 s, .slice A n c] 24)) from (Below.refl _ _).alloc (Nat.le_refl _) _)
  have H := Lib.hid h
  have hm := h.max
  clear h hz
  show Calls Try.prog 20 #[.agg #[.int .i64 s, .slice A n c]] w _
  go_enter Try.func20, Try.ntmps20
  by_cases s0 : 0 ≤ s
  · by_cases s1 : s ≤ 1099511627776
    · have HG := Lib.hid (show may s L = goodFrom s (-1) L by simp [may, s0, s1])
      go_wp2
      go_loop [3] (fun i => ∃ (j : Nat) (l : Int), j ≤ n ∧ i = .int .i64 j ∧ -1 ≤ l ∧ Hid (j = 0 → l = -1) ∧ Hid (0 < j → l = (L.getD (j - 1) default).no) ∧ Hid (may s L = goodFrom s l (L.drop j))) (fun i => n - (intOf i).toNat)
      case atStart => exact ⟨0, -1, Nat.zero_le _, rfl, by omega, fun _ => rfl, fun h => absurd h (by omega), HG.out⟩
      case round =>
        obtain ⟨j, l, hj, rfl, hl, HL0, HL1, HM⟩ := hrel
        by_cases hlt : j < n
        · obtain ⟨b, o, rfl, hb, _⟩ := H.out.cells (by omega)
          have cn := (H.out.on K0.out).no j hlt
          have HS := Lib.hid (good_step s l L j (by rw [H.out.len]; exact hlt))
          have hji : (j : Int) < (n : Int) := by omega
          have HB := Lib.hid (show ∀ k, k < 8 → (w.alloc (.cells #[.int .i64 s, .slice (some ⟨b, o, none⟩) n c] 24)).cell? ⟨b, o + j * 9 + 1 + k, none⟩ = some (.int .u8 ((L.getD j default).bs.getD k 0)) from fun k hk => (H.out.on K0.out).byte j hlt k hk)
          obtain ⟨e, he⟩ : ∃ e, L.getD j default = e := ⟨_, rfl⟩
          rw [he] at cn HS HB
          obtain ⟨no, hno⟩ : ∃ no, e.no = no := ⟨_, rfl⟩
          rw [hno] at cn HS
          have HNO := Lib.hid hno; have HE := Lib.hid he
          clear hno he
          by_cases n0 : l < no
          · by_cases n1 : no < 137438953472
            · have n00 : 0 ≤ no := by omega
              rcases Nat.eq_zero_or_pos j with hj0 | hj0
              · have hj1 : ¬ (0 : Int) < (j : Int) := by omega
                replace hj0 := Lib.hid hj0
                go_wp2
                go_loop [5] (fun i => ∃ k : Nat, k ≤ 8 ∧ i = .int .i64 k ∧ Hid (∀ q, q < k → s ≤ no * 8 + (q : Int) → e.bs.getD q 0 = 0)) (fun i => 8 - (intOf i).toNat)
                case atStart => exact ⟨0, by omega, rfl, fun q h => absurd h (by omega)⟩
                case round =>
                  obtain ⟨k, hk, rfl, HK⟩ := hrel
                  by_cases hk8 : k < 8
                  · have cb := HB.out k hk8
                    have hkk : (k : Int) < 8 := by omega
                    have HK1 := Lib.hid (show (s ≤ no * 8 + (k : Int) → e.bs.getD k 0 = 0) → ∀ q, q < k + 1 → s ≤ no * 8 + (q : Int) → e.bs.getD q 0 = 0 from fun h q hq => by
                      by_cases hqk : q = k
                      · subst hqk; exact h
                      · exact HK.out q (by omega))
                    have HNb := Lib.hid (show s ≤ no * 8 + (k : Int) → e.bs.getD k 0 ≠ 0 → bareB e s = false from fun h1 h2 => by
                      rw [← Bool.not_eq_true]
                      intro hb
                      exact h2 (bare_at hb k hk8 (by rw [HNO.out]; exact h1)))
                    generalize e.bs.getD k 0 = x at *
                    by_cases g1 : s ≤ no * 8 + (k : Int)
                    · by_cases g2 : x = 0
                      · go_wp2
                        go_round
                        case rel => exact ⟨k + 1, by omega, by go_num, HK1.out (fun _ => g2)⟩
                        case measure => simp [intOf]; omega
                      · have HF := Lib.hid (show may s L = false by rw [HM.out, HS.out, HNb.out g1 g2]; simp)
                        go_wp2
                        go_ret
                        exact ⟨ret_bool (by rw [← HZ.out, HF.out]), K0.out⟩
                    · go_wp2
                      go_round
                      case rel => exact ⟨k + 1, by omega, by go_num, HK1.out (fun h => absurd h g1)⟩
                      case measure => simp [intOf]; omega
                  · obtain rfl : k = 8 := by omega
                    have HBT := Lib.hid (show bareB e s = true from bare_of (fun q hq hs => HK.out q hq (by rw [← HNO.out]; exact hs)))
                    go_wp2
                    go_round
                    case rel => exact ⟨j + 1, no, by omega, by go_num, by omega, fun h => absurd h (by omega), fun _ => by rw [show j + 1 - 1 = j by omega, HE.out, HNO.out], by unfold Hid; rw [HM.out, HS.out, HBT.out]; simp [n0, n1]⟩
                    case measure => simp [intOf]; omega
              · have cp := (H.out.on K0.out).no (j - 1) (by omega)
                rw [← HL1.out hj0] at cp
                have hj1 : (0 : Int) < (j : Int) := by omega
                have hj2 : ((j : Int) - 1) = ((j - 1 : Nat) : Int) := by omega
                have hl2 : ¬ no ≤ l := by omega
                go_wp2
                go_loop [5] (fun i => ∃ k : Nat, k ≤ 8 ∧ i = .int .i64 k ∧ Hid (∀ q, q < k → s ≤ no * 8 + (q : Int) → e.bs.getD q 0 = 0)) (fun i => 8 - (intOf i).toNat)
                case atStart => exact ⟨0, by omega, rfl, fun q h => absurd h (by omega)⟩
                case round =>
                  obtain ⟨k, hk, rfl, HK⟩ := hrel
                  by_cases hk8 : k < 8
                  · have cb := HB.out k hk8
                    have hkk : (k : Int) < 8 := by omega
                    have HK1 := Lib.hid (show (s ≤ no * 8 + (k : Int) → e.bs.getD k 0 = 0) → ∀ q, q < k + 1 → s ≤ no * 8 + (q : Int) → e.bs.getD q 0 = 0 from fun h q hq => by
                      by_cases hqk : q = k
                      · subst hqk; exact h
                      · exact HK.out q (by omega))
                    have HNb := Lib.hid (show s ≤ no * 8 + (k : Int) → e.bs.getD k 0 ≠ 0 → bareB e s = false from fun h1 h2 => by
                      rw [← Bool.not_eq_true]
                      intro hb
                      exact h2 (bare_at hb k hk8 (by rw [HNO.out]; exact h1)))
                    generalize e.bs.getD k 0 = x at *
                    by_cases g1 : s ≤ no * 8 + (k : Int)
                    · by_cases g2 : x = 0
                      · go_wp2
                        go_round
                        case rel => exact ⟨k + 1, by omega, by go_num, HK1.out (fun _ => g2)⟩
                        case measure => simp [intOf]; omega
                      · have HF := Lib.hid (show may s L = false by rw [HM.out, HS.out, HNb.out g1 g2]; simp)
                        go_wp2
                        go_ret
                        exact ⟨ret_bool (by rw [← HZ.out, HF.out]), K0.out⟩
                    · go_wp2
                      go_round
                      case rel => exact ⟨k + 1, by omega, by go_num, HK1.out (fun h => absurd h g1)⟩
                      case measure => simp [intOf]; omega
                  · obtain rfl : k = 8 := by omega
                    have HBT := Lib.hid (show bareB e s = true from bare_of (fun q hq hs => HK.out q hq (by rw [← HNO.out]; exact hs)))
                    go_wp2
                    go_round
                    case rel => exact ⟨j + 1, no, by omega, by go_num, by omega, fun h => absurd h (by omega), fun _ => by rw [show j + 1 - 1 = j by omega, HE.out, HNO.out], by unfold Hid; rw [HM.out, HS.out, HBT.out]; simp [n0, n1]⟩
                    case measure => simp [intOf]; omega
            · have HF := Lib.hid (show may s L = false by rw [HM.out, HS.out]; simp [n1])
              have n00 : 0 ≤ no := by omega
              go_wp2
              go_ret
              exact ⟨ret_bool (by rw [← HZ.out, HF.out]), K0.out⟩
          · have HF := Lib.hid (show may s L = false by rw [HM.out, HS.out]; simp [n0])
            by_cases n00 : 0 ≤ no
            · by_cases n1 : no < 137438953472
              · have hj0 : 0 < j := by
                  rcases Nat.eq_zero_or_pos j with hj0 | hj0
                  · have := HL0.out hj0; omega
                  · exact hj0
                have cp := (H.out.on K0.out).no (j - 1) (by omega)
                rw [← HL1.out hj0] at cp
                have hj1 : (0 : Int) < (j : Int) := by omega
                have hj2 : ((j : Int) - 1) = ((j - 1 : Nat) : Int) := by omega
                go_wp2
                go_ret
                exact ⟨ret_bool (by rw [← HZ.out, HF.out]), K0.out⟩
              · go_wp2
                go_ret
                exact ⟨ret_bool (by rw [← HZ.out, HF.out]), K0.out⟩
            · go_wp2
              go_ret
              exact ⟨ret_bool (by rw [← HZ.out, HF.out]), K0.out⟩
        · obtain rfl : j = n := by omega
          have HT := Lib.hid (show may s L = true by rw [HM.out, List.drop_of_length_le (by rw [H.out.len]; omega)]; rfl)
          go_wp2
          go_ret
          exact ⟨ret_bool (by rw [← HZ.out, HT.out]), K0.out⟩
    · have HF := Lib.hid (show may s L = false by simp [may, s1])
      go_wp2
      go_ret
      exact ⟨ret_bool (by rw [← HZ.out, HF.out]), K0.out⟩
  · have HF := Lib.hid (show may s L = false by simp [may, s0])
    go_wp2
    go_ret
    exact ⟨ret_bool (by rw [← HZ.out, HF.out]), K0.out⟩
end Go.Proofs.Ytigfimlpjmmpoaa
