/- Contracts of the reference's DataContent, HoleContent. -/
import Derived.Test.YtigfimlpjmmpoaaRefA
import Derived.Test.YtigfimlpjmmpoaaWalksD
import Derived.WalkKit
import Derived.WalkSpells
import Derived.WalkLawsBesides
import Derived.Lib.Hide
import Derived.BigQuiet
namespace Go.Proofs.Ytigfimlpjmmpoaa
open Go.RowKit

set_option maxHeartbeats 4000000 in
theorem rdata_any (s : Int) (A : Option Addr) (n c : Nat) (L : List Ex) (p : Int) (w : World) (h : Exts w A n c L) (p0 : -9223372036854775808 ≤ p) (p1 : p ≤ 9223372036854775807) (d : Option Int) (hd : dat s L p = d) :
    Calls Try.prog 18 #[ct s A n c, .int .i64 p] w (OptPost d w) := by
  have HD := Lib.hid hd
  have K0 := Lib.hid (show Below w.heap.size w (w.alloc (.cells #[.int .i64 s, .slice A n c] 24)) from (Below.refl _ _).alloc (Nat.le_refl _) _)
  have B0 := Lib.hid (box_new w s A n c)
  have H := Lib.hid h
  have hm := h.max
  clear h hd
  show Calls Try.prog 18 #[.agg #[.int .i64 s, .slice A n c], .int .i64 p] w _
  go_enter Try.func18, Try.ntmps18
  go_wp2_with fail
  obtain ⟨z, hz⟩ : ∃ z, may s L = z := ⟨_, rfl⟩
  have HM := Lib.hid hz
  clear hz
  refine (rmay_any s A n c L _ (H.out.on K0.out) z HM.out).mono ?_
  rintro e w1 ⟨rfl, k1⟩
  have K1 := Lib.hid (K0.out.trans (k1.mono K0.out.size)); have B1 := Lib.hid (B0.out.on k1)
  clear k1 K0 B0
  cases z with
  | false =>
    have HF := Lib.hid (show dat s L p = none by rw [dat, if_neg (by rw [HM.out]; simp)])
    go_wp2
    go_ret2
    exact ⟨by rw [← HD.out, HF.out]; rfl, K1.out⟩
  | true =>
    have HG := Lib.hid ((may_iff s L).1 HM.out)
    by_cases q0 : 0 ≤ p
    · have c0 := B1.out.c0; have c1 := B1.out.c1
      go_wp2
      go_loop [6] (fun i => ∃ j : Nat, j ≤ n ∧ i = .int .i64 j ∧ Hid (∀ m, m < j → ¬ (max ((L.getD m default).no * 8) p < ((L.getD m default).no + 1) * 8 ∧ max ((L.getD m default).no * 8) p < s))) (fun i => n - (intOf i).toNat)
      case atStart => exact ⟨0, Nat.zero_le _, rfl, fun m h => absurd h (by omega)⟩
      case round =>
        obtain ⟨j, hj, rfl, HT⟩ := hrel
        by_cases hlt : j < n
        · have HR := Lib.hid (HG.out.rng (L.getD j default) (by rw [List.getD_eq_getElem?_getD, List.getElem?_eq_getElem (by rw [H.out.len]; exact hlt)]; exact List.getElem_mem _))
          obtain ⟨b, o, rfl, hb, _⟩ := H.out.cells (by omega)
          have cn := (H.out.on K1.out).no j hlt
          have hji : (j : Int) < (n : Int) := by omega
          have HY := Lib.hid (show (max ((L.getD j default).no * 8) p < ((L.getD j default).no + 1) * 8 ∧ max ((L.getD j default).no * 8) p < s) → dat s L p = some (max p ((L.getD j default).no * 8)) from fun h => by
            have hi := dat_first HG.out.up s p j (by rw [H.out.len]; exact hlt) HT.out h
            rw [dat, hi, if_pos ⟨HM.out, q0, by rw [H.out.len]; exact hlt, by have := h.2; omega⟩])
          have HN := Lib.hid (show ¬ (max ((L.getD j default).no * 8) p < ((L.getD j default).no + 1) * 8 ∧ max ((L.getD j default).no * 8) p < s) → ∀ m, m < j + 1 → ¬ (max ((L.getD m default).no * 8) p < ((L.getD m default).no + 1) * 8 ∧ max ((L.getD m default).no * 8) p < s) from fun h m hm => by
            by_cases he : m = j
            · rw [he]; exact h
            · exact HT.out m (by omega))
          generalize (L.getD j default).no = no at *
          obtain ⟨r0, r1⟩ := HR.out
          by_cases g1 : no * 8 < p
          · have hmx : max (no * 8) p = p := by omega
            have hmy : max p (no * 8) = p := by omega
            rw [hmx] at HY HN
            rw [hmy] at HY
            by_cases g2 : p < (no + 1) * 8
            · by_cases g3 : p < s
              · go_wp2
                go_ret2
                exact ⟨by rw [← HD.out, HY.out ⟨g2, g3⟩]; rfl, K1.out⟩
              · go_wp2
                go_round
                case rel => exact ⟨j + 1, by omega, by go_num, HN.out (fun h => g3 h.2)⟩
                case measure => simp [intOf]; omega
            · go_wp2
              go_round
              case rel => exact ⟨j + 1, by omega, by go_num, HN.out (fun h => g2 h.1)⟩
              case measure => simp [intOf]; omega
          · have g1' : p ≤ no * 8 := by omega
            have hmx : max (no * 8) p = no * 8 := by omega
            have hmy : max p (no * 8) = no * 8 := by omega
            rw [hmx] at HY HN
            rw [hmy] at HY
            have g2 : no * 8 < (no + 1) * 8 := by omega
            by_cases g3 : no * 8 < s
            · go_wp2
              all_goals
                go_ret2
                exact ⟨by rw [← HD.out, HY.out ⟨g2, g3⟩]; first | rfl | (simp; omega), K1.out⟩
            · go_wp2
              all_goals
                go_round
                case rel => exact ⟨j + 1, by omega, by go_num, HN.out (fun h => g3 h.2)⟩
                case measure => simp [intOf]; omega
        · obtain rfl : j = n := by omega
          have HF := Lib.hid (show dat s L p = none by
            rw [dat, if_neg (fun h => dat_none HG.out.up s p (by rw [H.out.len]; exact HT.out) ⟨h.2.2.1, h.2.2.2⟩)])
          go_wp2
          go_ret2
          exact ⟨by rw [← HD.out, HF.out]; rfl, K1.out⟩
    · have HF := Lib.hid (show dat s L p = none by rw [dat, if_neg (fun h => q0 h.2.1)])
      go_wp2
      go_ret2
      exact ⟨by rw [← HD.out, HF.out]; rfl, K1.out⟩

set_option maxHeartbeats 4000000 in
theorem rhole_any (s : Int) (A : Option Addr) (n c : Nat) (L : List Ex) (p : Int) (w : World) (h : Exts w A n c L) (p0 : -9223372036854775808 ≤ p) (p1 : p ≤ 9223372036854775807) (d : Option Int) (hd : hol s L p = d) :
    Calls Try.prog 19 #[ct s A n c, .int .i64 p] w (OptPost d w) := by
  have HD := Lib.hid hd
  have K0 := Lib.hid (show Below w.heap.size w (w.alloc (.cells #[.int .i64 s, .slice A n c] 24)) from (Below.refl _ _).alloc (Nat.le_refl _) _)
  have B0 := Lib.hid (box_new w s A n c)
  have H := Lib.hid h
  have hm := h.max
  clear h hd
  show Calls Try.prog 19 #[.agg #[.int .i64 s, .slice A n c], .int .i64 p] w _
  go_enter Try.func19, Try.ntmps19
  go_wp2_with fail
  obtain ⟨z, hz⟩ : ∃ z, may s L = z := ⟨_, rfl⟩
  have HM := Lib.hid hz
  clear hz
  refine (rmay_any s A n c L _ (H.out.on K0.out) z HM.out).mono ?_
  rintro e w1 ⟨rfl, k1⟩
  have K1 := Lib.hid (K0.out.trans (k1.mono K0.out.size)); have B1 := Lib.hid (B0.out.on k1)
  clear k1 K0 B0
  have c0 := B1.out.c0; have c1 := B1.out.c1
  cases z with
  | false =>
    have HF := Lib.hid (show hol s L p = none by rw [hol, if_neg (by rw [HM.out]; simp)])
    go_wp2
    go_ret2
    exact ⟨by rw [← HD.out, HF.out]; rfl, K1.out⟩
  | true =>
    have HG := Lib.hid ((may_iff s L).1 HM.out)
    by_cases q0 : 0 ≤ p
    · by_cases q1 : p < s
      · have HV := Lib.hid (show hol s L p = some (min (max p (gap L (p / 8) * 8)) s) by rw [hol, if_pos ⟨HM.out, q0, q1⟩])
        have hs1 := HG.out.s1
        go_wp2
        go_loopw [1] (fun a wr => ∃ t : Int, p ≤ t ∧ t ≤ 1099511627776 ∧ a = .int .i64 t ∧ Hid (t = p ∨ t % 8 = 0) ∧ Hid (gap L (p / 8) = gap L (t / 8)) ∧ Hid (Below w.heap.size w wr) ∧ Hid (Box wr w.heap.size s A n c)) (fun a _ => (1099511627784 - intOf a).toNat)
        case atStart => exact ⟨p, Int.le_refl _, by omega, rfl, .inl rfl, rfl, K1.out, B1.out⟩
        case round =>
          clear c0 c1 K1 B1
          obtain ⟨t, ht, ht2, rfl, HX, HGp, K2, B2⟩ := hrel
          have c0 := B2.out.c0; have c1 := B2.out.c1
          obtain ⟨u, huu⟩ : ∃ u, fnd L (t / 8) = u := ⟨_, rfl⟩
          have HF := Lib.hid huu
          clear huu
          have t0 : 0 ≤ t := by omega
          go_wp2_with fail
          refine (rfind_any s A n c L (t / 8) _ (H.out.on K2.out) HG.out.up u HF.out).mono ?_
          rintro e w3 ⟨rfl, k3⟩
          have K3 := Lib.hid (K2.out.trans (k3.mono K2.out.size)); have B3 := Lib.hid (B2.out.on k3)
          clear k3 K2 B2 c0 c1
          have c0 := B3.out.c0; have c1 := B3.out.c1
          cases hl : look L (t / 8) with
          | none =>
            obtain rfl : u = -1 := by rw [← HF.out, fnd, hl]; rfl
            have HQ := Lib.hid (show gap L (p / 8) = t / 8 by rw [HGp.out, gap_none HG.out.up hl])
            rw [HQ.out] at HV
            have HL := Lib.hid hl
            clear hl
            by_cases g : t < s
            · have HE := Lib.hid (show min (max p (t / 8 * 8)) s = t by rcases HX.out with h | h <;> omega)
              rw [HE.out] at HV
              go_wp2
              all_goals
                go_ret2
                exact ⟨by rw [← HD.out, HV.out]; first | rfl | (simp; omega), K3.out⟩
            · have HE := Lib.hid (show min (max p (t / 8 * 8)) s = s by rcases HX.out with h | h <;> omega)
              rw [HE.out] at HV
              go_wp2
              all_goals
                go_ret2
                exact ⟨by rw [← HD.out, HV.out]; first | rfl | (simp; omega), K3.out⟩
          | some bs =>
            have hu0 : 0 ≤ u := by rw [← HF.out, fnd, hl]; simp
            have hrg := HG.out.look hl
            have HGq := Lib.hid (show gap L (p / 8) = gap L (t / 8 + 1) by rw [HGp.out, gap_some HG.out.up hl])
            have h8 := hrg.2.1
            clear hl hrg
            go_wp2
            go_roundw
            case rel => exact ⟨(t / 8 + 1) * 8, by omega, by omega, by go_num, .inr (by omega), by unfold Hid; rw [HGq.out]; congr 1; omega, K3.out, B3.out⟩
            case measure => simp [intOf]; omega
      · have HF := Lib.hid (show hol s L p = none by rw [hol, if_neg (fun h => q1 h.2.2)])
        go_wp2
        go_ret2
        exact ⟨by rw [← HD.out, HF.out]; rfl, K1.out⟩
    · have HF := Lib.hid (show hol s L p = none by rw [hol, if_neg (fun h => q0 h.2.1)])
      go_wp2
      go_ret2
      exact ⟨by rw [← HD.out, HF.out]; rfl, K1.out⟩
end Go.Proofs.Ytigfimlpjmmpoaa
