/- Contracts of extent's Hole, of the reference's find, At, DataContent, HoleContent. -/
import Derived.Test.YtigfimlpjmmpoaaWalksD
import Derived.WalkKit
import Derived.WalkSpells
import Derived.WalkLawsBesides
import Derived.Lib.Hide
import Derived.BigQuiet
namespace Go.Proofs.Ytigfimlpjmmpoaa
open Go.RowKit

set_option maxHeartbeats 4000000 in
theorem hole_any (s : Int) (A : Option Addr) (n c : Nat) (L : List Ex) (p : Int) (w : World) (h : Exts w A n c L) (hn : n ≤ 1000000) (p0 : -9223372036854775808 ≤ p) (p1 : p ≤ 9223372036854775807) (d : Option Int) (hd : hol s L p = d) :
    Calls Try.prog 14 #[ct s A n c, .int .i64 p] w (OptPost d w) := by
  have HD := Lib.hid hd
  have K0 := Lib.hid (show Below w.heap.size w (w.alloc (.cells #[.int .i64 s, .slice A n c] 24)) from (Below.refl _ _).alloc (Nat.le_refl _) _)
  have B0 := Lib.hid (box_new w s A n c)
  have H := Lib.hid h
  have hm := h.max
  clear h hd
  show Calls Try.prog 14 #[.agg #[.int .i64 s, .slice A n c], .int .i64 p] w _
  go_enter Try.func14, Try.ntmps14
  go_wp2_with fail
  obtain ⟨z, hz⟩ : ∃ z, may s L = z := ⟨_, rfl⟩
  have HM := Lib.hid hz
  clear hz
  refine (may_any s A n c L _ (H.out.on K0.out) z HM.out).mono ?_
  rintro e w1 ⟨rfl, k1⟩
  have K1 := Lib.hid (K0.out.trans (k1.mono K0.out.size)); have B1 := Lib.hid (B0.out.on k1)
  clear k1 K0 B0
  have c0 := B1.out.c0; have c1 := B1.out.c1
  cases z with
  | false =>
    have HF := Lib.hid (show hol s L p = none by rw [hol, if_neg (by rw [HM.out]; simp)])
    go_wp2
    go_ret2
    exact ⟨by rw [← HD.out, HF.out]; rfl, K1.out⟩
  | true =>
    have HG := Lib.hid ((may_iff s L).1 HM.out)
    by_cases q0 : 0 ≤ p
    · by_cases q1 : p < s
      · have HV := Lib.hid (show hol s L p = some (min (max p (gap L (p / 8) * 8)) s) by rw [hol, if_pos ⟨HM.out, q0, q1⟩])
        have hs1 := HG.out.s1
        go_wp2_with fail
        obtain ⟨i, hi⟩ : ∃ i, idx L (p / 8) = i := ⟨_, rfl⟩
        obtain ⟨y, hy⟩ : ∃ y, (look L (p / 8)).isSome = y := ⟨_, rfl⟩
        have HI := Lib.hid hi; have HY := Lib.hid hy
        clear hi hy
        refine (find_any A n c L (p / 8) _ (H.out.on K1.out) HG.out.up hn i y HI.out HY.out).mono ?_
        rintro e w2 ⟨rfl, k2⟩
        have K2 := Lib.hid (K1.out.trans (k2.mono K1.out.size)); have B2 := Lib.hid (B1.out.on k2)
        clear k2 c0 c1 K1 B1
        have c0 := B2.out.c0; have c1 := B2.out.c1
        have hin : i ≤ n := by rw [← HI.out, ← H.out.len]; exact idx_le _ _
        have G0 := Lib.hid (show gap L (p / 8) = gap (L.drop i) (p / 8) by rw [gap_idx, HI.out])
        have HUI := Lib.hid (show ∀ m, i ≤ m → m < n → p / 8 ≤ (L.getD m default).no from fun m h1 h2 => idx_ge L _ HG.out.up m (by rw [HI.out]; exact h1) (by rw [H.out.len]; exact h2))
        go_wp2
        go_loop [6, 7] (fun a b => ∃ (k : Int) (x : Nat), p / 8 ≤ k ∧ k ≤ 137438953472 ∧ i ≤ x ∧ x ≤ n ∧ a = .int .i64 k ∧ b = .int .i64 x ∧ Hid (gap L (p / 8) = gap (L.drop x) k) ∧ Hid (∀ m, x ≤ m → m < n → k ≤ (L.getD m default).no)) (fun _ b => n - (intOf b).toNat)
        case atStart => exact ⟨p / 8, i, Int.le_refl _, by omega, Nat.le_refl _, hin, rfl, rfl, G0.out, HUI.out⟩
        case round =>
          clear G0 HUI
          obtain ⟨k, x, hk, hk2, hix, hxn, rfl, rfl, HGp, HU⟩ := hrel
          by_cases hlt : x < n
          · obtain ⟨b, o, rfl, hb, _⟩ := H.out.cells (by omega)
            have cn := (H.out.on K2.out).no x hlt
            have hxl : (x : Int) < (n : Int) := by omega
            have HR := HG.out.rng (L.getD x default) (by rw [List.getD_eq_getElem?_getD, List.getElem?_eq_getElem (by rw [H.out.len]; exact hlt)]; exact List.getElem_mem _)
            have HS := Lib.hid (gap_step L x (by rw [H.out.len]; exact hlt) k)
            have HP := Lib.hid (gap_stop L x (by rw [H.out.len]; exact hlt) k)
            have hge := HU.out x (Nat.le_refl _) hlt
            have HUP := Lib.hid (show (L.getD x default).no = k → ∀ m, x + 1 ≤ m → m < n → k + 1 ≤ (L.getD m default).no from fun h m h1 h2 => by
              have := up_lt HG.out.up x m (by omega) (by rw [H.out.len]; exact h2)
              omega)
            generalize (L.getD x default).no = no at *
            obtain ⟨r0, r1⟩ := HR
            by_cases g1 : no = k
            · subst g1
              go_wp2
              go_round
              case rel => exact ⟨no + 1, x + 1, by omega, by omega, by omega, by omega, rfl, by go_num, by unfold Hid; rw [HGp.out]; exact HS.out rfl, HUP.out rfl⟩
              case measure => simp [intOf]; omega
            · have HQ := Lib.hid (show gap L (p / 8) = k by rw [HGp.out]; exact HP.out (by omega))
              rw [HQ.out] at HV
              clear HQ HGp HS HP HU HUP
              go_wp2
              all_goals
                go_ret2
                refine ⟨?_, K2.out⟩
                rw [← HD.out, HV.out]
                refine ret_pair ?_ rfl
                show _ = min (max p (k * 8)) s
                repeat (rename_i hh; revert hh)
                repeat' split
                all_goals intros
                all_goals omega
          · obtain rfl : x = n := by omega
            have HQ := Lib.hid (show gap L (p / 8) = k by rw [HGp.out]; exact gap_end L x k (by rw [H.out.len]; exact Nat.le_refl _))
            rw [HQ.out] at HV
            clear HQ HGp HU
            go_wp2
            all_goals
              go_ret2
              refine ⟨?_, K2.out⟩
              rw [← HD.out, HV.out]
              refine ret_pair ?_ rfl
              show _ = min (max p (k * 8)) s
              repeat (rename_i hh; revert hh)
              repeat' split
              all_goals intros
              all_goals omega
      · have HF := Lib.hid (show hol s L p = none by rw [hol, if_neg (fun h => q1 h.2.2)])
        go_wp2
        go_ret2
        exact ⟨by rw [← HD.out, HF.out]; rfl, K1.out⟩
    · have HF := Lib.hid (show hol s L p = none by rw [hol, if_neg (fun h => q0 h.2.1)])
      go_wp2
      go_ret2
      exact ⟨by rw [← HD.out, HF.out]; rfl, K1.out⟩
end Go.Proofs.Ytigfimlpjmmpoaa
