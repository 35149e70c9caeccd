/- The law SwabTwice, walked. -/
import Derived.Test.YtjmbnjlicjicbaaRegionBy
import Derived.WalkKit
import Derived.WalkSpells
import Derived.WalkLawsBesides
import Derived.Lib.Hide
import Derived.BigQuiet
import Derived.Deep.RegionHeld3
namespace Go.Proofs.Ytjmbnjlicjicbaa
open Go.RowKit

def TwS (w : World) (A : Option Addr) (n c : Nat) (zs : List Int) (w' : World) : Prop := Bytes w' A n c zs ∧ Below w.heap.size w w'

set_option maxHeartbeats 400000 in
theorem twice_great (A : Option Addr) (n c : Nat) (w : World) (hm : n ≤ 9223372036854775807) (h : 3000 < n) : Calls Try.prog 6 #[.slice A n c] w fun e w' => e = .returned (.bool true) ∧ Below w.heap.size w w' := by
  go_enter Try.func6, Try.ntmps6
  go_wp2_with fail
  refine (law_runs _).mono ?_
  rintro e w2 ⟨rfl, k2⟩
  go_wp2
  go_ret
  exact ⟨rfl, k2⟩

set_option maxRecDepth 100000 in
set_option maxHeartbeats 4000000 in
theorem twice_small (A : Option Addr) (n c : Nat) (zs : List Int) (w : World) (hB : Bytes w A n c zs) (hA : A = none → n = 0 ∧ c = 0) (hR : Are zs) (h3000 : n ≤ 3000) : Calls Try.prog 6 #[.slice A n c] w fun e w' => e = .returned (.bool true) ∧ Below w.heap.size w w' := by
  have HB := Lib.hid hB; have NA := Lib.hid hA; have AR := Lib.hid hR; have HN := Lib.hid hB.1
  clear hB hA hR
  obtain ⟨ss, hss⟩ : ∃ ss, sw zs = ss := ⟨_, rfl⟩
  have SS := Lib.hid (show sw ss = zs by rw [← hss, sw_sw])
  have AS := Lib.hid (show Are ss by rw [← hss]; exact AR.out.sw)
  have LS := Lib.hid (show ss.length = n by rw [← hss, sw_len, HN.out])
  have ES := Lib.hid hss
  clear hss
  have SZ := Lib.hid (show (strOfNums ss).size = n by rw [str_size, LS.out])
  go_enter Try.func6, Try.ntmps6
  have L0 := Lib.hid (lists_one w ⟨A, n, c, zs⟩ 24 _ rfl ⟨HB.out, NA.out⟩)
  have K0 := Lib.hid (show Below w.heap.size w (w.alloc (.cells #[.slice A n c] 24)) from (Below.refl _ _).alloc (Nat.le_refl _) _)
  go_wp2_with fail
  refine (whole_any true _ 1 1 [⟨A, n, c, zs⟩] ss _ L0.out (by omega) (by simpa [cat, HN.out] using h3000) (by simpa [cat, sn] using ES.out)).mono ?_
  rintro e w1 ⟨rfl, k1⟩
  have B1 := Lib.hid (K0.out.trans (k1.mono K0.out.size))
  clear k1 L0 K0
  have hsz : ((strOfNums ss).size : Int) = (n : Int) := by rw [SZ.out]
  obtain ⟨A7, c7, w7, hcv, q7, k7⟩ := str_bytes ss AS.out n LS.out (by omega) w1.drew
  have k7 := Lib.hid k7
  have L8 := Lib.hid (lists_one w7 ⟨A7, n, c7, ss⟩ 24 _ rfl q7)
  have K8 := Lib.hid (show Below w7.heap.size w7 (w7.alloc (.cells #[.slice A7 n c7] 24)) from (Below.refl _ _).alloc (Nat.le_refl _) _)
  clear q7
  go_wp2_with fail
  have hS : TwS w A n c zs w1.drew := ⟨(HB.out.on B1.out).on (Below.refl _ _).drew, B1.out.drew⟩
  refine wp_region_held_drew (S := fun w' => TwS w A n c zs w') (by kernel_rfl) hS (fun hHeld => ?_)
  clear hS
  show wpAnyH _ _ _ _ _ 14 _ _ _
  refine take_at 0 13 (v := ?vt0) (fuel := 13) rfl rfl (by kernel_rfl) (by kernel_rfl) (by kernel_rfl) (fun _ _ _ h => h) (by rfl) hHeld ?hyt0 ?restt0
  case hyt0 => (intro w' hSw; (try dsimp only at hSw); go_simp <;> with_reducible rfl)
  simp only [Act.put, List.setIfInBounds_toArray, List.set_cons_zero, List.set_cons_succ]
  refine take_at 1 14 (v := ?vt1) (fuel := 12) rfl rfl (by kernel_rfl) (by kernel_rfl) (by kernel_rfl) (fun _ _ _ h => h) (by rfl) hHeld ?hyt1 ?restt1
  case hyt1 => (intro w' hSw; (try dsimp only at hSw); go_simp <;> with_reducible rfl)
  simp only [Act.put, List.setIfInBounds_toArray, List.set_cons_zero, List.set_cons_succ]
  refine take_at 2 15 (v := ?vt2) (fuel := 11) rfl rfl (by kernel_rfl) (by kernel_rfl) (by kernel_rfl) (fun _ _ _ h => h) (by rfl) hHeld ?hyt2 ?restt2
  case hyt2 => (intro w' hSw; (try dsimp only at hSw); go_simp <;> with_reducible rfl)
  simp only [Act.put, List.setIfInBounds_toArray, List.set_cons_zero, List.set_cons_succ]
  refine take_at 3 16 (v := ?vt3) (fuel := 10) rfl rfl (by kernel_rfl) (by kernel_rfl) (by kernel_rfl) (fun _ _ _ h => h) (by rfl) hHeld ?hyt3 ?restt3
  case hyt3 => (intro w' hSw; (try dsimp only at hSw); go_simp <;> with_reducible rfl)
  simp only [Act.put, List.setIfInBounds_toArray, List.set_cons_zero, List.set_cons_succ]
  refine take_at 4 17 (v := ?vt4) (fuel := 9) rfl rfl (by kernel_rfl) (by kernel_rfl) (by kernel_rfl) (fun _ _ _ h => h) (by rfl) hHeld ?hyt4 ?restt4
  case hyt4 => (intro w' hSw; (try dsimp only at hSw); go_simp <;> with_reducible rfl)
  simp only [Act.put, List.setIfInBounds_toArray, List.set_cons_zero, List.set_cons_succ]
  refine take_at 5 18 (v := ?vt5) (fuel := 8) rfl rfl (by kernel_rfl) (by kernel_rfl) (by kernel_rfl) (fun _ _ _ h => h) (by rfl) hHeld ?hyt5 ?restt5
  case hyt5 => (intro w' hSw; (try dsimp only at hSw); go_simp <;> with_reducible rfl)
  simp only [Act.put, List.setIfInBounds_toArray, List.set_cons_zero, List.set_cons_succ]
  refine take_at 6 19 (v := ?vt6) (fuel := 7) rfl rfl (by kernel_rfl) (by kernel_rfl) (by kernel_rfl) (fun _ _ _ h => h) (by rfl) hHeld ?hyt6 ?restt6
  case hyt6 => (intro w' hSw; (try dsimp only at hSw); go_simp <;> with_reducible rfl)
  simp only [Act.put, List.setIfInBounds_toArray, List.set_cons_zero, List.set_cons_succ]
  refine take_at 10 23 (v := ?vt10) (fuel := 6) rfl rfl (by kernel_rfl) (by kernel_rfl) (by kernel_rfl) (fun _ _ _ h => h) (by rfl) hHeld ?hyt10 ?restt10
  case hyt10 => (intro w' hSw; (try dsimp only at hSw); go_simp <;> with_reducible rfl)
  simp only [Act.put, List.setIfInBounds_toArray, List.set_cons_zero, List.set_cons_succ]
  refine take_text 11 24 (fuel := 5) _ A n c zs rfl rfl (by kernel_rfl) (by kernel_rfl) (by kernel_rfl) (fun _ _ _ h => h) (by rfl) hHeld rfl rfl (fun _ h => h.1) NA.out ?_
  simp only [Act.put, List.setIfInBounds_toArray, List.set_cons_zero, List.set_cons_succ]
  refine wpAnyH_ready (rs := [7]) (fuel := 4) (by kernel_rfl) (by simp) ?_
  refine AllReadyH.cons rfl (fun K hK => ?_) AllReadyH.nil
  go_simp
  refine hK.out _ _ ⟨hHeld.1.on k7.out, hHeld.2.trans (k7.out.mono hHeld.2.size)⟩ (fun hH1 => ?_)
  clear hK K hHeld hcv
  (try simp only [Act.put, List.setIfInBounds_toArray, List.set_cons_zero, List.set_cons_succ])
  refine wpAnyH_ready (rs := [8]) (fuel := 3) (by kernel_rfl) (by simp) ?_
  refine AllReadyH.cons rfl (fun K hK => ?_) AllReadyH.nil
  go_simp
  refine hK.out _ _ ⟨hH1.1.on K8.out, hH1.2.trans (K8.out.mono hH1.2.size)⟩ (fun hH2 => ?_)
  clear hK K hH1
  (try simp only [Act.put, List.setIfInBounds_toArray, List.set_cons_zero, List.set_cons_succ])
  refine wpAnyH_ready (rs := [9]) (fuel := 2) (by kernel_rfl) (by simp) ?_
  refine AllReadyH.cons rfl (fun K hK => ?_) AllReadyH.nil
  go_simp
  refine (whole_any true _ 1 1 [⟨A7, n, c7, ss⟩] zs _ L8.out (by omega) (by simpa [cat, LS.out] using h3000) (by simpa [cat, sn] using SS.out)).mono ?_
  rintro e w9 ⟨rfl, k9⟩
  go_simp
  refine hK.out _ _ ⟨hH2.1.on k9, hH2.2.trans (k9.mono hH2.2.size)⟩ (fun hH3 => ?_)
  clear hK K hH2 k9
  (try simp only [Act.put, List.setIfInBounds_toArray, List.set_cons_zero, List.set_cons_succ])
  refine take_at 12 25 (v := ?vt12) (fuel := 1) rfl rfl (by kernel_rfl) (by kernel_rfl) (by kernel_rfl) (fun _ _ _ h => h) (by rfl) hH3 ?hyt12 ?restt12
  case hyt12 => (intro w' hSw; (try dsimp only at hSw); go_simp <;> with_reducible rfl)
  simp only [Act.put, List.setIfInBounds_toArray, List.set_cons_zero, List.set_cons_succ]
  refine take_at 13 26 (v := ?vt13) (fuel := 0) rfl rfl (by kernel_rfl) (by kernel_rfl) (by kernel_rfl) (fun _ _ _ h => h) (by rfl) hH3 ?hyt13 ?restt13
  case hyt13 => (intro w' hSw; (try dsimp only at hSw); go_simp <;> with_reducible rfl)
  simp only [Act.put, List.setIfInBounds_toArray, List.set_cons_zero, List.set_cons_succ]
  refine wpAnyH_done (by kernel_rfl) ?_ _
  have HH := Lib.hid hH3
  clear hH3 k7 L8 K8 B1
  generalize hT : strOfNums ss = t at *
  have TA := Lib.hid (show ∀ (k : Nat) (hk : k < t.size), ((t[k]'hk).toNat : Int) = ss.getD k 0 by subst hT; exact str_at ss AS.out)
  clear hT hsz
  have hsz : t.size = n := SZ.out
  go_wp2
  go_loopw [4] (fun i wr => ∃ j : Nat, j ≤ n ∧ i = .int .i64 j ∧ Hid (TwS w A n c zs wr)) (fun i _ => n - (intOf i).toNat)
  case atStart => exact ⟨0, Nat.zero_le _, rfl, HH.out⟩
  case round =>
    clear HH
    obtain ⟨j, hj, rfl, HW⟩ := hrel
    by_cases hlt : j < n
    · obtain ⟨g, o, rfl, hg, hc⟩ := HW.out.1.2.2.2 (by omega)
      have c0 := hc j hlt
      clear hc hg
      have hx := xor_mate j (by omega)
      have j0 : (0 : Int) ≤ (j : Int) := by omega
      have j1 : (j : Int) < (n : Int) := by omega
      have ZL := Lib.hid (sw_last zs j (by rw [HN.out]; exact hlt))
      have ZA := Lib.hid (sw_at zs j (by rw [HN.out]; exact hlt))
      generalize mate j = m at *
      by_cases hmn : m < n
      · have hmt : m < t.size := by omega
        have he := TA.out m hmt
        rw [← ES.out, ZA.out (by rw [HN.out]; exact hmn)] at he
        rw [← he] at c0
        have m0 : (0 : Int) ≤ (m : Int) := by omega
        have m1 : (m : Int) < (t.size : Int) := by omega
        have hd : decide ((n : Int) ≤ (m : Int)) = false := by simp; omega
        clear he
        go_wp2
        go_quiet (fail)
        go_wp2
        go_roundw
        case rel => exact ⟨j + 1, by omega, by go_num, HW.out.1.on (below_drewN (Below.refl _ _) _), below_drewN HW.out.2 _⟩
        case measure => simp [intOf]; omega
      · have hjt : j < t.size := by omega
        have he := TA.out j hjt
        rw [← ES.out, ZL.out (by rw [HN.out]; omega)] at he
        rw [← he] at c0
        have m1 : (j : Int) < (t.size : Int) := by omega
        have hd : decide ((n : Int) ≤ (m : Int)) = true := by simp; omega
        clear he
        go_wp2
        go_quiet (fail)
        go_wp2
        go_roundw
        case rel => exact ⟨j + 1, by omega, by go_num, HW.out.1.on (below_drewN (Below.refl _ _) _), below_drewN HW.out.2 _⟩
        case measure => simp [intOf]; omega
    · go_wp2_with fail
      refine (law_runs _).mono ?_
      rintro e w2 ⟨rfl, k2⟩
      go_wp2
      go_ret
      exact ⟨rfl, HW.out.2.trans (k2.mono HW.out.2.size)⟩

theorem are_of {zs : List Int} (h : ∀ n ∈ zs, (Lit.int .u8 n).wf = true) : Are zs := fun z hz => by
  obtain ⟨h0, h1⟩ := bounds_u8 (h z hz)
  omega

theorem twice_walk (A : Option Addr) (n c : Nat) (zs : List Int) (w : World) (h : IsRow .u8 w A n c zs) : Calls Try.prog 6 #[.slice A n c] w fun e w' => e = .returned (.bool true) ∧ Below w.heap.size w w' := by
  have hb := h.bytes
  by_cases h3 : 3000 < n
  · have hm := hb.1.2.1
    have hm2 := hb.1.2.2.1
    unfold maxLen at hm2
    exact twice_great A n c w (by omega) h3
  · refine twice_small A n c _ w hb.1 hb.2 ?_ (by omega)
    rcases h with ⟨rfl, rfl, rfl, rfl⟩ | ⟨x, rfl, _, _, _, _, hw⟩
    · intro z hz; simp at hz
    · exact are_of (fun z hz => hw z (List.mem_of_mem_take hz))

end Go.Proofs.Ytjmbnjlicjicbaa
