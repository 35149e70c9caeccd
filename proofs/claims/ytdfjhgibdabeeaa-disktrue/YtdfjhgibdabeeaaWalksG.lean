/- Contracts of the reference's Bad and Left, of the law's bad. -/
import Derived.Test.YtdfjhgibdabeeaaWalksE
import Derived.Test.YtdfjhgibdabeeaaWalksF
import Derived.WalkKit
import Derived.WalkSpells
import Derived.WalkLawsBesides
import Derived.Lib.Hide
import Derived.BigQuiet
namespace Go.Proofs.Ytdfjhgibdabeeaa
open Go.RowKit

theorem bad_at (l : List Int) (j k n : Nat) (hl : l.length = n) (hj : j < n) (hT : isBad (l.take j) k = false) :
    isBad (l.take (j + 1)) k = (l.getD j 0 == (k : Int)) ∧ ((l.getD j 0 == (k : Int)) = true → isBad l k = true) := by
  have hlt : j < l.length := by omega
  refine ⟨by rw [isBad_snoc l j k hlt, hT]; simp, fun hz => ?_⟩
  rw [List.getD_eq_getElem?_getD, List.getElem?_eq_getElem hlt] at hz
  exact List.any_eq_true.2 ⟨_, List.getElem_mem hlt, hz⟩

theorem ret_bool {a b : Bool} (h : a = b) : Ending.returned (.bool a) = .returned (.bool b) := by rw [h]
section
variable {b : Nat} {x : Hd} {ga : Option Addr} {m : Nat} {D : Dev} {G : Nat → Int} {cl : Nat} {S : Nat → Prop}
set_option maxHeartbeats 1000000 in
theorem rbad_any (k : Nat) (w : World) (h : Rd b x ga m G cl w S) (hD : DevIn w x D) (z : Bool) (hz : isBad D.bad k = z) : Calls Try.prog 27 #[.pointer (some ⟨b, 0, none⟩), .int .i64 (k : Nat)] w fun e w' => e = .returned (.bool z) ∧ w = w' := by
  subst hz
  have c1 := h.c1
  have H := Lib.hid hD.bad
  have hbm : x.bn ≤ 9223372036854775807 := by have := hD.bad.le; have := hD.bad.mx; unfold maxLen at this; omega
  clear h hD
  generalize x.ba = A at *
  generalize x.bn = n at *
  generalize x.bc = c at *
  go_enter Try.func27, Try.ntmps27
  go_wp2
  go_loop [5] (fun i => ∃ j : Nat, j ≤ n ∧ i = .int .i64 j ∧ Hid (isBad (D.bad.take j) k = false)) (fun i => n - (intOf i).toNat)
  case atStart => exact ⟨0, Nat.zero_le _, rfl, by simp [Hid, isBad]⟩
  case round =>
    obtain ⟨j, hj, rfl, HT⟩ := hrel
    by_cases hlt : j < n
    · obtain ⟨g, o, rfl, hb, hc⟩ := H.out.cells (by omega)
      have c0 := hc j hlt
      have HX := Lib.hid (bad_at D.bad j k n H.out.len hlt HT.out)
      clear hc
      have hji : (j : Int) < (n : Int) := by omega
      generalize D.bad.getD j 0 = z at *
      by_cases hz : z = (k : Int)
      · subst hz
        have hd : ((k : Int) == (k : Int)) = true := by simp
        have HZ := Lib.hid hd
        clear hd
        go_wp2
        go_ret
        exact ⟨ret_bool (HX.out.2 HZ.out).symm, by simp⟩
      · have hd : (z == (k : Int)) = false := by simp [hz]
        have HZ := Lib.hid hd
        go_wp2
        go_round
        case rel => exact ⟨j + 1, by omega, by go_num, by unfold Hid; rw [HX.out.1, HZ.out]⟩
        case measure => simp [intOf]; omega
    · have hjn : j = n := by omega
      have HL := Lib.hid (show isBad D.bad k = false by have := HT.out; rwa [hjn, ← H.out.len, List.take_length] at this)
      go_wp2
      go_ret
      exact ⟨ret_bool HL.out.symm, by simp⟩

set_option maxHeartbeats 2000000 in
theorem rleft_any (k : Int) (w : World) (h : Rd b x ga m G cl w S) (hD : DevIn w x D) (hm : m = D.m) (hO : Okd D) (hG : Sound D G) (v : Int) (hv : left D G k = v) : Calls Try.prog 16 #[.pointer (some ⟨b, 0, none⟩), .int .i64 k] w fun e w' => e = .returned (.int .i64 v) ∧ w = w' := by
  have c4 := h.c4
  have HV := Lib.hid hv
  have HM := Lib.hid hm
  clear hv
  by_cases hk : k < 0
  · have hz := Lib.hid (show (0 : Int) = v by rw [← HV.out, left, if_neg (by omega)])
    clear h hD hm
    go_enter Try.func16, Try.ntmps16
    go_wp2
    go_ret
    exact ⟨ret_eq hz.out, by simp⟩
  · obtain ⟨j, rfl⟩ : ∃ j : Nat, k = (j : Int) := ⟨k.toNat, by omega⟩
    by_cases hj : j < m
    · have hd : decide (m ≤ j) = false := by simp; omega
      have hji : (j : Int) < (m : Int) := by omega
      have hzl := Lib.hid (show leftOf D G j = v by rw [← HV.out, left, if_pos (by have := HM.out; omega)]; simp)
      obtain ⟨z, hz⟩ : ∃ z, isBad D.bad j = z := ⟨_, rfl⟩
      have CB := Lib.hid (rbad_any j w h hD z hz)
      have HZ := Lib.hid hz
      cases z with
      | true =>
        have hz2 := Lib.hid (show (0 : Int) = v by rw [← hzl.out, leftOf, HZ.out]; rfl)
        clear h hD hz hm
        go_enter Try.func16, Try.ntmps16
        go_wp2_with (go_at_call 27; refine CB.out.mono ?_; rintro e w' ⟨rfl, rfl⟩)
        go_ret
        exact ⟨ret_eq hz2.out, by simp⟩
      | false =>
        have hz2 := Lib.hid (show times D.soft j - G j = v by rw [← hzl.out, leftOf, HZ.out]; rfl)
        obtain ⟨g, hg, _, hc⟩ := h.gone.cells (by omega)
        obtain ⟨s1, _⟩ := hc j hj
        rw [hg] at c4
        have c2 := h.c2
        have H := Lib.hid hD.soft
        have hsn : x.sn ≤ 60 := by rw [← hD.soft.len]; exact hO.sizes.soft
        have HT := Lib.hid (fun i => times_le (D.soft.take i) j (all_take hO.sizes.all i))
        have HN := Lib.hid (times_neg D.soft hO.sizes.all)
        obtain ⟨g0, g1⟩ := hG j
        have ht := times_le D.soft j hO.sizes.all
        have hsl := hO.sizes.soft
        have hGj : G j ≤ 1200 := by omega
        clear h hD hz hc hg ht g1 hm hO hG hzl
        generalize G j = gj at *
        generalize x.sa = A at *
        generalize x.sn = n at *
        generalize x.sc = c at *
        go_enter Try.func16, Try.ntmps16
        go_wp2_with (go_at_call 27; refine CB.out.mono ?_; rintro e w' ⟨rfl, rfl⟩)
        go_loop [5, 6] (fun t i => ∃ (q : Nat), q ≤ n ∧ i = .int .i64 q ∧ t = .int .i64 (times (D.soft.take q) j)) (fun _ i => n - (intOf i).toNat)
        case atStart => exact ⟨0, Nat.zero_le _, rfl, rfl⟩
        case round =>
          obtain ⟨q, hq, rfl, rfl⟩ := hrel
          have hb := HT.out q
          have hl : (D.soft.take q).length ≤ 60 := by have := H.out.len; simp; omega
          by_cases hlt : q < n
          · obtain ⟨g', o, rfl, _, hc⟩ := H.out.cells (by omega)
            obtain ⟨e0, e1⟩ := hc q hlt
            have HX := Lib.hid (times_snoc D.soft q j (by have := H.out.len; omega))
            obtain ⟨p0, p1, p2⟩ := HN.out q (by have := H.out.len; omega)
            clear hc
            have hqi : (q : Int) < (n : Int) := by omega
            generalize D.soft.getD q (0, 0) = z at *
            obtain ⟨p, r⟩ := z
            simp only at e0 e1 p0 p1 p2 HX
            have hb1 := hb.1; have hb2 : times (D.soft.take q) j ≤ 1200 := by omega
            clear hb
            have HX := Lib.hid HX.out
            by_cases hz : p = (j : Int)
            · subst hz
              have HX2 := Lib.hid (show times (D.soft.take (q + 1)) j = times (D.soft.take q) j + r by rw [HX.out, if_pos rfl])
              generalize times (D.soft.take q) j = t at *
              go_wp2
              go_round
              case rel => exact ⟨q + 1, by omega, by go_num, by rw [HX2.out]⟩
              case measure => simp [intOf]; omega
            · have HX2 := Lib.hid (show times (D.soft.take (q + 1)) j = times (D.soft.take q) j by rw [HX.out, if_neg hz, Int.add_zero])
              have hd : (p == (j : Int)) = false := by simp [hz]
              generalize times (D.soft.take q) j = t at *
              go_wp2
              go_round
              case rel => exact ⟨q + 1, by omega, by go_num, by rw [HX2.out]⟩
              case measure => simp [intOf]; omega
          · have hqn : q = n := by omega
            have HL := Lib.hid (show times (D.soft.take q) j = times D.soft j by rw [hqn, ← H.out.len, List.take_length])
            have hb1 := hb.1; have hb2 : times (D.soft.take q) j ≤ 1200 := by omega
            clear hb
            generalize times (D.soft.take q) j = t at *
            go_wp2
            go_ret
            exact ⟨ret_eq (by rw [← hz2.out, HL.out]), by simp⟩
    · have hz := Lib.hid (show (0 : Int) = v by rw [← HV.out, left, if_neg (by have := HM.out; omega)])
      have hd : decide (m ≤ j) = true := by simp; omega
      clear h hD hm
      go_enter Try.func16, Try.ntmps16
      go_wp2
      go_ret
      exact ⟨ret_eq hz.out, by simp⟩
end

set_option maxHeartbeats 1000000 in
theorem lbad_any (x : Hd) (D : Dev) (k : Nat) (w : World) (hD : DevIn w x D) (z : Bool) (hz : isBad D.bad k = z) : Calls Try.prog 20 #[x.val, .int .i64 (k : Nat)] w (TruthPost z w) := by
  subst hz
  have H := Lib.hid hD.bad
  have hbm : x.bn ≤ 9223372036854775807 := by have := hD.bad.le; have := hD.bad.mx; unfold maxLen at this; omega
  clear hD
  obtain ⟨da, dn, dc, A, n, c, sa, sn, sc, ha, hn, hc⟩ := x
  simp only at H hbm
  have K0 := Lib.hid (show Below w.heap.size w (w.alloc (.cells #[.slice da dn dc, .slice A n c, .slice sa sn sc, .slice ha hn hc] 30)) from (Below.refl _ _).alloc (Nat.le_refl _) _)
  show Calls Try.prog 20 #[.agg #[.slice da dn dc, .slice A n c, .slice sa sn sc, .slice ha hn hc], .int .i64 (k : Nat)] w _
  go_enter Try.func20, Try.ntmps20
  go_wp2
  go_loop [5] (fun i => ∃ j : Nat, j ≤ n ∧ i = .int .i64 j ∧ Hid (isBad (D.bad.take j) k = false)) (fun i => n - (intOf i).toNat)
  case atStart => exact ⟨0, Nat.zero_le _, rfl, by simp [Hid, isBad]⟩
  case round =>
    obtain ⟨j, hj, rfl, HT⟩ := hrel
    by_cases hlt : j < n
    · obtain ⟨g, o, rfl, hb, hc⟩ := H.out.cells (by omega)
      have c0 := (K0.out.cell (p := ⟨g, o + j, none⟩) hb).trans (hc j hlt)
      have HX := Lib.hid (bad_at D.bad j k n H.out.len hlt HT.out)
      clear hc
      have hji : (j : Int) < (n : Int) := by omega
      generalize D.bad.getD j 0 = z at *
      by_cases hz : z = (k : Int)
      · subst hz
        have HZ := Lib.hid (show ((k : Int) == (k : Int)) = true by simp)
        go_wp2
        go_ret
        exact ⟨ret_bool (HX.out.2 HZ.out).symm, K0.out⟩
      · have hd : (z == (k : Int)) = false := by simp [hz]
        have HZ := Lib.hid hd
        go_wp2
        go_round
        case rel => exact ⟨j + 1, by omega, by go_num, by unfold Hid; rw [HX.out.1, HZ.out]⟩
        case measure => simp [intOf]; omega
    · have hjn : j = n := by omega
      have HL := Lib.hid (show isBad D.bad k = false by have := HT.out; rwa [hjn, ← H.out.len, List.take_length] at this)
      go_wp2
      go_ret
      exact ⟨ret_bool HL.out.symm, K0.out⟩

end Go.Proofs.Ytdfjhgibdabeeaa
