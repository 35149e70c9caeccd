/- Contracts of disk.May, of the reference's MayDevice. -/
import Derived.Test.YtdfjhgibdabeeaaWalksA
import Derived.WalkKit
import Derived.WalkSpells
import Derived.WalkLawsBesides
import Derived.Lib.Hide
import Derived.BigQuiet
namespace Go.Proofs.Ytdfjhgibdabeeaa
open Go.RowKit

theorem softs_at (zs : List (Int × Int)) (j n : Nat) (hl : zs.length = n) (hj : j < n) (hT : (zs.take j).all softOk = true) :
    (zs.take (j + 1)).all softOk = softOk (zs.getD j (0, 0)) ∧ (softOk (zs.getD j (0, 0)) = false → zs.all softOk = false) := by
  have hlt : j < zs.length := by omega
  rw [List.take_add_one, List.all_append, hT, List.getElem?_eq_getElem hlt, List.getD_eq_getElem?_getD, List.getElem?_eq_getElem hlt]
  refine ⟨by simp, fun hz => ?_⟩
  rw [Option.getD_some] at hz
  exact List.all_eq_false.2 ⟨_, List.getElem_mem hlt, by rw [hz]; simp⟩

set_option maxHeartbeats 1000000 in
theorem index_soft (A : Option Addr) (n c : Nat) (zs : List (Int × Int)) (w : World) (h : Pairs w A n zs) : Calls Try.prog 33 #[.slice A n c, .func (.func 31) #[] #[]] w (FoundPost (!zs.all softOk) w) := by
  have H := Lib.hid h
  have hm : n ≤ 9223372036854775807 := by have := h.mx; unfold maxLen at this; omega
  clear h
  go_enter Try.func33, Try.ntmps33
  go_wp2
  go_loopw [8] (fun i wr => ∃ j : Nat, j ≤ n ∧ i = .int .i64 j ∧ Hid ((zs.take j).all softOk = true) ∧ Hid (Below w.heap.size w wr)) (fun i _ => n - (intOf i).toNat)
  case atStart => exact ⟨0, Nat.zero_le _, rfl, by simp [Hid], Below.refl _ _⟩
  case round =>
    obtain ⟨j, hj, rfl, HT, K0⟩ := hrel
    by_cases hlt : j < n
    · obtain ⟨b, o, rfl, hb, hc⟩ := H.out.cells (by omega)
      obtain ⟨c0, c1⟩ := hc j hlt
      have c0 := (K0.out.cell (p := ⟨b, o + j * 2, none⟩) hb).trans c0
      have c1 := (K0.out.cell (p := ⟨b, o + j * 2 + 1, none⟩) hb).trans c1
      have HX := Lib.hid (softs_at zs j n H.out.len hlt HT.out)
      clear hc
      have hji : (j : Int) < (n : Int) := by omega
      generalize zs.getD j (0, 0) = z at *
      obtain ⟨p, q⟩ := z
      simp only at c0 c1
      cases hz : softOk (p, q) with
      | false =>
        have HZ := Lib.hid hz
        clear hz
        go_wp2_with (go_at_call 31; refine (off_any p q _ true HZ.out).mono ?_; rintro e w' ⟨rfl, k1⟩; have K1 := Lib.hid (K0.out.trans (k1.mono K0.out.size)); clear k1)
        go_ret
        exact found_post (by rw [HX.out.2 HZ.out]; simp) K1.out
      | true =>
        have HZ := Lib.hid hz
        clear hz
        go_wp2_with (go_at_call 31; refine (off_any p q _ false HZ.out).mono ?_; rintro e w' ⟨rfl, k1⟩; have K1 := Lib.hid (K0.out.trans (k1.mono K0.out.size)); clear k1)
        go_roundw
        case rel => exact ⟨j + 1, by omega, by go_num, by unfold Hid; rw [HX.out.1, HZ.out], K1.out⟩
        case measure => simp [intOf]; omega
    · have hjn : j = n := by omega
      have HL := Lib.hid (show zs.all softOk = true by have := HT.out; rwa [hjn, ← H.out.len, List.take_length] at this)
      go_wp2
      go_ret
      exact found_post (by rw [HL.out]; rfl) K0.out

set_option maxHeartbeats 400000 in
theorem has_bad (A : Option Addr) (n c : Nat) (zs : List Int) (w : World) (h : Nums .i64 w A n c zs) (z : Bool) (hz : (zs.any fun z => decide (z < 0)) = z) : Calls Try.prog 28 #[.slice A n c, .func (.func 29) #[] #[]] w (TruthPost z w) := by
  subst hz
  have H := Lib.hid h
  clear h
  go_enter Try.func28, Try.ntmps28
  go_wp2_with fail
  refine (index_bad A n c zs w H.out).mono ?_
  rintro e w1 ⟨i, rfl, hi, k⟩
  have HI := Lib.hid hi; have K := Lib.hid k
  clear hi k
  by_cases h0 : 0 ≤ i
  · go_wp2
    go_ret
    exact ⟨by rw [← HI.out]; simp [h0], K.out⟩
  · go_wp2
    go_ret
    exact ⟨by rw [← HI.out]; simp, K.out⟩
set_option maxHeartbeats 400000 in
theorem has_soft (A : Option Addr) (n c : Nat) (zs : List (Int × Int)) (w : World) (h : Pairs w A n zs) (z : Bool) (hz : (!zs.all softOk) = z) : Calls Try.prog 30 #[.slice A n c, .func (.func 31) #[] #[]] w (TruthPost z w) := by
  subst hz
  have H := Lib.hid h
  clear h
  go_enter Try.func30, Try.ntmps30
  go_wp2_with fail
  refine (index_soft A n c zs w H.out).mono ?_
  rintro e w1 ⟨i, rfl, hi, k⟩
  have HI := Lib.hid hi; have K := Lib.hid k
  clear hi k
  by_cases h0 : 0 ≤ i
  · go_wp2
    go_ret
    exact ⟨by rw [← HI.out]; simp [h0], K.out⟩
  · go_wp2
    go_ret
    exact ⟨by rw [← HI.out]; simp, K.out⟩

set_option maxHeartbeats 1000000 in
theorem may_any (x : Hd) (D : Dev) (w : World) (h : DevIn w x D) : Calls Try.prog 17 #[x.val] w (TruthPost D.may w) := by
  have hk := Lib.hid (show (decide (x.dn ≤ 65536) && !(D.bad.any fun z => decide (z < 0)) && D.soft.all softOk) = D.may by rw [Dev.may, h.data.len])
  have K0 := Lib.hid (show Below w.heap.size w (w.alloc (.cells x.cells 30)) from (Below.refl _ _).alloc (Nat.le_refl _) _)
  have B0 := Lib.hid (box_of_row (Row.new w 30 x.cells))
  have HB := Lib.hid h.bad; have HS := Lib.hid h.soft
  clear h
  generalize D.may = z at *
  obtain ⟨da, dn, dc, ba, bn, bc, sa, sn, sc, ha, hn, hc⟩ := x
  simp only at hk HB HS
  show Calls Try.prog 17 #[.agg #[.slice da dn dc, .slice ba bn bc, .slice sa sn sc, .slice ha hn hc]] w _
  go_enter Try.func17, Try.ntmps17
  by_cases h1 : dn ≤ 65536
  · have h1i : (dn : Int) ≤ 65536 := by omega
    go_wp2_with fail
    obtain ⟨p, hp⟩ : ∃ p, (D.bad.any fun z => decide (z < 0)) = p := ⟨_, rfl⟩
    refine (has_bad ba bn bc D.bad _ (HB.out.on K0.out) p hp).mono ?_
    rintro e w1 ⟨rfl, k1⟩
    have K1 := Lib.hid (K0.out.trans (k1.mono K0.out.size)); have B1 := Lib.hid (B0.out.on k1)
    have HP := Lib.hid hp
    clear k1 hp
    have c2 := B1.out.c2
    simp only at c2
    cases p with
    | true =>
      go_wp2
      go_ret
      exact ⟨by rw [← hk.out, HP.out]; simp [h1], K1.out⟩
    | false =>
      go_wp2_with fail
      obtain ⟨q, hq⟩ : ∃ q, (!D.soft.all softOk) = q := ⟨_, rfl⟩
      refine (has_soft sa sn sc D.soft _ (HS.out.on K1.out) q hq).mono ?_
      rintro e w2 ⟨rfl, k2⟩
      have K2 := Lib.hid (K1.out.trans (k2.mono K1.out.size)); have HQ := Lib.hid hq
      clear k2 hq
      go_wp2
      go_ret
      exact ⟨by rw [← hk.out, HP.out, ← HQ.out]; simp [h1], K2.out⟩
  · have hd : decide ((dn : Int) ≤ 65536) = false := by simp; omega
    go_wp2
    go_ret
    exact ⟨by rw [← hk.out]; simp [h1], K0.out⟩

set_option maxHeartbeats 2000000 in
theorem rmay_any (x : Hd) (D : Dev) (w : World) (h : DevIn w x D) : Calls Try.prog 18 #[x.val] w (TruthPost D.may w) := by
  have hk := Lib.hid (show (decide (x.dn ≤ 65536) && !(D.bad.any fun z => decide (z < 0)) && D.soft.all softOk) = D.may by rw [Dev.may, h.data.len])
  have K0 := Lib.hid (show Below w.heap.size w (w.alloc (.cells x.cells 30)) from (Below.refl _ _).alloc (Nat.le_refl _) _)
  have HB := Lib.hid h.bad; have HS := Lib.hid h.soft
  have hbm : x.bn ≤ 9223372036854775807 := by have := h.bad.le; have := h.bad.mx; unfold maxLen at this; omega
  have hsm : x.sn ≤ 9223372036854775807 := by have := h.soft.mx; unfold maxLen at this; omega
  clear h
  generalize D.may = z at *
  obtain ⟨da, dn, dc, ba, bn, bc, sa, sn, sc, ha, hn, hc⟩ := x
  simp only at hk HB HS hbm hsm
  show Calls Try.prog 18 #[.agg #[.slice da dn dc, .slice ba bn bc, .slice sa sn sc, .slice ha hn hc]] w _
  have K0 : Hid (Below w.heap.size w (w.alloc (.cells #[.slice da dn dc, .slice ba bn bc, .slice sa sn sc, .slice ha hn hc] 30))) := K0
  have B0 := Lib.hid (box_of_row (Row.new w 30 (Hd.cells ⟨da, dn, dc, ba, bn, bc, sa, sn, sc, ha, hn, hc⟩)))
  go_enter Try.func18, Try.ntmps18
  go_wp2
  go_loop [3] (fun i => ∃ j : Nat, j ≤ bn ∧ i = .int .i64 j ∧ Hid (((D.bad.take j).any fun z => decide (z < 0)) = false)) (fun i => bn - (intOf i).toNat)
  case atStart => exact ⟨0, Nat.zero_le _, rfl, by simp [Hid]⟩
  case round =>
    obtain ⟨j, hj, rfl, HT⟩ := hrel
    by_cases hlt : j < bn
    · obtain ⟨b, o, rfl, hb, hc⟩ := HB.out.cells (by omega)
      have c0 := (K0.out.cell (p := ⟨b, o + j, none⟩) hb).trans (hc j hlt)
      have HS := Lib.hid (show (D.bad.take (j + 1)).any (fun z => decide (z < 0)) = decide (D.bad.getD j 0 < 0) by
        have hl : j < D.bad.length := by have := HB.out.len; omega
        rw [List.take_add_one, List.any_append, HT.out, List.getElem?_eq_getElem hl, List.getD_eq_getElem?_getD, List.getElem?_eq_getElem hl]
        simp)
      have HI := Lib.hid (show D.bad.getD j 0 < 0 → (D.bad.any fun z => decide (z < 0)) = true from fun hz => by
        have hl : j < D.bad.length := by have := HB.out.len; omega
        rw [List.getD_eq_getElem?_getD, List.getElem?_eq_getElem hl] at hz
        exact List.any_eq_true.2 ⟨_, List.getElem_mem hl, by simpa using hz⟩)
      clear hc
      have hji : (j : Int) < (bn : Int) := by omega
      generalize D.bad.getD j 0 = z at *
      by_cases hz : z < 0
      · go_wp2
        go_ret
        exact ⟨by rw [← hk.out, HI.out hz]; simp, K0.out⟩
      · go_wp2
        go_round
        case rel => exact ⟨j + 1, by omega, by go_num, by unfold Hid; rw [HS.out]; simp; omega⟩
        case measure => simp [intOf]; omega
    · have hjn : j = bn := by omega
      have HL := Lib.hid (show (D.bad.any fun z => decide (z < 0)) = false by have := HT.out; rwa [hjn, ← HB.out.len, List.take_length] at this)
      clear HT
      go_wp2
      go_loop [4] (fun i => ∃ j : Nat, j ≤ sn ∧ i = .int .i64 j ∧ Hid ((D.soft.take j).all softOk = true)) (fun i => sn - (intOf i).toNat)
      case atStart => exact ⟨0, Nat.zero_le _, rfl, by simp [Hid]⟩
      case round =>
        obtain ⟨j, hj, rfl, HT⟩ := hrel
        by_cases hlt : j < sn
        · obtain ⟨b, o, rfl, hb, hc⟩ := HS.out.cells (by omega)
          obtain ⟨c0, c1⟩ := hc j hlt
          have c0 := (K0.out.cell (p := ⟨b, o + j * 2, none⟩) hb).trans c0
          have c1 := (K0.out.cell (p := ⟨b, o + j * 2 + 1, none⟩) hb).trans c1
          have HX := Lib.hid (softs_at D.soft j sn HS.out.len hlt HT.out)
          clear hc
          have hji : (j : Int) < (sn : Int) := by omega
          generalize D.soft.getD j (0, 0) = z at *
          obtain ⟨p, q⟩ := z
          simp only at c0 c1
          by_cases h1 : p < 0
          · have HZ := Lib.hid (show softOk (p, q) = false by simp [softOk, h1])
            go_wp2
            go_ret
            exact ⟨by rw [← hk.out, HX.out.2 HZ.out]; simp, K0.out⟩
          · by_cases h2 : q < 0
            · have HZ := Lib.hid (show softOk (p, q) = false by simp [softOk, h2])
              go_wp2
              go_ret
              exact ⟨by rw [← hk.out, HX.out.2 HZ.out]; simp, K0.out⟩
            · by_cases h3 : 20 < q
              · have HZ := Lib.hid (show softOk (p, q) = false by simp [softOk, h3])
                go_wp2
                go_ret
                exact ⟨by rw [← hk.out, HX.out.2 HZ.out]; simp, K0.out⟩
              · have HZ := Lib.hid (show softOk (p, q) = true by simp [softOk]; omega)
                go_wp2
                go_round
                case rel => exact ⟨j + 1, by omega, by go_num, by unfold Hid; rw [HX.out.1, HZ.out]⟩
                case measure => simp [intOf]; omega
        · have hjn : j = sn := by omega
          have HA := Lib.hid (show D.soft.all softOk = true by have := HT.out; rwa [hjn, ← HS.out.len, List.take_length] at this)
          by_cases h1 : dn ≤ 65536
          · go_wp2
            go_ret
            exact ⟨by rw [← hk.out, HL.out, HA.out]; simp [h1]; omega, K0.out⟩
          · have hd : decide ((dn : Int) ≤ 65536) = false := by simp; omega
            go_wp2
            go_ret
            exact ⟨by rw [← hk.out]; simp [h1], K0.out⟩

end Go.Proofs.Ytdfjhgibdabeeaa
