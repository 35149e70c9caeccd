/- Contract of the reference's PunchContent. -/
import Derived.Test.YtigfimlpjmmpoaaRefE
import Derived.WalkKit
import Derived.WalkSpells
import Derived.WalkLawsBesides
import Derived.Lib.Hide
import Derived.BigQuiet
namespace Go.Proofs.Ytigfimlpjmmpoaa
open Go.RowKit

theorem whole_all (no p q : Int) : whole no p q = true ↔ ∀ i : Nat, i < 8 → p ≤ no * 8 + (i : Int) ∧ no * 8 + (i : Int) < q := by
  rw [whole]
  simp only [Bool.and_eq_true, decide_eq_true_eq]
  constructor
  · intro h i hi
    omega
  · intro h
    have h0 := h 0 (by omega)
    have h7 := h 7 (by omega)
    omega
/-- So many of the first i places are taken that it is all of them just when each is taken. -/
def Lost (no p q : Int) (i gn : Nat) : Prop := gn ≤ i ∧ (gn = i ↔ ∀ j : Nat, j < i → p ≤ no * 8 + (j : Int) ∧ no * 8 + (j : Int) < q)
theorem Lost.yes {no p q : Int} {i gn : Nat} (h : Lost no p q i gn) (hc : p ≤ no * 8 + (i : Int) ∧ no * 8 + (i : Int) < q) : Lost no p q (i + 1) (gn + 1) := by
  refine ⟨by have := h.1; omega, fun hg j hj => ?_, fun hall => ?_⟩
  · by_cases he : j = i
    · subst he; exact hc
    · exact h.2.1 (by omega) j (by omega)
  · have := h.2.2 (fun j hj => hall j (by omega)); omega
theorem Lost.no {no p q : Int} {i gn : Nat} (h : Lost no p q i gn) (hc : ¬ (p ≤ no * 8 + (i : Int) ∧ no * 8 + (i : Int) < q)) : Lost no p q (i + 1) gn := by
  refine ⟨by have := h.1; omega, fun hg => ?_, fun hall => absurd (hall i (by omega)) hc⟩
  have := h.1; omega

set_option maxRecDepth 100000 in
set_option maxHeartbeats 4000000 in
theorem rpunch_any (s : Int) (A : Option Addr) (n c : Nat) (L : List Ex) (p m : Int) (w : World) (h : Exts w A n c L) (hn : n ≤ 100000) (p9 : -9223372036854775808 ≤ p ∧ p ≤ 9223372036854775807) (m9 : -9223372036854775808 ≤ m ∧ m ≤ 9223372036854775807) (z : Bool) (hz : ((eo p m).isSome && decide (1 ≤ m) && may s L) = z) :
    Calls Try.prog 30 #[ct s A n c, .int .i64 p, .int .i64 m] w (CtPost z (if z = true then s else 0) (fun M => M = if z = true then wo L p (p + m) else []) w) := by
  have D0 := Lib.hid (duo_new w s A n c)
  have H := Lib.hid h
  have HZ := Lib.hid hz
  have hmx := h.max
  clear h hz
  show Calls Try.prog 30 #[.agg #[.int .i64 s, .slice A n c], .int .i64 p, .int .i64 m] w _
  go_enter Try.func30, Try.ntmps30
  go_wp2_with fail
  obtain ⟨y, hy⟩ : ∃ y, may s L = y := ⟨_, rfl⟩
  have HY := Lib.hid hy
  clear hy
  refine (rmay_any s A n c L _ (H.out.on D0.out.below) y HY.out).mono ?_
  rintro e w1 ⟨rfl, k1⟩
  have D1 := Lib.hid (D0.out.on k1)
  clear k1 D0
  have c0 := D1.out.b0.c0; have c1 := D1.out.b0.c1; have d0 := D1.out.b1.c0; have d1 := D1.out.b1.c1; have f0 := D1.out.b1.f0; have f1 := D1.out.b1.f1
  cases y with
  | false =>
    have hzy : false = z := by rw [← HZ.out, HY.out]; simp
    subst hzy
    go_wp2
    refine res_box2 rfl (w.heap.size + 1) 0 none 0 0 rfl D1.out.none.1 rfl ?_
    exact ⟨none, 0, 0, [], rfl, rfl, D1.out.none.2.1, D1.out.none.2.2⟩
  | true =>
    by_cases t0 : 0 ≤ p
    · by_cases t1 : 1 ≤ m
      · by_cases t2 : m ≤ 1099511627776
        · by_cases t3 : p ≤ 1099511627776 - m
          · have hzy : true = z := by
              rw [← HZ.out, HY.out]
              have he : (eo p m).isSome = true := by
                cases he : eo p m with
                | some _ => rfl
                | none => exact absurd ⟨t0, by omega, by omega⟩ (eo_none he)
              simp [he, t1]
            subst hzy
            have HG := Lib.hid ((may_iff s L).1 HY.out)
            obtain ⟨hb0, hb1⟩ : w.heap.size < w1.heap.size ∧ w.heap.size + 1 < w1.heap.size := by have := D1.out.size; omega
            have KA := Lib.hid (show Below w1.heap.size w1 (w1.alloc (.cells #[.int .i64 s, .slice none 0 0] 24)) from (Below.refl _ _).alloc (Nat.le_refl _) _)
            have BA := Lib.hid (box_new w1 s none 0 0)
            go_wp2
            go_loopw [9] (fun i wr => ∃ (j c' : Nat) (A' : Option Addr), j ≤ n ∧ i = .int .i64 j ∧ Hid (Box wr w1.heap.size s A' (wo (L.take j) p (p + m)).length c') ∧ Hid (Own (w1.heap.size + 1) wr (.slice A' (wo (L.take j) p (p + m)).length c') (wo (L.take j) p (p + m))) ∧ Hid (Below w1.heap.size w1 wr)) (fun i _ => n - (intOf i).toNat)
            case atStart => exact ⟨0, 0, none, Nat.zero_le _, rfl, BA.out, own_nil _ _, KA.out⟩
            case round =>
              clear KA BA c0 c1 d0 d1 f0 f1
              obtain ⟨j, c', A', hj, rfl, BO, OO, K2⟩ := hrel
              have D2 := Lib.hid (D1.out.on K2.out)
              have c0 := D2.out.b0.c0; have c1 := D2.out.b0.c1; have d0 := D2.out.b1.c0; have d1 := D2.out.b1.c1; have f0 := D2.out.b1.f0; have f1 := D2.out.b1.f1
              have o0 := BO.out.c0; have o1 := BO.out.c1
              by_cases hlt : j < n
              · obtain ⟨b, o, rfl, hb, hc⟩ := H.out.cells (by omega)
                have hjl : j < L.length := by rw [H.out.len]; exact hlt
                have HX := Lib.hid (show wr.rangeAt b (o + j * 9) (ecl (L.getD j default)) from fun i v hv => (D2.out.below.cell (p := ⟨b, o + j * 9 + i, none⟩) hb).trans (hc j hlt i v hv))
                have HE := Lib.hid (H.out.get j hlt)
                have HT := Lib.hid (wo_take L p (p + m) j hjl)
                have hrg := HG.out.rng (L.getD j default) (by rw [getD_eq hjl]; exact List.getElem_mem _)
                have HL := Lib.hid (wo_take_len L p (p + m) j)
                have hji : (j : Int) < (n : Int) := by omega
                clear hc
                generalize L.getD j default = e at *
                obtain ⟨no, hno⟩ : ∃ no, e.no = no := ⟨_, rfl⟩
                rw [hno] at hrg HT
                obtain ⟨n0, n1⟩ := hrg
                have HN := Lib.hid hno
                clear hno
                go_wp2_with (first | (refine st_loadx rfl _ rfl b (o + j * 9) rfl e HX.out HE.out ?_) | (refine st_allocx rfl rfl ?_; intro b1 w3 hb1 x1 k3; have X1 := Lib.hid x1; have K3 := Lib.hid k3; clear x1 k3) | (refine st_storev rfl _ _ rfl b1 rfl e rfl HE.out _ X1.out ?_; intro w4 x2 o2 s2; have X2 := Lib.hid x2; have K4 := Lib.hid (K3.out.trans (o2.below K3.out.size (fun d hd => by omega))); clear x2 o2 s2; have e0 := X2.out.no; rw [HN.out] at e0))
                have HB1 := Lib.hid hb1
                obtain ⟨wp, hwp⟩ : ∃ W, W = wr := ⟨_, rfl⟩
                subst hwp
                go_loopw [11, 12, 13] (fun gg i _ wr => ∃ k gn : Nat, k ≤ 8 ∧ i = .int .i64 k ∧ gg = .int .i64 gn ∧ Hid (Lost no p (p + m) k gn) ∧ Hid (XRow wr b1 (cutk e p (p + m) k)) ∧ Hid (Below wp.heap.size wp wr)) (fun _ i _ _ => 8 - (intOf i).toNat)
                case atStart => exact ⟨0, 0, by omega, rfl, rfl, ⟨Nat.le_refl _, fun _ j hj => absurd hj (by omega), fun _ => rfl⟩, by rw [cutk_zero HE.out]; exact X2.out, K4.out⟩
                case round =>
                  clear X2 K4 e0
                  obtain ⟨k, gn, hk, rfl, rfl, GG, K5x⟩ := hrel
                  obtain ⟨X5, K5⟩ := K5x
                  have ggl := GG.out.1
                  have e0 : wr.cell? ⟨b1, 0, none⟩ = some (.int .i64 no) := by rw [← HN.out]; exact X5.out.no
                  have hki : (k : Int) ≤ 8 := by omega
                  have e1 := BO.out.on K5.out
                  have o0' := e1.c0; have o1' := e1.c1; have o1f := e1.f1
                  clear o0 o1 c0 c1 d0 d1 f0 f1
                  have D5 := Lib.hid (D2.out.on K5.out)
                  have c0 := D5.out.b0.c0; have c1 := D5.out.b0.c1; have d0 := D5.out.b1.c0; have d1 := D5.out.b1.c1; have f0 := D5.out.b1.f0; have f1 := D5.out.b1.f1
                  by_cases hk8 : k < 8
                  · have cb := X5.out.byte k hk8
                    have fb := X5.out.free (1 + k)
                    have hkI : (k : Int) < 8 := by omega
                    by_cases gk : p ≤ no * 8 + (k : Int)
                    · by_cases gq : no * 8 + (k : Int) < p + m
                      · have XX := Lib.hid (X5.out.zero k hk8 (cutk_yes e p (p + m) k hk8 (by rw [HN.out]; exact ⟨gk, gq⟩)) (cutk_ok HE.out p (p + m) (k + 1)))
                        go_wp2
                        go_roundw
                        case rel => exact ⟨k + 1, gn + 1, by omega, by go_num, by go_num, GG.out.yes ⟨gk, gq⟩, XX.out.1, K5.out.trans (XX.out.2.below K5.out.size (fun d hd => by have := HB1.out; omega))⟩
                        case measure => simp [intOf]; omega
                      · have XX := Lib.hid (show XRow wr b1 (cutk e p (p + m) (k + 1)) by rw [cutk_no e p (p + m) k (by rw [HN.out]; omega)]; exact X5.out)
                        go_wp2
                        go_roundw
                        case rel => exact ⟨k + 1, gn, by omega, by go_num, rfl, GG.out.no (fun g => gq g.2), XX.out, K5.out⟩
                        case measure => simp [intOf]; omega
                    · have XX := Lib.hid (show XRow wr b1 (cutk e p (p + m) (k + 1)) by rw [cutk_no e p (p + m) k (by rw [HN.out]; omega)]; exact X5.out)
                      go_wp2
                      go_roundw
                      case rel => exact ⟨k + 1, gn, by omega, by go_num, rfl, GG.out.no (fun g => gk g.1), XX.out, K5.out⟩
                      case measure => simp [intOf]; omega
                  · obtain rfl : k = 8 := by omega
                    have HW8 := Lib.hid (show (gn = 8) ↔ whole no p (p + m) = true by rw [whole_all]; exact GG.out.2)
                    have X6 := Lib.hid (show XRow wr b1 (cutx e p (p + m)) by rw [← cutk_full]; exact X5.out)
                    have O6 := Lib.hid (OO.out.on K5.out)
                    clear X5
                    by_cases g8 : gn < 8
                    · have g8' : (gn : Int) < 8 := by omega
                      have HI := Lib.hid (show wo (L.take (j + 1)) p (p + m) = wo (L.take j) p (p + m) ++ [cutx e p (p + m)] by rw [HT.out, if_neg (fun g => by have := HW8.out.2 g; omega)])
                      have HS6 := Lib.hid (show wp.heap.size ≤ wr.heap.size from K5.out.size)
                      have HS2 := Lib.hid (show w1.heap.size + 1 ≤ wp.heap.size from by have := BO.out.lt; omega)
                      go_wp2_with (first | (refine st_loadx rfl _ rfl b1 0 rfl (cutx e p (p + m)) X6.out.range (cutx_ok HE.out p (p + m)) ?_) | (refine st_one rfl _ rfl (cutx e p (p + m)) rfl (cutx_ok HE.out p (p + m)) ?_; intro b6 w6 hb6 r6 k6; have E6 := Lib.hid (exts_one r6 (cutx_ok HE.out p (p + m))); have K6 := Lib.hid (K5.out.trans (k6.mono K5.out.size)); clear r6 k6) | (at_builtin; refine st_cat rfl _ _ rfl (w1.heap.size + 1) (.slice A' (wo (L.take j) p (p + m)).length c') (wo (L.take j) p (p + m)) rfl (OO.out.on K6.out) _ _ _ [cutx e p (p + m)] rfl E6.out (by have := HL.out; omega) (Nat.le_trans HS2.out K6.out.size) ?_; intro v' w7 q7 k7; rw [← HI.out] at q7; obtain ⟨A7, c7, hv, _, _⟩ := q7.exts; subst hv; have Q7 := Lib.hid q7; have B7 := Lib.hid (show Box w7 w1.heap.size s A' (wo (L.take j) p (p + m)).length c' from (k7.block w1.heap.size (by omega)).trans (BO.out.on K6.out)); have K7 := Lib.hid ((K2.out.trans (K6.out.mono K2.out.size)).trans (k7.mono (Nat.le_succ _))); have z0 := B7.out.c0; have z1 := B7.out.c1; have z2 := B7.out.f1; clear q7 k7))
                      go_roundw
                      case rel => exact ⟨j + 1, c7, A7, by omega, by go_num, B7.out.set1 _ _ _, Q7.out.past 1 _, below_set1 K7.out (Nat.le_refl _) 1 _⟩
                      case measure => simp [intOf]; omega
                    · obtain rfl : gn = 8 := by omega
                      have HI := Lib.hid (show wo (L.take (j + 1)) p (p + m) = wo (L.take j) p (p + m) by rw [HT.out, if_pos (HW8.out.1 rfl)]; simp)
                      go_wp2
                      go_roundw
                      case rel => exact ⟨j + 1, c', A', by omega, by go_num, by rw [HI.out]; exact BO.out.on K5.out, by rw [HI.out]; exact OO.out.on K5.out, K2.out.trans (K5.out.mono K2.out.size)⟩
                      case measure => simp [intOf]; omega
              · obtain rfl : j = n := by omega
                have HF := Lib.hid (show wo (L.take j) p (p + m) = wo L p (p + m) by rw [List.take_of_length_le (Nat.le_of_eq H.out.len)])
                obtain ⟨A9, c9, hv, hm⟩ := OO.out.mut
                have BO9 := BO.out
                rw [HF.out] at hv hm BO9 o1
                injection hv with hv1 hv2 hv3
                subst hv1 hv3
                have HM := Lib.hid hm; have HB9 := Lib.hid BO9
                clear hm BO9 hv2
                go_wp2
                have X := duo_grew D1.out K2.out s HM.out
                refine res_box2 rfl (w.heap.size + 1) s A' _ c' rfl X.1 rfl ?_
                exact ⟨A', _, c', wo L p (p + m), rfl, rfl, X.2.1, X.2.2⟩
          · have hzy : false = z := by
              rw [← HZ.out]
              cases he : eo p m with
              | none => rfl
              | some d => obtain ⟨x1, x2, x3, x4⟩ := eo_some he; exact absurd x1 (by omega)
            subst hzy
            go_wp2
            refine res_box2 rfl (w.heap.size + 1) 0 none 0 0 rfl D1.out.none.1 rfl ?_
            exact ⟨none, 0, 0, [], rfl, rfl, D1.out.none.2.1, D1.out.none.2.2⟩
        · have hzy : false = z := by
            rw [← HZ.out]
            cases he : eo p m with
            | none => rfl
            | some d => obtain ⟨x1, x2, x3, x4⟩ := eo_some he; exact absurd x1 (by omega)
          subst hzy
          go_wp2
          refine res_box2 rfl (w.heap.size + 1) 0 none 0 0 rfl D1.out.none.1 rfl ?_
          exact ⟨none, 0, 0, [], rfl, rfl, D1.out.none.2.1, D1.out.none.2.2⟩
      · have hzy : false = z := by rw [← HZ.out]; simp [t1]
        subst hzy
        go_wp2
        refine res_box2 rfl (w.heap.size + 1) 0 none 0 0 rfl D1.out.none.1 rfl ?_
        exact ⟨none, 0, 0, [], rfl, rfl, D1.out.none.2.1, D1.out.none.2.2⟩
    · have hzy : false = z := by
        rw [← HZ.out]
        cases he : eo p m with
        | none => rfl
        | some d => obtain ⟨x1, x2, x3, x4⟩ := eo_some he; exact absurd x1 (by omega)
      subst hzy
      go_wp2
      refine res_box2 rfl (w.heap.size + 1) 0 none 0 0 rfl D1.out.none.1 rfl ?_
      exact ⟨none, 0, 0, [], rfl, rfl, D1.out.none.2.1, D1.out.none.2.2⟩
end Go.Proofs.Ytigfimlpjmmpoaa
