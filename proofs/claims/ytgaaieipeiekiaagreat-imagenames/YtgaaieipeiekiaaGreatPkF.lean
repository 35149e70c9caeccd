/- Contract of the reference's PunchContent. / Contract of the reference's need. / Contract of the reference's AllocateContent. / One byte more is written (the reference's way), without any Go. / Contract of the reference's WriteContent. -/
import Derived.Test.YtgaaieipeiekiaaGreatPkE
import Derived.WalkKit
import Derived.WalkSpells
import Derived.WalkLawsBesides
import Derived.Lib.Hide
import Derived.BigQuiet
import Derived.Test.YtgaaieipeiekiaaGreatPkD
import Derived.StillTailTactics
namespace Go.Proofs.YtgaaieipeiekiaaGreat
open Go.RowKit
set_option maxRecDepth 100000

theorem whole_all (no p q : Int) : whole no p q = true ↔ ∀ i : Nat, i < 8 → p ≤ no * 8 + (i : Int) ∧ no * 8 + (i : Int) < q := by
  rw [whole]
  simp only [Bool.and_eq_true, decide_eq_true_eq]
  constructor
  · intro h i hi
    omega
  · intro h
    have h0 := h 0 (by omega)
    have h7 := h 7 (by omega)
    omega
/-- So many of the first i places are taken that it is all of them just when each is taken. -/
def Lost (no p q : Int) (i gn : Nat) : Prop := gn ≤ i ∧ (gn = i ↔ ∀ j : Nat, j < i → p ≤ no * 8 + (j : Int) ∧ no * 8 + (j : Int) < q)
theorem Lost.yes {no p q : Int} {i gn : Nat} (h : Lost no p q i gn) (hc : p ≤ no * 8 + (i : Int) ∧ no * 8 + (i : Int) < q) : Lost no p q (i + 1) (gn + 1) := by
  refine ⟨by have := h.1; omega, fun hg j hj => ?_, fun hall => ?_⟩
  · by_cases he : j = i
    · subst he; exact hc
    · exact h.2.1 (by omega) j (by omega)
  · have := h.2.2 (fun j hj => hall j (by omega)); omega
theorem Lost.no {no p q : Int} {i gn : Nat} (h : Lost no p q i gn) (hc : ¬ (p ≤ no * 8 + (i : Int) ∧ no * 8 + (i : Int) < q)) : Lost no p q (i + 1) gn := by
  refine ⟨by have := h.1; omega, fun hg => ?_, fun hall => absurd (hall i (by omega)) hc⟩
  have := h.1; omega

set_option maxRecDepth 100000 in
set_option maxHeartbeats 4000000 in
theorem rpunch_any (s : Int) (A : Option Addr) (n c : Nat) (L : List Ex) (p m : Int) (w : World) (h : Exts w A n c L) (hn : n ≤ 100000) (p9 : -9223372036854775808 ≤ p ∧ p ≤ 9223372036854775807) (m9 : -9223372036854775808 ≤ m ∧ m ≤ 9223372036854775807) (z : Bool) (hz : ((eo p m).isSome && decide (1 ≤ m) && may s L) = z) :
    Calls Tryz.prog 73 #[ct s A n c, .int .i64 p, .int .i64 m] w (CtPost z (if z = true then s else 0) (fun M => M = if z = true then wo L p (p + m) else []) w) := by
  have D0 := Lib.hid (duo_new w s A n c)
  have H := Lib.hid h
  have HZ := Lib.hid hz
  have hmx := h.max
  clear h hz
  show Calls Tryz.prog 73 #[.agg #[.int .i64 s, .slice A n c], .int .i64 p, .int .i64 m] w _
  go_enter Tryz.func73, Tryz.ntmps73
  go_wp2_with fail
  obtain ⟨y, hy⟩ : ∃ y, may s L = y := ⟨_, rfl⟩
  have HY := Lib.hid hy
  clear hy
  refine (rmay_any s A n c L _ (H.out.on D0.out.below) y HY.out).mono ?_
  rintro e w1 ⟨rfl, k1⟩
  have D1 := Lib.hid (D0.out.on k1)
  clear k1 D0
  have c0 := D1.out.b0.c0; have c1 := D1.out.b0.c1; have d0 := D1.out.b1.c0; have d1 := D1.out.b1.c1; have f0 := D1.out.b1.f0; have f1 := D1.out.b1.f1
  cases y with
  | false =>
    have hzy : false = z := by rw [← HZ.out, HY.out]; simp
    subst hzy
    go_wp2
    refine res_box2 rfl (w.heap.size + 1) 0 none 0 0 rfl D1.out.none.1 rfl ?_
    exact ⟨none, 0, 0, [], rfl, rfl, D1.out.none.2.1, D1.out.none.2.2⟩
  | true =>
    by_cases t0 : 0 ≤ p
    · by_cases t1 : 1 ≤ m
      · by_cases t2 : m ≤ 1099511627776
        · by_cases t3 : p ≤ 1099511627776 - m
          · have hzy : true = z := by
              rw [← HZ.out, HY.out]
              have he : (eo p m).isSome = true := by
                cases he : eo p m with
                | some _ => rfl
                | none => exact absurd ⟨t0, by omega, by omega⟩ (eo_none he)
              simp [he, t1]
            subst hzy
            have HG := Lib.hid ((may_iff s L).1 HY.out)
            obtain ⟨hb0, hb1⟩ : w.heap.size < w1.heap.size ∧ w.heap.size + 1 < w1.heap.size := by have := D1.out.size; omega
            have KA := Lib.hid (show Below w1.heap.size w1 (w1.alloc (.cells #[.int .i64 s, .slice none 0 0] 32)) from (Below.refl _ _).alloc (Nat.le_refl _) _)
            have BA := Lib.hid (box_new w1 s none 0 0)
            go_wp2
            go_loopw [9] (fun i wr => ∃ (j c' : Nat) (A' : Option Addr), j ≤ n ∧ i = .int .i64 j ∧ Hid (Box wr w1.heap.size s A' (wo (L.take j) p (p + m)).length c') ∧ Hid (Own (w1.heap.size + 1) wr (.slice A' (wo (L.take j) p (p + m)).length c') (wo (L.take j) p (p + m))) ∧ Hid (Below w1.heap.size w1 wr)) (fun i _ => n - (intOf i).toNat)
            case atStart => exact ⟨0, 0, none, Nat.zero_le _, rfl, BA.out, own_nil _ _, KA.out⟩
            case round =>
              clear KA BA c0 c1 d0 d1 f0 f1
              obtain ⟨j, c', A', hj, rfl, BO, OO, K2⟩ := hrel
              have D2 := Lib.hid (D1.out.on K2.out)
              have c0 := D2.out.b0.c0; have c1 := D2.out.b0.c1; have d0 := D2.out.b1.c0; have d1 := D2.out.b1.c1; have f0 := D2.out.b1.f0; have f1 := D2.out.b1.f1
              have o0 := BO.out.c0; have o1 := BO.out.c1
              by_cases hlt : j < n
              · obtain ⟨b, o, rfl, hb, hc⟩ := H.out.cells (by omega)
                have hjl : j < L.length := by rw [H.out.len]; exact hlt
                have HX := Lib.hid (show wr.rangeAt b (o + j * 9) (ecl (L.getD j default)) from fun i v hv => (D2.out.below.cell (p := ⟨b, o + j * 9 + i, none⟩) hb).trans (hc j hlt i v hv))
                have HE := Lib.hid (H.out.get j hlt)
                have HT := Lib.hid (wo_take L p (p + m) j hjl)
                have hrg := HG.out.rng (L.getD j default) (by rw [getD_eq hjl]; exact List.getElem_mem _)
                have HL := Lib.hid (wo_take_len L p (p + m) j)
                have hji : (j : Int) < (n : Int) := by omega
                clear hc
                generalize L.getD j default = e at *
                obtain ⟨no, hno⟩ : ∃ no, e.no = no := ⟨_, rfl⟩
                rw [hno] at hrg HT
                obtain ⟨n0, n1⟩ := hrg
                have HN := Lib.hid hno
                clear hno
                go_wp2_with (first | (refine st_loadx rfl _ rfl b (o + j * 9) rfl e HX.out HE.out ?_) | (refine st_allocx rfl rfl ?_; intro b1 w3 hb1 x1 k3; have X1 := Lib.hid x1; have K3 := Lib.hid k3; clear x1 k3) | (refine st_storev rfl _ _ rfl b1 rfl e rfl HE.out _ X1.out ?_; intro w4 x2 o2 s2; have X2 := Lib.hid x2; have K4 := Lib.hid (K3.out.trans (o2.below K3.out.size (fun d hd => by omega))); clear x2 o2 s2; have e0 := X2.out.no; rw [HN.out] at e0))
                have HB1 := Lib.hid hb1
                obtain ⟨wp, hwp⟩ : ∃ W, W = wr := ⟨_, rfl⟩
                subst hwp
                go_loopw [11, 12, 13] (fun gg i _ wr => ∃ k gn : Nat, k ≤ 8 ∧ i = .int .i64 k ∧ gg = .int .i64 gn ∧ Hid (Lost no p (p + m) k gn) ∧ Hid (XRow wr b1 (cutk e p (p + m) k)) ∧ Hid (Below wp.heap.size wp wr)) (fun _ i _ _ => 8 - (intOf i).toNat)
                case atStart => exact ⟨0, 0, by omega, rfl, rfl, ⟨Nat.le_refl _, fun _ j hj => absurd hj (by omega), fun _ => rfl⟩, by rw [cutk_zero HE.out]; exact X2.out, K4.out⟩
                case round =>
                  clear X2 K4 e0
                  obtain ⟨k, gn, hk, rfl, rfl, GG, K5x⟩ := hrel
                  obtain ⟨X5, K5⟩ := K5x
                  have ggl := GG.out.1
                  have e0 : wr.cell? ⟨b1, 0, none⟩ = some (.int .i64 no) := by rw [← HN.out]; exact X5.out.no
                  have hki : (k : Int) ≤ 8 := by omega
                  have e1 := BO.out.on K5.out
                  have o0' := e1.c0; have o1' := e1.c1; have o1f := e1.f1
                  clear o0 o1 c0 c1 d0 d1 f0 f1
                  have D5 := Lib.hid (D2.out.on K5.out)
                  have c0 := D5.out.b0.c0; have c1 := D5.out.b0.c1; have d0 := D5.out.b1.c0; have d1 := D5.out.b1.c1; have f0 := D5.out.b1.f0; have f1 := D5.out.b1.f1
                  by_cases hk8 : k < 8
                  · have cb := X5.out.byte k hk8
                    have fb := X5.out.free (1 + k)
                    have hkI : (k : Int) < 8 := by omega
                    by_cases gk : p ≤ no * 8 + (k : Int)
                    · by_cases gq : no * 8 + (k : Int) < p + m
                      · have XX := Lib.hid (X5.out.zero k hk8 (cutk_yes e p (p + m) k hk8 (by rw [HN.out]; exact ⟨gk, gq⟩)) (cutk_ok HE.out p (p + m) (k + 1)))
                        go_wp2
                        go_roundw
                        case rel => exact ⟨k + 1, gn + 1, by omega, by go_num, by go_num, GG.out.yes ⟨gk, gq⟩, XX.out.1, K5.out.trans (XX.out.2.below K5.out.size (fun d hd => by have := HB1.out; omega))⟩
                        case measure => simp [intOf]; omega
                      · have XX := Lib.hid (show XRow wr b1 (cutk e p (p + m) (k + 1)) by rw [cutk_no e p (p + m) k (by rw [HN.out]; omega)]; exact X5.out)
                        go_wp2
                        go_roundw
                        case rel => exact ⟨k + 1, gn, by omega, by go_num, rfl, GG.out.no (fun g => gq g.2), XX.out, K5.out⟩
                        case measure => simp [intOf]; omega
                    · have XX := Lib.hid (show XRow wr b1 (cutk e p (p + m) (k + 1)) by rw [cutk_no e p (p + m) k (by rw [HN.out]; omega)]; exact X5.out)
                      go_wp2
                      go_roundw
                      case rel => exact ⟨k + 1, gn, by omega, by go_num, rfl, GG.out.no (fun g => gk g.1), XX.out, K5.out⟩
                      case measure => simp [intOf]; omega
                  · obtain rfl : k = 8 := by omega
                    have HW8 := Lib.hid (show (gn = 8) ↔ whole no p (p + m) = true by rw [whole_all]; exact GG.out.2)
                    have X6 := Lib.hid (show XRow wr b1 (cutx e p (p + m)) by rw [← cutk_full]; exact X5.out)
                    have O6 := Lib.hid (OO.out.on K5.out)
                    clear X5
                    by_cases g8 : gn < 8
                    · have g8' : (gn : Int) < 8 := by omega
                      have HI := Lib.hid (show wo (L.take (j + 1)) p (p + m) = wo (L.take j) p (p + m) ++ [cutx e p (p + m)] by rw [HT.out, if_neg (fun g => by have := HW8.out.2 g; omega)])
                      have HS6 := Lib.hid (show wp.heap.size ≤ wr.heap.size from K5.out.size)
                      have HS2 := Lib.hid (show w1.heap.size + 1 ≤ wp.heap.size from by have := BO.out.lt; omega)
                      go_wp2_with (first | (refine st_loadx rfl _ rfl b1 0 rfl (cutx e p (p + m)) X6.out.range (cutx_ok HE.out p (p + m)) ?_) | (refine st_one rfl _ rfl (cutx e p (p + m)) rfl (cutx_ok HE.out p (p + m)) ?_; intro b6 w6 hb6 r6 k6; have E6 := Lib.hid (exts_one r6 (cutx_ok HE.out p (p + m))); have K6 := Lib.hid (K5.out.trans (k6.mono K5.out.size)); clear r6 k6) | (at_builtin; refine st_cat rfl _ _ rfl (w1.heap.size + 1) (.slice A' (wo (L.take j) p (p + m)).length c') (wo (L.take j) p (p + m)) rfl (OO.out.on K6.out) _ _ _ [cutx e p (p + m)] rfl E6.out (by have := HL.out; omega) (Nat.le_trans HS2.out K6.out.size) ?_; intro v' w7 q7 k7; rw [← HI.out] at q7; obtain ⟨A7, c7, hv, _, _⟩ := q7.exts; subst hv; have Q7 := Lib.hid q7; have B7 := Lib.hid (show Box w7 w1.heap.size s A' (wo (L.take j) p (p + m)).length c' from (k7.block w1.heap.size (by omega)).trans (BO.out.on K6.out)); have K7 := Lib.hid ((K2.out.trans (K6.out.mono K2.out.size)).trans (k7.mono (Nat.le_succ _))); have z0 := B7.out.c0; have z1 := B7.out.c1; have z2 := B7.out.f1; clear q7 k7))
                      go_roundw
                      case rel => exact ⟨j + 1, c7, A7, by omega, by go_num, B7.out.set1 _ _ _, Q7.out.past 1 _, below_set1 K7.out (Nat.le_refl _) 1 _⟩
                      case measure => simp [intOf]; omega
                    · obtain rfl : gn = 8 := by omega
                      have HI := Lib.hid (show wo (L.take (j + 1)) p (p + m) = wo (L.take j) p (p + m) by rw [HT.out, if_pos (HW8.out.1 rfl)]; simp)
                      go_wp2
                      go_roundw
                      case rel => exact ⟨j + 1, c', A', by omega, by go_num, by rw [HI.out]; exact BO.out.on K5.out, by rw [HI.out]; exact OO.out.on K5.out, K2.out.trans (K5.out.mono K2.out.size)⟩
                      case measure => simp [intOf]; omega
              · obtain rfl : j = n := by omega
                have HF := Lib.hid (show wo (L.take j) p (p + m) = wo L p (p + m) by rw [List.take_of_length_le (Nat.le_of_eq H.out.len)])
                obtain ⟨A9, c9, hv, hm⟩ := OO.out.mut
                have BO9 := BO.out
                rw [HF.out] at hv hm BO9 o1
                injection hv with hv1 hv2 hv3
                subst hv1 hv3
                have HM := Lib.hid hm; have HB9 := Lib.hid BO9
                clear hm BO9 hv2
                go_wp2
                have X := duo_grew D1.out K2.out s HM.out
                refine res_box2 rfl (w.heap.size + 1) s A' _ c' rfl X.1 rfl ?_
                exact ⟨A', _, c', wo L p (p + m), rfl, rfl, X.2.1, X.2.2⟩
          · have hzy : false = z := by
              rw [← HZ.out]
              cases he : eo p m with
              | none => rfl
              | some d => obtain ⟨x1, x2, x3, x4⟩ := eo_some he; exact absurd x1 (by omega)
            subst hzy
            go_wp2
            refine res_box2 rfl (w.heap.size + 1) 0 none 0 0 rfl D1.out.none.1 rfl ?_
            exact ⟨none, 0, 0, [], rfl, rfl, D1.out.none.2.1, D1.out.none.2.2⟩
        · have hzy : false = z := by
            rw [← HZ.out]
            cases he : eo p m with
            | none => rfl
            | some d => obtain ⟨x1, x2, x3, x4⟩ := eo_some he; exact absurd x1 (by omega)
          subst hzy
          go_wp2
          refine res_box2 rfl (w.heap.size + 1) 0 none 0 0 rfl D1.out.none.1 rfl ?_
          exact ⟨none, 0, 0, [], rfl, rfl, D1.out.none.2.1, D1.out.none.2.2⟩
      · have hzy : false = z := by rw [← HZ.out]; simp [t1]
        subst hzy
        go_wp2
        refine res_box2 rfl (w.heap.size + 1) 0 none 0 0 rfl D1.out.none.1 rfl ?_
        exact ⟨none, 0, 0, [], rfl, rfl, D1.out.none.2.1, D1.out.none.2.2⟩
    · have hzy : false = z := by
        rw [← HZ.out]
        cases he : eo p m with
        | none => rfl
        | some d => obtain ⟨x1, x2, x3, x4⟩ := eo_some he; exact absurd x1 (by omega)
      subst hzy
      go_wp2
      refine res_box2 rfl (w.heap.size + 1) 0 none 0 0 rfl D1.out.none.1 rfl ?_
      exact ⟨none, 0, 0, [], rfl, rfl, D1.out.none.2.1, D1.out.none.2.2⟩
end Go.Proofs.YtgaaieipeiekiaaGreat

namespace Go.Proofs.YtgaaieipeiekiaaGreat
open Go.RowKit
set_option maxRecDepth 100000

theorem ins_there {L : List Ex} (hu : Up L) {no : Int} (h : idx L no < L.length ∧ (L.getD (idx L no) default).no = no) : xins L no = L := by
  unfold xins; rw [look_idx hu, if_pos h]; rfl
theorem ins_not {L : List Ex} (hu : Up L) {no : Int} (h : ¬ (idx L no < L.length ∧ (L.getD (idx L no) default).no = no)) : xins L no = L.take (idx L no) ++ ([⟨no, nul8⟩] ++ L.drop (idx L no)) := by
  unfold xins; rw [look_idx hu, if_neg h]; rfl
/-- What need leaves: the block's place, the content's variable, the new list. -/
def NeedPost (b B : Nat) (s : Int) (L : List Ex) (no : Int) (w : World) (e : Ending) (w' : World) : Prop :=
  ∃ A c, e = .returned (.int .i64 ((idx L no : Nat) : Int)) ∧ Box w' b s A (xins L no).length c ∧ Mut B w' A (xins L no).length c (xins L no) ∧ Only (fun d => d = b) w w'
theorem need_done {w W : World} {b B : Nat} {s : Int} {A : Option Addr} {n c : Nat} {L : List Ex} {no : Int} (hb : Box w b s A n c) (hk : Below w.heap.size w W) {v : Value} (ho : Own w.heap.size W v (xins L no)) {k : Nat} (hi : idx L no = k) (hB : B ≤ w.heap.size) :
    NeedPost b B s L no w (.returned (.int .i64 (k : Int))) (W.setCell ⟨b, 1, none⟩ v) := by
  subst hi
  obtain ⟨A', c', rfl, hm⟩ := ho.mut
  have hl := hb.lt
  refine ⟨A', c', rfl, (hb.on hk).set1 A' _ c', hm.only ((Only.refl (fun d => d = b) W).setCell ⟨b, 1, none⟩ (fun _ => rfl) _) (fun g hg hd => by omega) hB, ?_⟩
  exact (Only.of_below hk : Only (fun d => d = b) w W).setCell ⟨b, 1, none⟩ (fun _ => rfl) _

theorem need_same {w : World} {b B : Nat} {s : Int} {A : Option Addr} {n c : Nat} {L : List Ex} {no : Int} (hb : Box w b s A n c) (hm : Mut B w A n c L) (hl : L.length = n) (hi : xins L no = L) {k : Nat} (hk : idx L no = k) :
    NeedPost b B s L no w (.returned (.int .i64 (k : Int))) w := by
  subst hk hl
  exact ⟨A, c, rfl, by rw [hi]; exact hb, by rw [hi]; exact hm, Only.refl _ _⟩

set_option maxRecDepth 100000 in
set_option maxHeartbeats 4000000 in
theorem need_any (b B : Nat) (s : Int) (A : Option Addr) (n c : Nat) (L : List Ex) (no : Int) (w : World) (hb : Box w b s A n c) (hm : Mut B w A n c L) (hn : n ≤ 100000) (hu : Up L) (hB : B ≤ w.heap.size) :
    Calls Tryz.prog 86 #[.pointer (some ⟨b, 0, none⟩), .int .i64 no] w (NeedPost b B s L no w) := by
  have HB := Lib.hid hb; have HM := Lib.hid hm; have HU := Lib.hid hu
  have H := Lib.hid hm.exts
  have hmx := hm.exts.max
  have hlen := hm.exts.len
  have c1 := hb.c1
  have HLe := Lib.hid (show idx L no ≤ n by have := idx_le L no; have := hm.exts.len; omega)
  clear hb hm hu
  go_enter Tryz.func86, Tryz.ntmps86
  go_wp2
  go_loop [5] (fun i => ∃ j : Nat, j ≤ idx L no ∧ i = .int .i64 j) (fun i => idx L no - (intOf i).toNat)
  case atStart => exact ⟨0, Nat.zero_le _, rfl⟩
  case round =>
    obtain ⟨j, hj, rfl⟩ := hrel
    have hjn : j ≤ n := Nat.le_trans hj HLe.out
    by_cases hlt : j < n
    · obtain ⟨b1, o1, rfl, hb1, _⟩ := H.out.cells (by omega)
      have cn := H.out.no j hlt
      have hji : (j : Int) < (n : Int) := by omega
      obtain ⟨x, hx⟩ : ∃ x, (L.getD j default).no = x := ⟨_, rfl⟩
      rw [hx] at cn
      by_cases g : x < no
      · have HJ := Lib.hid (show j < idx L no by
          by_cases hh : j < idx L no
          · exact hh
          · have := idx_ge L no HU.out j (by omega) (by omega); omega)
        clear hx
        go_wp2
        go_round
        case rel => exact ⟨j + 1, HJ.out, by go_num⟩
        case measure => have := HJ.out; simp [intOf]; omega
      · have HJ := Lib.hid (show idx L no = j by
          by_cases hh : j < idx L no
          · have := idx_lt L no j hh; omega
          · omega)
        have HXx := Lib.hid hx
        clear hx
        by_cases g2 : x = no
        · have HI := Lib.hid (show xins L no = L from ins_there HU.out (by rw [HJ.out]; exact ⟨by omega, by rw [HXx.out]; exact g2⟩))
          go_wp2
          go_ret
          exact need_same HB.out HM.out H.out.len HI.out HJ.out
        · obtain ⟨k, hk0⟩ : ∃ k, k = j := ⟨_, rfl⟩
          subst hk0
          have HKa := Lib.hid HJ.out
          have HI := Lib.hid (show xins L no = L.take (idx L no) ++ ([⟨no, nul8⟩] ++ L.drop (idx L no)) from ins_not HU.out (by rw [HJ.out]; rintro ⟨_, hh⟩; rw [HXx.out] at hh; exact g2 hh))
          have hk := HKa.out
          obtain ⟨A1, d1, hs1, hx1⟩ := cut_h H.out k (by have := HLe.out; omega)
          obtain ⟨A2, d2, hs2, hx2⟩ := cut_l H.out k (by have := HLe.out; omega)
          have X1 := Lib.hid hx1; have X2 := Lib.hid hx2
          clear hx1 hx2
          go_wp2_with (first | (at_builtin; refine st_cat rfl _ _ rfl w.heap.size v4 (L.take k ++ [⟨no, nul8⟩]) rfl Q2.out _ _ _ (L.drop k) rfl (X2.out.on K2.out) (by simp; omega) K2.out.size ?_; intro v5 w5 q5 k5; obtain ⟨A5, d5, N5, hv⟩ : ∃ A5 d5 N5, v5 = Value.slice A5 N5 d5 := (by obtain ⟨A5, d5, hv, _⟩ := q5.mut; exact ⟨_, _, _, hv⟩); subst hv; have Q5 := Lib.hid q5; have K5 := Lib.hid (K2.out.trans k5); clear q5 k5; have B5 := Lib.hid (HB.out.on K5.out); have b4 := B5.out.c1; have b5 := B5.out.f1) | (at_builtin; refine st_cat rfl _ _ rfl w.heap.size v1 (L.take k) rfl (Q1.out.on K3.out) _ _ _ [⟨no, nul8⟩] rfl E3.out (by simp; omega) (K1.out.trans (K3.out.mono K1.out.size)).size ?_; intro v4 w4 q4 k4; have Q2 := Lib.hid q4; have K2 := Lib.hid ((K1.out.trans (K3.out.mono K1.out.size)).trans k4); clear q4 k4; have c1 := (HB.out.on K2.out).c1) | (at_builtin; refine st_cat rfl _ _ rfl w.heap.size _ [] rfl (own_nil _ _) _ _ _ (L.take k) rfl X1.out (by simp; omega) (Nat.le_refl _) ?_; intro v1 w1 q1 k1; rw [List.nil_append] at q1; have Q1 := Lib.hid q1; have K1 := Lib.hid k1; clear q1 k1) | (refine st_build rfl _ rfl no rfl ?_) | (refine st_one rfl _ rfl ⟨no, nul8⟩ rfl (ok_nul no) ?_; intro b3 w3 hb3 r3 k3; have E3 := Lib.hid (exts_one r3 (ok_nul no)); have K3 := Lib.hid k3; clear r3 k3))
          go_ret
          exact need_done HB.out K5.out (by rw [HI.out, ← List.append_assoc, hk]; exact Q5.out) HKa.out hB
    · have HJ := Lib.hid (show idx L no = j by have := HLe.out; omega)
      have HJN := Lib.hid (show j = n by omega)
      have hji : ¬ ((j : Int) < (n : Int)) := by omega
      clear hlt
      obtain ⟨k, hk0⟩ : ∃ k, k = j := ⟨_, rfl⟩
      subst hk0
      have HKb := Lib.hid HJ.out
      have HI := Lib.hid (show xins L no = L.take (idx L no) ++ ([⟨no, nul8⟩] ++ L.drop (idx L no)) from ins_not HU.out (by rw [HJ.out, H.out.len]; rintro ⟨hh, _⟩; have := HJN.out; omega))
      have hk := HKb.out
      obtain ⟨A1, d1, hs1, hx1⟩ := cut_h H.out k (by have := HLe.out; omega)
      obtain ⟨A2, d2, hs2, hx2⟩ := cut_l H.out k (by have := HLe.out; omega)
      have X1 := Lib.hid hx1; have X2 := Lib.hid hx2
      clear hx1 hx2
      go_wp2_with (first | (at_builtin; refine st_cat rfl _ _ rfl w.heap.size v4 (L.take k ++ [⟨no, nul8⟩]) rfl Q2.out _ _ _ (L.drop k) rfl (X2.out.on K2.out) (by simp; omega) K2.out.size ?_; intro v5 w5 q5 k5; obtain ⟨A5, d5, N5, hv⟩ : ∃ A5 d5 N5, v5 = Value.slice A5 N5 d5 := (by obtain ⟨A5, d5, hv, _⟩ := q5.mut; exact ⟨_, _, _, hv⟩); subst hv; have Q5 := Lib.hid q5; have K5 := Lib.hid (K2.out.trans k5); clear q5 k5; have B5 := Lib.hid (HB.out.on K5.out); have b4 := B5.out.c1; have b5 := B5.out.f1) | (at_builtin; refine st_cat rfl _ _ rfl w.heap.size v1 (L.take k) rfl (Q1.out.on K3.out) _ _ _ [⟨no, nul8⟩] rfl E3.out (by simp; omega) (K1.out.trans (K3.out.mono K1.out.size)).size ?_; intro v4 w4 q4 k4; have Q2 := Lib.hid q4; have K2 := Lib.hid ((K1.out.trans (K3.out.mono K1.out.size)).trans k4); clear q4 k4; have c1 := (HB.out.on K2.out).c1) | (at_builtin; refine st_cat rfl _ _ rfl w.heap.size _ [] rfl (own_nil _ _) _ _ _ (L.take k) rfl X1.out (by simp; omega) (Nat.le_refl _) ?_; intro v1 w1 q1 k1; rw [List.nil_append] at q1; have Q1 := Lib.hid q1; have K1 := Lib.hid k1; clear q1 k1) | (refine st_build rfl _ rfl no rfl ?_) | (refine st_one rfl _ rfl ⟨no, nul8⟩ rfl (ok_nul no) ?_; intro b3 w3 hb3 r3 k3; have E3 := Lib.hid (exts_one r3 (ok_nul no)); have K3 := Lib.hid k3; clear r3 k3))
      go_ret
      exact need_done HB.out K5.out (by rw [HI.out, ← List.append_assoc, hk]; exact Q5.out) HKb.out hB
end Go.Proofs.YtgaaieipeiekiaaGreat

namespace Go.Proofs.YtgaaieipeiekiaaGreat
open Go.RowKit
set_option maxRecDepth 100000

theorem Row.only {S : Nat → Prop} {w w' : World} {b : Nat} {t : TypeId} {c : Array Value} (h : Row w b t c) (k : Only S w w') (hS : ¬ S b) : Row w' b t c := (k.block b h.lt hS).trans h
/-- A content's variable, the result's behind it, and the content's list, which grows. -/
structure Grow (b : Nat) (s : Int) (mx : Nat) (R : List Ex → Prop) (w wr : World) (A : Option Addr) (n c : Nat) (M : List Ex) : Prop where
  box : Box wr b s A n c
  list : Mut (b + 2) wr A n c M
  le : n ≤ mx
  is : R M
  res : Box wr (b + 1) 0 none 0 0
  below : Below b w wr
  size : b + 2 ≤ wr.heap.size
theorem Grow.next {b : Nat} {s : Int} {mx mx' : Nat} {R R' : List Ex → Prop} {w wr w' : World} {A A' : Option Addr} {n c n' c' : Nat} {M M' : List Ex} (h : Grow b s mx R w wr A n c M)
    (hb : Box w' b s A' n' c') (hm : Mut (b + 2) w' A' n' c' M') (hl : n' ≤ mx') (hr : R' M') (o : Only (fun d => d = b) wr w') (hbw : b ≤ w.heap.size) : Grow b s mx' R' w w' A' n' c' M' :=
  ⟨hb, hm, hl, hr, Row.only h.res o (by omega), h.below.trans (o.below (Nat.le_trans hbw h.below.size) (fun d hd => by omega)), Nat.le_trans h.size o.size⟩
theorem Grow.on {b : Nat} {s : Int} {mx : Nat} {R : List Ex → Prop} {w wr w' : World} {A : Option Addr} {n c : Nat} {M : List Ex} (h : Grow b s mx R w wr A n c M) (k : Below wr.heap.size wr w') (hbw : b ≤ w.heap.size) : Grow b s mx R w w' A n c M :=
  ⟨h.box.on k, h.list.on k, h.le, h.is, h.res.on k, h.below.trans (k.mono (Nat.le_trans hbw h.below.size)), Nat.le_trans h.size k.size⟩
/-- What is answered is stored in the result's variable. -/
theorem Grow.done {b : Nat} {s : Int} {mx : Nat} {R : List Ex → Prop} {w W : World} {A : Option Addr} {n c : Nat} {M : List Ex} (h : Grow b s mx R w W A n c M) (s' : Int) :
    Box ((W.setCell ⟨b + 1, 0, none⟩ (.int .i64 s')).setCell ⟨b + 1, 1, none⟩ (.slice A n c)) (b + 1) s' A n c ∧ Mut b ((W.setCell ⟨b + 1, 0, none⟩ (.int .i64 s')).setCell ⟨b + 1, 1, none⟩ (.slice A n c)) A n c M ∧ Below b w ((W.setCell ⟨b + 1, 0, none⟩ (.int .i64 s')).setCell ⟨b + 1, 1, none⟩ (.slice A n c)) :=
  ⟨h.res.put _ _ _ _, h.list.only (B' := b) (only_put _ _ _ _) (fun g hg hd => by omega) (by omega), below_put h.below _ (by omega) _ _⟩
/-- The copy is stored in the content's variable. -/
theorem grow_start {w w1 W : World} {s : Int} {A A' : Option Addr} {n c c' : Nat} {L : List Ex} (h : Duo w w1 s A n c) (hb : Below w1.heap.size w1 W) (hm : Mut w1.heap.size W A' n c' L) (R : List Ex → Prop) (hr : R L) :
    Grow w.heap.size s n R w ((W.setCell ⟨w.heap.size, 0, none⟩ (.int .i64 s)).setCell ⟨w.heap.size, 1, none⟩ (.slice A' n c')) A' n c' L := by
  have hs := h.size
  have D := h.on hb
  refine ⟨D.b0.put _ _ _ _, hm.only (only_put _ _ _ _) (fun g hg hd => by omega) hs, Nat.le_refl _, hr, Row.only D.b1 (only_put _ _ _ _) (by omega), below_put D.below _ (Nat.le_refl _) _ _, ?_⟩
  exact Nat.le_trans D.size (only_put W w.heap.size _ _).size
/-- .. with another size. -/
theorem Grow.size0 {b : Nat} {s : Int} {mx : Nat} {R : List Ex → Prop} {w W : World} {A : Option Addr} {n c : Nat} {M : List Ex} (h : Grow b s mx R w W A n c M) (hbw : b ≤ w.heap.size) (s' : Int) :
    Grow b s' mx R w (W.setCell ⟨b, 0, none⟩ (.int .i64 s')) A n c M := by
  have o : Only (fun d => d = b) W (W.setCell ⟨b, 0, none⟩ (.int .i64 s')) := (Only.refl (fun d => d = b) W).setCell ⟨b, 0, none⟩ (fun _ => rfl) _
  exact ⟨Row.setv h.box 0 (.int .i64 s'), h.list.only o (fun g hg hd => by omega) (Nat.le_refl _), h.le, h.is, Row.only h.res o (by omega), h.below.trans (o.below (Nat.le_trans hbw h.below.size) (fun d hd => by omega)), Nat.le_trans h.size o.size⟩

/-- The first j of them are there. -/
def AR (L : List Ex) (f : Int) (j : Nat) (M : List Ex) : Prop := Up M ∧ ∀ m, look M m = flook L f (f + (j : Int) - 1) m
theorem ar_zero {L : List Ex} (h : Up L) (f : Int) : AR L f 0 L := ⟨h, fun m => by rw [flook, if_neg (by omega)]⟩
theorem AR.next {L M : List Ex} {f : Int} {j : Nat} (h : AR L f j M) : AR L f (j + 1) (xins M (f + (j : Int))) := by
  refine ⟨up_ins h.1 _, fun m => ?_⟩
  rw [ins_look h.1, h.2, h.2]
  unfold flook
  by_cases g : m = f + (j : Int)
  · subst g
    rw [if_pos rfl, if_neg (by omega), if_pos (by omega)]
  · rw [if_neg g]
    by_cases g2 : f ≤ m ∧ m ≤ f + (j : Int) - 1
    · rw [if_pos g2, if_pos (by omega)]
    · rw [if_neg g2, if_neg (by omega)]
theorem AR.alo {L M : List Ex} {p k : Int} {j : Nat} (hu : Up L) (h : AR L (p / 8) j M) (hj : p / 8 + (j : Int) - 1 = (p + k - 1) / 8) (h1 : 1 ≤ k) : M = alo L p k := by
  refine look_ext h.1 (up_fil hu (by omega) (by omega)) (fun m => ?_)
  rw [h.2, hj]
  exact (fil_look hu (by omega) (by omega) m).symm

set_option maxRecDepth 100000 in
set_option maxHeartbeats 4000000 in
theorem ralloc_any (s : Int) (A : Option Addr) (n c : Nat) (L : List Ex) (p k : Int) (keep : Bool) (w : World) (h : Exts w A n c L) (hn : n ≤ 10000) (p9 : -9223372036854775808 ≤ p ∧ p ≤ 9223372036854775807) (k9 : -9223372036854775808 ≤ k ∧ k ≤ 9223372036854775807) (z : Bool) (hz : ((eo p k).isSome && decide (1 ≤ k) && decide (k ≤ 32768) && may s L) = z) :
    Calls Tryz.prog 72 #[ct s A n c, .int .i64 p, .int .i64 k, .bool keep] w (CtPost z (if z = true then asz s p k keep else 0) (fun M => M = if z = true then alo L p k else []) w) := by
  have D0 := Lib.hid (duo_new w s A n c)
  have H := Lib.hid h
  have HZ := Lib.hid hz
  have hmx := h.max
  clear h hz
  show Calls Tryz.prog 72 #[.agg #[.int .i64 s, .slice A n c], .int .i64 p, .int .i64 k, .bool keep] w _
  go_enter Tryz.func72, Tryz.ntmps72
  go_wp2_with fail
  obtain ⟨y, hy⟩ : ∃ y, may s L = y := ⟨_, rfl⟩
  have HY := Lib.hid hy
  clear hy
  refine (rmay_any s A n c L _ (H.out.on D0.out.below) y HY.out).mono ?_
  rintro e w1 ⟨rfl, k1⟩
  have D1 := Lib.hid (D0.out.on k1)
  clear k1 D0
  have c0 := D1.out.b0.c0; have c1 := D1.out.b0.c1; have d0 := D1.out.b1.c0; have d1 := D1.out.b1.c1; have f0 := D1.out.b1.f0; have f1 := D1.out.b1.f1
  cases y with
  | false =>
    have hzy : false = z := by rw [← HZ.out, HY.out]; simp
    subst hzy
    go_wp2
    refine res_box2 rfl (w.heap.size + 1) 0 none 0 0 rfl D1.out.none.1 rfl ?_
    exact ⟨none, 0, 0, [], rfl, rfl, D1.out.none.2.1, D1.out.none.2.2⟩
  | true =>
    by_cases t0 : 0 ≤ p
    · by_cases t1 : 1 ≤ k
      · by_cases t2 : k ≤ 32768
        · by_cases t3 : p ≤ 1099511627776 - k
          · have hzy : true = z := by
              rw [← HZ.out, HY.out]
              have he : (eo p k).isSome = true := by
                cases he : eo p k with
                | some _ => rfl
                | none => exact absurd ⟨t0, by omega, by omega⟩ (eo_none he)
              simp [he, t1, t2]
            subst hzy
            have HG := Lib.hid ((may_iff s L).1 HY.out)
            obtain ⟨hs0, hs1⟩ : 0 ≤ s ∧ s ≤ 1099511627776 := ⟨HG.out.s0, HG.out.s1⟩
            obtain ⟨f, hf, f0', f1', hfe⟩ : ∃ f : Int, p.tdiv 8 = f ∧ 0 ≤ f ∧ f ≤ 137438953472 ∧ f = p / 8 := ⟨_, rfl, by rw [Int.tdiv_eq_ediv_of_nonneg t0]; omega, by rw [Int.tdiv_eq_ediv_of_nonneg t0]; omega, by rw [Int.tdiv_eq_ediv_of_nonneg t0]⟩
            have HFE := Lib.hid hfe
            clear hfe
            go_wp2_with fail
            refine (copy_any s A n c L w1 (H.out.on D1.out.below) (by omega)).mono ?_
            rintro e w2 ⟨A2, c2, rfl, m2, k2⟩
            rw [H.out.len] at m2 ⊢
            have D2 := Lib.hid (D1.out.on k2)
            have G2 := Lib.hid (grow_start D1.out k2 m2 (AR L f 0) (ar_zero HG.out.up f))
            clear c0 c1 d0 d1 f0 f1 m2
            have c0 := D2.out.b0.c0; have c1 := D2.out.b0.c1; have g0 := D2.out.b0.f0; have g1 := D2.out.b0.f1
            unfold ct
            go_wp2
            go_loopw [10] (fun i wr => ∃ j : Nat, i = .int .i64 (f + (j : Int)) ∧ f + (j : Int) ≤ (p + k - 1) / 8 + 1 ∧ Hid (∃ A3 n3 c3 M3, Grow w.heap.size s (n + j) (AR L f j) w wr A3 n3 c3 M3)) (fun i _ => (p + k - intOf i).toNat)
            case atStart => exact ⟨0, by simp, by have := HFE.out; omega, ⟨_, _, _, _, G2.out⟩⟩
            case round =>
              clear G2 c0 c1 g0 g1
              obtain ⟨j, rfl, hj, G⟩ := hrel
              obtain ⟨A3, n3, c3, M3, G3x⟩ := G.out
              have G3 := Lib.hid G3x
              clear G3x G
              have c0 := G3.out.box.c0; have c1 := G3.out.box.c1; have g0 := G3.out.box.f0; have g1 := G3.out.box.f1
              have d0 := G3.out.res.c0; have d1 := G3.out.res.c1; have f0 := G3.out.res.f0; have f1 := G3.out.res.f1
              have hjl : (j : Int) ≤ 4200 := by have := HFE.out; omega
              by_cases hlt : (f + (j : Int)) * 8 < p + k
              · go_wp2_with fail
                refine (need_any w.heap.size (w.heap.size + 2) s A3 n3 c3 M3 (f + (j : Int)) wr G3.out.box G3.out.list (by have := G3.out.le; omega) G3.out.is.1 G3.out.size).mono ?_
                rintro e w4 ⟨A4, c4, rfl, b4, m4, o4⟩
                have G4 := Lib.hid (G3.out.next (mx' := n + (j + 1)) b4 m4 (by have := ins_len M3 (f + (j : Int)); have := G3.out.le; have := G3.out.list.exts.len; omega) G3.out.is.next o4 (Nat.le_refl _))
                clear b4 m4 o4 c0 c1 d0 d1 f0 f1 g0 g1
                go_wp2
                go_roundw
                case rel => exact ⟨j + 1, by go_num, by omega, ⟨_, _, _, _, G4.out⟩⟩
                case measure => simp [intOf]; omega
              · have HE := Lib.hid (show M3 = alo L p k from AR.alo (j := j) HG.out.up (by rw [← HFE.out]; exact G3.out.is) (by rw [← HFE.out]; have := HFE.out; omega) t1)
                cases keep with
                | true =>
                  have HV := Lib.hid (show asz s p k true = s by simp [asz])
                  go_wp2
                  have X := G3.out.done s
                  refine res_box2 rfl (w.heap.size + 1) s A3 n3 c3 rfl X.1 rfl ?_
                  exact ⟨A3, n3, c3, M3, by rw [HV.out]; rfl, HE.out, X.2.1, X.2.2⟩
                | false =>
                  by_cases g : s < p + k
                  · have HV := Lib.hid (show asz s p k false = (p + k) by simp [asz]; omega)
                    have G4 := Lib.hid (G3.out.size0 (Nat.le_refl _) (p + k))
                    go_wp2
                    all_goals
                      have X := G4.out.done (p + k)
                      refine res_box2 rfl (w.heap.size + 1) (p + k) A3 n3 c3 rfl X.1 rfl ?_
                      exact ⟨A3, n3, c3, M3, by rw [HV.out]; rfl, HE.out, X.2.1, X.2.2⟩
                  · have g1x : p + k ≤ s := by omega
                    have HV := Lib.hid (show asz s p k false = s by simp [asz]; omega)
                    have G4 := Lib.hid (G3.out.size0 (Nat.le_refl _) s)
                    go_wp2
                    all_goals
                      have X := G4.out.done s
                      refine res_box2 rfl (w.heap.size + 1) s A3 n3 c3 rfl X.1 rfl ?_
                      exact ⟨A3, n3, c3, M3, by rw [HV.out]; rfl, HE.out, X.2.1, X.2.2⟩
          · have hzy : false = z := by
              rw [← HZ.out]
              cases he : eo p k with
              | none => rfl
              | some d => obtain ⟨x1, x2, x3, x4⟩ := eo_some he; exact absurd x1 (by omega)
            subst hzy
            go_wp2
            refine res_box2 rfl (w.heap.size + 1) 0 none 0 0 rfl D1.out.none.1 rfl ?_
            exact ⟨none, 0, 0, [], rfl, rfl, D1.out.none.2.1, D1.out.none.2.2⟩
        · have hzy : false = z := by rw [← HZ.out]; simp [t2]
          subst hzy
          go_wp2
          refine res_box2 rfl (w.heap.size + 1) 0 none 0 0 rfl D1.out.none.1 rfl ?_
          exact ⟨none, 0, 0, [], rfl, rfl, D1.out.none.2.1, D1.out.none.2.2⟩
      · have hzy : false = z := by rw [← HZ.out]; simp [t1]
        subst hzy
        go_wp2
        refine res_box2 rfl (w.heap.size + 1) 0 none 0 0 rfl D1.out.none.1 rfl ?_
        exact ⟨none, 0, 0, [], rfl, rfl, D1.out.none.2.1, D1.out.none.2.2⟩
    · have hzy : false = z := by
        rw [← HZ.out]
        cases he : eo p k with
        | none => rfl
        | some d => obtain ⟨x1, x2, x3, x4⟩ := eo_some he; exact absurd x1 (by omega)
      subst hzy
      go_wp2
      refine res_box2 rfl (w.heap.size + 1) 0 none 0 0 rfl D1.out.none.1 rfl ?_
      exact ⟨none, 0, 0, [], rfl, rfl, D1.out.none.2.1, D1.out.none.2.2⟩
end Go.Proofs.YtgaaieipeiekiaaGreat

namespace Go.Proofs.YtgaaieipeiekiaaGreat

theorem ins_at {L : List Ex} (hu : Up L) (no : Int) : idx L no < (xins L no).length ∧ (xins L no).getD (idx L no) default = ⟨no, (look L no).getD nul8⟩ := by
  have hl := look_idx hu no
  by_cases h : idx L no < L.length ∧ (L.getD (idx L no) default).no = no
  · rw [ins_there hu h]
    rw [if_pos h] at hl
    rw [hl]
    refine ⟨h.1, ?_⟩
    have := h.2
    generalize L.getD (idx L no) default = e at *
    cases e
    simp only at this
    subst this
    rfl
  · rw [ins_not hu h]
    rw [if_neg h] at hl
    rw [hl]
    have hle := idx_le L no
    have hlen : (L.take (idx L no)).length = idx L no := by rw [List.length_take]; omega
    refine ⟨by simp; omega, ?_⟩
    rw [List.getD_eq_getElem?_getD, List.getElem?_append_right (by omega), hlen, Nat.sub_self]
    rfl
theorem wbytes_not {L : List Ex} (hok : ∀ e ∈ L, e.ok) (p : Int) (b : List Int) (k : Int) (h : ∀ i : Nat, i < 8 → ¬ (p ≤ k * 8 + (i : Int) ∧ k * 8 + (i : Int) < p + (b.length : Int))) : wbytes L p b k = (look L k).getD nul8 := by
  refine ext8 (wbytes_len _ _ _ _) ?_ (fun i hi => ?_)
  · cases hl : look L k with
    | none => rfl
    | some bs => exact (hok _ (look_some hl)).1
  · rw [wbytes_get _ _ _ _ _ hi, if_neg (h i hi)]
    have h1 : (k * 8 + (i : Int)) / 8 = k := by omega
    have h2 : ((k * 8 + (i : Int)) % 8).toNat = i := by omega
    rw [at_, h1, h2]
    cases look L k with
    | none => exact (nul8_get i).symm
    | some bs => rfl
theorem wr_zero {L : List Ex} (h : Up L) (p : Int) : WR L p [] L := ⟨h, fun k => by rw [if_pos rfl]⟩
theorem WR.there {L M : List Ex} {p : Int} {bs : List Int} {i : Nat} (hok : ∀ e ∈ L, e.ok) (h : WR L p (bs.take i) M) (hi : i < bs.length) {no : Int} (hno : (p + (i : Int)) / 8 = no) : (look M no).getD nul8 = wbytes L p (bs.take i) no := by
  have hlen : (bs.take i).length = i := by rw [List.length_take]; omega
  rw [h.2]
  by_cases h0 : bs.take i = []
  · rw [if_pos h0, wbytes_not hok]
    intro q hq
    rw [h0]
    simp only [List.length_nil]
    omega
  · rw [if_neg h0]
    have hip : 0 < i := by
      rcases Nat.eq_zero_or_pos i with rfl | hp
      · exact absurd (by simp) h0
      · exact hp
    unfold wlook
    rw [hlen]
    by_cases h1 : p / 8 ≤ no ∧ no ≤ (p + (i : Int) - 1) / 8
    · rw [if_pos h1]; rfl
    · rw [if_neg h1, wbytes_not hok]
      intro q hq
      rw [hlen]
      omega
theorem WR.next {L M : List Ex} {p : Int} {bs : List Int} {i : Nat} (hok : ∀ e ∈ L, e.ok) (h : WR L p (bs.take i) M) (hi : i < bs.length) {no : Int} {r : Nat} (hno : (p + (i : Int)) / 8 = no) (hr : (p + (i : Int)) % 8 = (r : Int)) :
    WR L p (bs.take (i + 1)) ((xins M no).set (idx M no) ⟨no, splice ((look M no).getD nul8) r [bs.getD i 0]⟩) := by
  have hu := h.1
  obtain ⟨hj, hg⟩ := ins_at hu no
  have hgn : ((xins M no).getD (idx M no) default).no = no := by rw [hg]
  refine ⟨up_set (up_ins hu no) _ _ hgn, fun m => ?_⟩
  have hlen : (bs.take (i + 1)).length = i + 1 := by rw [List.length_take]; omega
  have hne : ¬ bs.take (i + 1) = [] := by intro he; rw [he] at hlen; simp at hlen
  rw [look_set (up_ins hu no) _ _ hj hgn, if_neg hne]
  unfold wlook
  rw [hlen]
  have hd : ((bs.drop i).take 1) = [bs.getD i 0] := by
    rw [List.drop_eq_getElem_cons hi, List.take_succ_cons, List.take_zero, List.getD_eq_getElem?_getD, List.getElem?_eq_getElem hi]; rfl
  by_cases g : no = m
  · subst g
    rw [if_pos rfl, if_pos (by omega), WR.there hok h hi hno, ← hd]
    rw [wbytes_same L p bs i 1 r no (by omega) hno hr (by omega)]
  · rw [if_neg g, ins_look hu, if_neg (fun x => g x.symm), h.2]
    have hlen' : (bs.take i).length = i := by rw [List.length_take]; omega
    by_cases h0 : bs.take i = []
    · rw [if_pos h0]
      have : i = 0 := by rw [h0] at hlen'; simpa using hlen'.symm
      subst this
      rw [if_neg (by omega)]
    · rw [if_neg h0]
      have hip : 0 < i := by
        rcases Nat.eq_zero_or_pos i with rfl | hp
        · exact absurd (by simp) h0
        · exact hp
      unfold wlook
      rw [hlen']
      by_cases h1 : p / 8 ≤ m ∧ m ≤ (p + (i : Int) - 1) / 8
      · rw [if_pos h1, if_pos (by omega), wbytes_other L p bs i 1 no m (by omega) hno (by omega) (fun x => g x.symm)]
      · rw [if_neg h1, if_neg (by omega)]
end Go.Proofs.YtgaaieipeiekiaaGreat

namespace Go.Proofs.YtgaaieipeiekiaaGreat
open Go.RowKit
set_option maxRecDepth 100000

/-- A byte of the list is stored. -/
theorem Grow.byte {b : Nat} {s : Int} {mx : Nat} {R R' : List Ex → Prop} {w W : World} {g o n c : Nat} {M : List Ex} (h : Grow b s mx R w W (some ⟨g, o, none⟩) n c M) (hbw : b ≤ w.heap.size) (j r : Nat) (hj : j < n) (hr : r < 8) (x : Int) (hx : 0 ≤ x ∧ x ≤ 255) (e : Ex) (he : M.getD j default = e)
    (hR : R' (M.set j ⟨e.no, splice e.bs r [x]⟩)) : Grow b s mx R' w (W.setCell ⟨g, o + j * 9 + 1 + r, none⟩ (.int .u8 x)) (some ⟨g, o, none⟩) n c (M.set j ⟨e.no, splice e.bs r [x]⟩) := by
  obtain ⟨h1, h2, h3⟩ := h.list.own g o rfl
  have hs := h.size
  have hok := h.list.exts.get j hj
  rw [he] at hok
  have hp := h.list.exts.put j (1 + r) [Value.int .u8 x] ⟨e.no, splice e.bs r [x]⟩ hj (by simp; omega) (ok_splice hok r [x] (by simp; omega) (by intro y hy; rw [List.mem_singleton] at hy; subst hy; exact hx)) (by rw [he, splice_bytes]; rfl)
  have hw : W.setCells g (o + j * 9 + (1 + r)) [Value.int .u8 x] = W.setCell ⟨g, o + j * 9 + 1 + r, none⟩ (.int .u8 x) := by
    rw [← Nat.add_assoc]; rfl
  rw [hw] at hp
  have o1 : Only (fun d => d = g) W (W.setCell ⟨g, o + j * 9 + 1 + r, none⟩ (.int .u8 x)) := (Only.refl (fun d => d = g) W).setCell ⟨g, o + j * 9 + 1 + r, none⟩ (fun _ => rfl) _
  refine ⟨Row.only h.box o1 (by omega), ⟨hp, fun g' o' hh => ?_⟩, h.le, hR, Row.only h.res o1 (by omega), h.below.trans (o1.below (Nat.le_trans hbw h.below.size) (fun d hd => by omega)), Nat.le_trans h.size o1.size⟩
  injection hh with hh; injection hh with e1 e2; subst e1 e2
  refine ⟨h1, Nat.lt_of_lt_of_le h2 o1.size, fun q => ?_⟩
  rw [← hw, World.frozen?_setCells]
  exact h3 q

set_option maxRecDepth 100000 in
set_option maxHeartbeats 8000000 in
theorem rwrite_any (s : Int) (A : Option Addr) (n c : Nat) (L : List Ex) (p : Int) (BA : Option Addr) (nb cb : Nat) (bs : List Int) (w : World) (h : Exts w A n c L) (hn : n ≤ 10000) (p9 : -9223372036854775808 ≤ p ∧ p ≤ 9223372036854775807) (hb : Nums .u8 w BA nb cb bs) (hb8 : ∀ x ∈ bs, 0 ≤ x ∧ x ≤ 255) (z : Bool) (hz : ((eo p (nb : Int)).isSome && decide (nb ≤ 4096) && may s L) = z) :
    Calls Tryz.prog 70 #[ct s A n c, .int .i64 p, .slice BA nb cb] w (CtPost z (if z = true then wsz s p nb else 0) (fun M => if z = true then WR L p bs M else M = []) w) := by
  have D0 := Lib.hid (duo_new w s A n c)
  have H := Lib.hid h
  have HZ := Lib.hid hz
  have HB := Lib.hid hb; have HB8 := Lib.hid hb8
  have hmx := h.max
  have hbm : nb ≤ 9223372036854775807 := by have := hb.le; have := hb.mx; unfold maxLen at this; omega
  clear h hz hb hb8
  show Calls Tryz.prog 70 #[.agg #[.int .i64 s, .slice A n c], .int .i64 p, .slice BA nb cb] w _
  go_enter Tryz.func70, Tryz.ntmps70
  go_wp2_with fail
  obtain ⟨y, hy⟩ : ∃ y, may s L = y := ⟨_, rfl⟩
  have HY := Lib.hid hy
  clear hy
  refine (rmay_any s A n c L _ (H.out.on D0.out.below) y HY.out).mono ?_
  rintro e w1 ⟨rfl, k1⟩
  have D1 := Lib.hid (D0.out.on k1)
  clear k1 D0
  have c0 := D1.out.b0.c0; have c1 := D1.out.b0.c1; have d0 := D1.out.b1.c0; have d1 := D1.out.b1.c1; have f0 := D1.out.b1.f0; have f1 := D1.out.b1.f1
  cases y with
  | false =>
    have hzy : false = z := by rw [← HZ.out, HY.out]; simp
    subst hzy
    go_wp2
    refine res_box2 rfl (w.heap.size + 1) 0 none 0 0 rfl D1.out.none.1 rfl ?_
    exact ⟨none, 0, 0, [], rfl, rfl, D1.out.none.2.1, D1.out.none.2.2⟩
  | true =>
    by_cases t0 : 0 ≤ p
    · by_cases t2 : nb ≤ 4096
      · have t2i : (nb : Int) ≤ 4096 := by omega
        by_cases t3 : p ≤ 1099511627776 - (nb : Int)
        · have hzy : true = z := by
            rw [← HZ.out, HY.out]
            have he : (eo p (nb : Int)).isSome = true := by
              cases he : eo p (nb : Int) with
              | some _ => rfl
              | none => exact absurd ⟨t0, by omega, by omega⟩ (eo_none he)
            simp [he, t2]
          subst hzy
          have HG := Lib.hid ((may_iff s L).1 HY.out)
          obtain ⟨hs0, hs1⟩ : 0 ≤ s ∧ s ≤ 1099511627776 := ⟨HG.out.s0, HG.out.s1⟩
          go_wp2_with fail
          refine (copy_any s A n c L w1 (H.out.on D1.out.below) (by omega)).mono ?_
          rintro e w2 ⟨A2, c2, rfl, m2, k2⟩
          rw [H.out.len] at m2 ⊢
          have D2 := Lib.hid (D1.out.on k2)
          have G2 := Lib.hid (grow_start D1.out k2 m2 (WR L p (bs.take 0)) (wr_zero HG.out.up p))
          clear c0 c1 d0 d1 f0 f1 m2
          have c0 := D2.out.b0.c0; have c1 := D2.out.b0.c1; have g0 := D2.out.b0.f0; have g1 := D2.out.b0.f1
          unfold ct
          go_wp2
          go_loopw [8] (fun i wr => ∃ j : Nat, i = .int .i64 (j : Int) ∧ j ≤ nb ∧ Hid (∃ A3 n3 c3 M3, Grow w.heap.size s (n + j) (WR L p (bs.take j)) w wr A3 n3 c3 M3)) (fun i _ => nb - (intOf i).toNat)
          case atStart => exact ⟨0, rfl, Nat.zero_le _, ⟨_, _, _, _, G2.out⟩⟩
          case round =>
            clear G2 c0 c1 g0 g1
            obtain ⟨j, rfl, hj, G⟩ := hrel
            obtain ⟨A3, n3, c3, M3, G3x⟩ := G.out
            have G3 := Lib.hid G3x
            clear G3x G
            have c0 := G3.out.box.c0; have c1 := G3.out.box.c1; have g0 := G3.out.box.f0; have g1 := G3.out.box.f1
            have d0 := G3.out.res.c0; have d1 := G3.out.res.c1; have f0 := G3.out.res.f0; have f1 := G3.out.res.f1
            by_cases hlt : j < nb
            · have hji : (j : Int) < (nb : Int) := by omega
              obtain ⟨no, hno, no0, no1, hne⟩ : ∃ no : Int, (p + (j : Int)).tdiv 8 = no ∧ 0 ≤ no ∧ no ≤ 137438953472 ∧ (p + (j : Int)) / 8 = no := ⟨_, rfl, by rw [Int.tdiv_eq_ediv_of_nonneg (by omega)]; omega, by rw [Int.tdiv_eq_ediv_of_nonneg (by omega)]; omega, by rw [Int.tdiv_eq_ediv_of_nonneg (by omega)]⟩
              obtain ⟨r, hr, hr8, hre⟩ : ∃ r : Nat, (p + (j : Int)).tmod 8 = (r : Int) ∧ r < 8 ∧ (p + (j : Int)) % 8 = (r : Int) := ⟨((p + (j : Int)) % 8).toNat, by rw [Int.tmod_eq_emod_of_nonneg (by omega)]; omega, by omega, by omega⟩
              have HNE := Lib.hid hne; have HRE := Lib.hid hre
              clear hne hre
              go_wp2_with fail
              refine (need_any w.heap.size (w.heap.size + 2) s A3 n3 c3 M3 no wr G3.out.box G3.out.list (by have := G3.out.le; omega) G3.out.is.1 G3.out.size).mono ?_
              rintro e w4 ⟨A4, c4, rfl, b4, m4, o4⟩
              have HNX := Lib.hid (WR.next (no := no) (r := r) H.out.ok G3.out.is (by rw [HB.out.len]; exact hlt) HNE.out HRE.out)
              have hIA := ins_at G3.out.is.1 no
              have G4 := Lib.hid (G3.out.next (mx' := n + (j + 1)) (R' := fun _ => True) b4 m4 (by have := ins_len M3 no; have := G3.out.le; have := G3.out.list.exts.len; omega) trivial o4 (Nat.le_refl _))
              clear b4 m4 o4 c0 c1 d0 d1 f0 f1 g0 g1
              obtain ⟨k, hk⟩ : ∃ k, idx M3 no = k := ⟨_, rfl⟩
              obtain ⟨M4, hM4⟩ : ∃ M, xins M3 no = M := ⟨_, rfl⟩
              obtain ⟨n4, hn4⟩ : ∃ m, M4.length = m := ⟨_, rfl⟩
              rw [hk, hM4] at hIA HNX
              rw [hk]
              rw [hM4, hn4] at G4
              rw [hn4] at hIA
              obtain ⟨hkn, hIE⟩ := hIA
              obtain ⟨g, o, rfl, hgl, _⟩ := G4.out.list.exts.cells (by omega)
              have HIE := Lib.hid hIE
              obtain ⟨sb, so, rfl, hsbl, hsc⟩ := HB.out.cells (by omega)
              have hx0 := hsc j hlt
              have hx1 := (G4.out.below.cell (p := ⟨sb, so + j, none⟩) hsbl).trans hx0
              have hx8 := HB8.out (bs.getD j 0) (by rw [List.getD_eq_getElem?_getD, List.getElem?_eq_getElem (by rw [HB.out.len]; exact hlt)]; exact List.getElem_mem _)
              clear hsc hx0 hIE hk hM4 hn4
              generalize bs.getD j 0 = x at *
              have cb := G4.out.list.exts.byte k hkn r hr8
              have fb := (G4.out.list.own g o rfl).2.2 (o + k * 9 + 1 + r)
              have c1 := G4.out.box.c1
              generalize (M4.getD k default).bs.getD r 0 = x0 at cb
              have hk0 : (0 : Int) ≤ (k : Int) := by omega
              have hk1 : (k : Int) < (n4 : Int) := by omega
              have hr0 : (0 : Int) ≤ (r : Int) := by omega
              have hr1 : (r : Int) < 8 := by omega
              have hj0 : (0 : Int) ≤ (j : Int) := by omega
              have hwr : IntKind.i64.wrap (p + (j : Int)) = p + (j : Int) := IntWalk.i64_in _ (by omega)
              go_wp2
              go_still_tail 14, (by kernel_rfl)
              have G5 := Lib.hid ((G4.out.on (below_drewN (Below.refl _ _) 1) (Nat.le_refl _)).byte (R' := WR L p (bs.take (j + 1))) (Nat.le_refl _) k r hkn hr8 x hx8 ⟨no, (look M3 no).getD nul8⟩ HIE.out HNX.out)
              go_wp2
              go_roundw
              case rel => exact ⟨j + 1, by go_num, by omega, ⟨_, _, _, _, G5.out⟩⟩
              case measure => simp [intOf]; omega
            · obtain rfl : j = nb := by omega
              have HE := Lib.hid (show WR L p bs M3 from by have := G3.out.is; rwa [List.take_of_length_le (by rw [HB.out.len]; exact Nat.le_refl _)] at this)
              by_cases g0x : 0 < j
              · have g0i : (0 : Int) < (j : Int) := by omega
                by_cases g : s < p + (j : Int)
                · have HV := Lib.hid (show wsz s p j = p + (j : Int) by simp [wsz, show j ≠ 0 by omega]; omega)
                  have G4 := Lib.hid (G3.out.size0 (Nat.le_refl _) (p + (j : Int)))
                  go_wp2
                  all_goals
                    have X := G4.out.done (p + (j : Int))
                    refine res_box2 rfl (w.heap.size + 1) (p + (j : Int)) A3 n3 c3 rfl X.1 rfl ?_
                    exact ⟨A3, n3, c3, M3, by rw [HV.out]; rfl, HE.out, X.2.1, X.2.2⟩
                · have g1x : p + (j : Int) ≤ s := by omega
                  have HV := Lib.hid (show wsz s p j = s by simp [wsz, show j ≠ 0 by omega]; omega)
                  have G4 := Lib.hid (G3.out.size0 (Nat.le_refl _) s)
                  go_wp2
                  all_goals
                    have X := G4.out.done s
                    refine res_box2 rfl (w.heap.size + 1) s A3 n3 c3 rfl X.1 rfl ?_
                    exact ⟨A3, n3, c3, M3, by rw [HV.out]; rfl, HE.out, X.2.1, X.2.2⟩
              · have g0i : ¬ (0 : Int) < (j : Int) := by omega
                have HV := Lib.hid (show wsz s p j = s by simp [wsz, show j = 0 by omega])
                go_wp2
                have X := G3.out.done s
                refine res_box2 rfl (w.heap.size + 1) s A3 n3 c3 rfl X.1 rfl ?_
                exact ⟨A3, n3, c3, M3, by rw [HV.out]; rfl, HE.out, X.2.1, X.2.2⟩
        · have hzy : false = z := by
            rw [← HZ.out]
            cases he : eo p (nb : Int) with
            | none => rfl
            | some d => obtain ⟨x1, x2, x3, x4⟩ := eo_some he; exact absurd x1 (by omega)
          subst hzy
          go_wp2
          refine res_box2 rfl (w.heap.size + 1) 0 none 0 0 rfl D1.out.none.1 rfl ?_
          exact ⟨none, 0, 0, [], rfl, rfl, D1.out.none.2.1, D1.out.none.2.2⟩
      · have t2i : ¬ (nb : Int) ≤ 4096 := by omega
        have hzy : false = z := by rw [← HZ.out]; simp [t2]
        subst hzy
        go_wp2
        refine res_box2 rfl (w.heap.size + 1) 0 none 0 0 rfl D1.out.none.1 rfl ?_
        exact ⟨none, 0, 0, [], rfl, rfl, D1.out.none.2.1, D1.out.none.2.2⟩
    · have hzy : false = z := by
        rw [← HZ.out]
        cases he : eo p (nb : Int) with
        | none => rfl
        | some d => obtain ⟨x1, x2, x3, x4⟩ := eo_some he; exact absurd x1 (by omega)
      subst hzy
      go_wp2
      refine res_box2 rfl (w.heap.size + 1) 0 none 0 0 rfl D1.out.none.1 rfl ?_
      exact ⟨none, 0, 0, [], rfl, rfl, D1.out.none.2.1, D1.out.none.2.2⟩
end Go.Proofs.YtgaaieipeiekiaaGreat
