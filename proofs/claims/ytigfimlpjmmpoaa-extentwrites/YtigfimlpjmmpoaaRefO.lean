/- Contract of the reference's AllocateContent. -/
import Derived.Test.YtigfimlpjmmpoaaRefN
import Derived.Test.YtigfimlpjmmpoaaWalksM
import Derived.WalkKit
import Derived.WalkSpells
import Derived.WalkLawsBesides
import Derived.Lib.Hide
import Derived.BigQuiet
namespace Go.Proofs.Ytigfimlpjmmpoaa
open Go.RowKit

theorem Row.only {S : Nat → Prop} {w w' : World} {b : Nat} {t : TypeId} {c : Array Value} (h : Row w b t c) (k : Only S w w') (hS : ¬ S b) : Row w' b t c := (k.block b h.lt hS).trans h
/-- A content's variable, the result's behind it, and the content's list, which grows. -/
structure Grow (b : Nat) (s : Int) (mx : Nat) (R : List Ex → Prop) (w wr : World) (A : Option Addr) (n c : Nat) (M : List Ex) : Prop where
  box : Box wr b s A n c
  list : Mut (b + 2) wr A n c M
  le : n ≤ mx
  is : R M
  res : Box wr (b + 1) 0 none 0 0
  below : Below b w wr
  size : b + 2 ≤ wr.heap.size
theorem Grow.next {b : Nat} {s : Int} {mx mx' : Nat} {R R' : List Ex → Prop} {w wr w' : World} {A A' : Option Addr} {n c n' c' : Nat} {M M' : List Ex} (h : Grow b s mx R w wr A n c M)
    (hb : Box w' b s A' n' c') (hm : Mut (b + 2) w' A' n' c' M') (hl : n' ≤ mx') (hr : R' M') (o : Only (fun d => d = b) wr w') (hbw : b ≤ w.heap.size) : Grow b s mx' R' w w' A' n' c' M' :=
  ⟨hb, hm, hl, hr, Row.only h.res o (by omega), h.below.trans (o.below (Nat.le_trans hbw h.below.size) (fun d hd => by omega)), Nat.le_trans h.size o.size⟩
theorem Grow.on {b : Nat} {s : Int} {mx : Nat} {R : List Ex → Prop} {w wr w' : World} {A : Option Addr} {n c : Nat} {M : List Ex} (h : Grow b s mx R w wr A n c M) (k : Below wr.heap.size wr w') (hbw : b ≤ w.heap.size) : Grow b s mx R w w' A n c M :=
  ⟨h.box.on k, h.list.on k, h.le, h.is, h.res.on k, h.below.trans (k.mono (Nat.le_trans hbw h.below.size)), Nat.le_trans h.size k.size⟩
/-- What is answered is stored in the result's variable. -/
theorem Grow.done {b : Nat} {s : Int} {mx : Nat} {R : List Ex → Prop} {w W : World} {A : Option Addr} {n c : Nat} {M : List Ex} (h : Grow b s mx R w W A n c M) (s' : Int) :
    Box ((W.setCell ⟨b + 1, 0, none⟩ (.int .i64 s')).setCell ⟨b + 1, 1, none⟩ (.slice A n c)) (b + 1) s' A n c ∧ Exts ((W.setCell ⟨b + 1, 0, none⟩ (.int .i64 s')).setCell ⟨b + 1, 1, none⟩ (.slice A n c)) A n c M ∧ Below b w ((W.setCell ⟨b + 1, 0, none⟩ (.int .i64 s')).setCell ⟨b + 1, 1, none⟩ (.slice A n c)) :=
  ⟨h.res.put _ _ _ _, (h.list.only (B' := b + 2) (only_put _ _ _ _) (fun g hg hd => by omega) (Nat.le_refl _)).exts, below_put h.below _ (by omega) _ _⟩
/-- The copy is stored in the content's variable. -/
theorem grow_start {w w1 W : World} {s : Int} {A A' : Option Addr} {n c c' : Nat} {L : List Ex} (h : Duo w w1 s A n c) (hb : Below w1.heap.size w1 W) (hm : Mut w1.heap.size W A' n c' L) (R : List Ex → Prop) (hr : R L) :
    Grow w.heap.size s n R w ((W.setCell ⟨w.heap.size, 0, none⟩ (.int .i64 s)).setCell ⟨w.heap.size, 1, none⟩ (.slice A' n c')) A' n c' L := by
  have hs := h.size
  have D := h.on hb
  refine ⟨D.b0.put _ _ _ _, hm.only (only_put _ _ _ _) (fun g hg hd => by omega) hs, Nat.le_refl _, hr, Row.only D.b1 (only_put _ _ _ _) (by omega), below_put D.below _ (Nat.le_refl _) _ _, ?_⟩
  exact Nat.le_trans D.size (only_put W w.heap.size _ _).size
/-- .. with another size. -/
theorem Grow.size0 {b : Nat} {s : Int} {mx : Nat} {R : List Ex → Prop} {w W : World} {A : Option Addr} {n c : Nat} {M : List Ex} (h : Grow b s mx R w W A n c M) (hbw : b ≤ w.heap.size) (s' : Int) :
    Grow b s' mx R w (W.setCell ⟨b, 0, none⟩ (.int .i64 s')) A n c M := by
  have o : Only (fun d => d = b) W (W.setCell ⟨b, 0, none⟩ (.int .i64 s')) := (Only.refl (fun d => d = b) W).setCell ⟨b, 0, none⟩ (fun _ => rfl) _
  exact ⟨Row.setv h.box 0 (.int .i64 s'), h.list.only o (fun g hg hd => by omega) (Nat.le_refl _), h.le, h.is, Row.only h.res o (by omega), h.below.trans (o.below (Nat.le_trans hbw h.below.size) (fun d hd => by omega)), Nat.le_trans h.size o.size⟩

/-- The first j of them are there. -/
def AR (L : List Ex) (f : Int) (j : Nat) (M : List Ex) : Prop := Up M ∧ ∀ m, look M m = flook L f (f + (j : Int) - 1) m
theorem ar_zero {L : List Ex} (h : Up L) (f : Int) : AR L f 0 L := ⟨h, fun m => by rw [flook, if_neg (by omega)]⟩
theorem AR.next {L M : List Ex} {f : Int} {j : Nat} (h : AR L f j M) : AR L f (j + 1) (ins M (f + (j : Int))) := by
  refine ⟨up_ins h.1 _, fun m => ?_⟩
  rw [ins_look h.1, h.2, h.2]
  unfold flook
  by_cases g : m = f + (j : Int)
  · subst g
    rw [if_pos rfl, if_neg (by omega), if_pos (by omega)]
  · rw [if_neg g]
    by_cases g2 : f ≤ m ∧ m ≤ f + (j : Int) - 1
    · rw [if_pos g2, if_pos (by omega)]
    · rw [if_neg g2, if_neg (by omega)]
theorem AR.alo {L M : List Ex} {p k : Int} {j : Nat} (hu : Up L) (h : AR L (p / 8) j M) (hj : p / 8 + (j : Int) - 1 = (p + k - 1) / 8) (h1 : 1 ≤ k) : M = alo L p k := by
  refine look_ext h.1 (up_fil hu (by omega) (by omega)) (fun m => ?_)
  rw [h.2, hj]
  exact (fil_look hu (by omega) (by omega) m).symm

set_option maxRecDepth 100000 in
set_option maxHeartbeats 4000000 in
theorem ralloc_any (s : Int) (A : Option Addr) (n c : Nat) (L : List Ex) (p k : Int) (keep : Bool) (w : World) (h : Exts w A n c L) (hn : n ≤ 10000) (p9 : -9223372036854775808 ≤ p ∧ p ≤ 9223372036854775807) (k9 : -9223372036854775808 ≤ k ∧ k ≤ 9223372036854775807) (z : Bool) (hz : ((eo p k).isSome && decide (1 ≤ k) && decide (k ≤ 32768) && may s L) = z) :
    Calls Try.prog 28 #[ct s A n c, .int .i64 p, .int .i64 k, .bool keep] w (CtPost z (if z = true then asz s p k keep else 0) (fun M => M = if z = true then alo L p k else []) w) := by
  have D0 := Lib.hid (duo_new w s A n c)
  have H := Lib.hid h
  have HZ := Lib.hid hz
  have hmx := h.max
  clear h hz
  show Calls Try.prog 28 #[.agg #[.int .i64 s, .slice A n c], .int .i64 p, .int .i64 k, .bool keep] w _
  go_enter Try.func28, Try.ntmps28
  go_wp2_with fail
  obtain ⟨y, hy⟩ : ∃ y, may s L = y := ⟨_, rfl⟩
  have HY := Lib.hid hy
  clear hy
  refine (rmay_any s A n c L _ (H.out.on D0.out.below) y HY.out).mono ?_
  rintro e w1 ⟨rfl, k1⟩
  have D1 := Lib.hid (D0.out.on k1)
  clear k1 D0
  have c0 := D1.out.b0.c0; have c1 := D1.out.b0.c1; have d0 := D1.out.b1.c0; have d1 := D1.out.b1.c1; have f0 := D1.out.b1.f0; have f1 := D1.out.b1.f1
  cases y with
  | false =>
    have hzy : false = z := by rw [← HZ.out, HY.out]; simp
    subst hzy
    go_wp2
    refine res_box2 rfl (w.heap.size + 1) 0 none 0 0 rfl D1.out.none.1 rfl ?_
    exact ⟨none, 0, 0, [], rfl, rfl, D1.out.none.2.1, D1.out.none.2.2⟩
  | true =>
    by_cases t0 : 0 ≤ p
    · by_cases t1 : 1 ≤ k
      · by_cases t2 : k ≤ 32768
        · by_cases t3 : p ≤ 1099511627776 - k
          · have hzy : true = z := by
              rw [← HZ.out, HY.out]
              have he : (eo p k).isSome = true := by
                cases he : eo p k with
                | some _ => rfl
                | none => exact absurd ⟨t0, by omega, by omega⟩ (eo_none he)
              simp [he, t1, t2]
            subst hzy
            have HG := Lib.hid ((may_iff s L).1 HY.out)
            obtain ⟨hs0, hs1⟩ : 0 ≤ s ∧ s ≤ 1099511627776 := ⟨HG.out.s0, HG.out.s1⟩
            obtain ⟨f, hf, f0', f1', hfe⟩ : ∃ f : Int, p.tdiv 8 = f ∧ 0 ≤ f ∧ f ≤ 137438953472 ∧ f = p / 8 := ⟨_, rfl, by rw [Int.tdiv_eq_ediv_of_nonneg t0]; omega, by rw [Int.tdiv_eq_ediv_of_nonneg t0]; omega, by rw [Int.tdiv_eq_ediv_of_nonneg t0]⟩
            have HFE := Lib.hid hfe
            clear hfe
            go_wp2_with fail
            refine (copy_any s A n c L w1 (H.out.on D1.out.below) (by omega)).mono ?_
            rintro e w2 ⟨A2, c2, rfl, m2, k2⟩
            rw [H.out.len] at m2 ⊢
            have D2 := Lib.hid (D1.out.on k2)
            have G2 := Lib.hid (grow_start D1.out k2 m2 (AR L f 0) (ar_zero HG.out.up f))
            clear c0 c1 d0 d1 f0 f1 m2
            have c0 := D2.out.b0.c0; have c1 := D2.out.b0.c1; have g0 := D2.out.b0.f0; have g1 := D2.out.b0.f1
            unfold ct
            go_wp2
            go_loopw [10] (fun i wr => ∃ j : Nat, i = .int .i64 (f + (j : Int)) ∧ f + (j : Int) ≤ (p + k - 1) / 8 + 1 ∧ Hid (∃ A3 n3 c3 M3, Grow w.heap.size s (n + j) (AR L f j) w wr A3 n3 c3 M3)) (fun i _ => (p + k - intOf i).toNat)
            case atStart => exact ⟨0, by simp, by have := HFE.out; omega, ⟨_, _, _, _, G2.out⟩⟩
            case round =>
              clear G2 c0 c1 g0 g1
              obtain ⟨j, rfl, hj, G⟩ := hrel
              obtain ⟨A3, n3, c3, M3, G3x⟩ := G.out
              have G3 := Lib.hid G3x
              clear G3x G
              have c0 := G3.out.box.c0; have c1 := G3.out.box.c1; have g0 := G3.out.box.f0; have g1 := G3.out.box.f1
              have d0 := G3.out.res.c0; have d1 := G3.out.res.c1; have f0 := G3.out.res.f0; have f1 := G3.out.res.f1
              have hjl : (j : Int) ≤ 4200 := by have := HFE.out; omega
              by_cases hlt : (f + (j : Int)) * 8 < p + k
              · go_wp2_with fail
                refine (need_any w.heap.size (w.heap.size + 2) s A3 n3 c3 M3 (f + (j : Int)) wr G3.out.box G3.out.list (by have := G3.out.le; omega) G3.out.is.1 G3.out.size).mono ?_
                rintro e w4 ⟨A4, c4, rfl, b4, m4, o4⟩
                have G4 := Lib.hid (G3.out.next (mx' := n + (j + 1)) b4 m4 (by have := ins_len M3 (f + (j : Int)); have := G3.out.le; have := G3.out.list.exts.len; omega) G3.out.is.next o4 (Nat.le_refl _))
                clear b4 m4 o4 c0 c1 d0 d1 f0 f1 g0 g1
                go_wp2
                go_roundw
                case rel => exact ⟨j + 1, by go_num, by omega, ⟨_, _, _, _, G4.out⟩⟩
                case measure => simp [intOf]; omega
              · have HE := Lib.hid (show M3 = alo L p k from AR.alo (j := j) HG.out.up (by rw [← HFE.out]; exact G3.out.is) (by rw [← HFE.out]; have := HFE.out; omega) t1)
                cases keep with
                | true =>
                  have HV := Lib.hid (show asz s p k true = s by simp [asz])
                  go_wp2
                  have X := G3.out.done s
                  refine res_box2 rfl (w.heap.size + 1) s A3 n3 c3 rfl X.1 rfl ?_
                  exact ⟨A3, n3, c3, M3, by rw [HV.out]; rfl, HE.out, X.2.1, X.2.2⟩
                | false =>
                  by_cases g : s < p + k
                  · have HV := Lib.hid (show asz s p k false = (p + k) by simp [asz]; omega)
                    have G4 := Lib.hid (G3.out.size0 (Nat.le_refl _) (p + k))
                    go_wp2
                    all_goals
                      have X := G4.out.done (p + k)
                      refine res_box2 rfl (w.heap.size + 1) (p + k) A3 n3 c3 rfl X.1 rfl ?_
                      exact ⟨A3, n3, c3, M3, by rw [HV.out]; rfl, HE.out, X.2.1, X.2.2⟩
                  · have g1x : p + k ≤ s := by omega
                    have HV := Lib.hid (show asz s p k false = s by simp [asz]; omega)
                    have G4 := Lib.hid (G3.out.size0 (Nat.le_refl _) s)
                    go_wp2
                    all_goals
                      have X := G4.out.done s
                      refine res_box2 rfl (w.heap.size + 1) s A3 n3 c3 rfl X.1 rfl ?_
                      exact ⟨A3, n3, c3, M3, by rw [HV.out]; rfl, HE.out, X.2.1, X.2.2⟩
          · have hzy : false = z := by
              rw [← HZ.out]
              cases he : eo p k with
              | none => rfl
              | some d => obtain ⟨x1, x2, x3, x4⟩ := eo_some he; exact absurd x1 (by omega)
            subst hzy
            go_wp2
            refine res_box2 rfl (w.heap.size + 1) 0 none 0 0 rfl D1.out.none.1 rfl ?_
            exact ⟨none, 0, 0, [], rfl, rfl, D1.out.none.2.1, D1.out.none.2.2⟩
        · have hzy : false = z := by rw [← HZ.out]; simp [t2]
          subst hzy
          go_wp2
          refine res_box2 rfl (w.heap.size + 1) 0 none 0 0 rfl D1.out.none.1 rfl ?_
          exact ⟨none, 0, 0, [], rfl, rfl, D1.out.none.2.1, D1.out.none.2.2⟩
      · have hzy : false = z := by rw [← HZ.out]; simp [t1]
        subst hzy
        go_wp2
        refine res_box2 rfl (w.heap.size + 1) 0 none 0 0 rfl D1.out.none.1 rfl ?_
        exact ⟨none, 0, 0, [], rfl, rfl, D1.out.none.2.1, D1.out.none.2.2⟩
    · have hzy : false = z := by
        rw [← HZ.out]
        cases he : eo p k with
        | none => rfl
        | some d => obtain ⟨x1, x2, x3, x4⟩ := eo_some he; exact absurd x1 (by omega)
      subst hzy
      go_wp2
      refine res_box2 rfl (w.heap.size + 1) 0 none 0 0 rfl D1.out.none.1 rfl ?_
      exact ⟨none, 0, 0, [], rfl, rfl, D1.out.none.2.1, D1.out.none.2.2⟩
end Go.Proofs.Ytigfimlpjmmpoaa
