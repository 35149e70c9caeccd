/- Contract of the reference's fill, for any pairs that fit. -/
import Derived.Test.YtghihmmapignmaaTabF
import Derived.Test.YtghihmmapignmaaTabJ
import Derived.Test.YtghihmmapignmaaRegionBy
import Derived.WalkKit
import Derived.WalkSpells
import Derived.WalkLawsBesides
import Derived.Lib.Hide
import Derived.StillTailTactics
namespace Go.Proofs.Ytghihmmapignmaa
open Go.RowKit

def stPair (s : St) (x y : Nat) : St := ⟨s.t.set x y, s.g.set x true, s.k.set y true⟩
theorem Full.pair {s : St} (h : Full s) (x y : Nat) : Full (stPair s x y) := ⟨(List.length_set ..).trans h.1, (List.length_set ..).trans h.2.1, (List.length_set ..).trans h.2.2⟩

/-- Taken, with all below q. -/
def kN (k : List Bool) (q : Nat) : List Bool := (List.range 256).map fun y => k.getD y false || decide (y < q)
theorem len_kN (k : List Bool) (q : Nat) : (kN k q).length = 256 := by simp [kN]
theorem kN_at (k : List Bool) (q y : Nat) (h : y < 256) : (kN k q).getD y false = (k.getD y false || decide (y < q)) := by
  rw [kN, List.getD_eq_getElem?_getD, List.getElem?_map, List.getElem?_range h]; rfl
theorem kN_0 (k : List Bool) (h : k.length = 256) : kN k 0 = k := by
  apply List.ext_getElem?
  intro i
  by_cases hi : i < 256
  · rw [kN, List.getElem?_map, List.getElem?_range hi, List.getElem?_eq_getElem (by omega)]
    simp [List.getD_eq_getElem?_getD, List.getElem?_eq_getElem (show i < k.length by omega)]
  · rw [List.getElem?_eq_none (by rw [len_kN]; omega), List.getElem?_eq_none (by omega)]
theorem kN_set (k : List Bool) (q s : Nat) (hq : q ≤ s) (hs : s < 256) (h : ∀ x, q ≤ x → x < s → k.getD x false = true) : (kN k q).set s true = kN k (s + 1) := by
  apply List.ext_getElem?
  intro i
  by_cases hi : i < 256
  · rw [List.getElem?_set]
    by_cases e : s = i
    · subst e
      rw [if_pos rfl, if_pos (by rw [len_kN]; exact hs), kN, List.getElem?_map, List.getElem?_range hs]
      simp
    · rw [if_neg e, kN, kN, List.getElem?_map, List.getElem?_map, List.getElem?_range hi]
      simp only [Option.map_some, Option.some.injEq]
      by_cases h1 : i < q
      · simp [h1, show i < s + 1 by omega]
      · by_cases h2 : i < s
        · rw [h i (by omega) h2]; simp
        · simp [h1, show ¬ i < s + 1 by omega]
  · rw [List.getElem?_eq_none (by rw [List.length_set, len_kN]; omega), List.getElem?_eq_none (by rw [len_kN]; omega)]

set_option maxRecDepth 100000 in
set_option maxHeartbeats 8000000 in
theorem rfill_gen (A : Option Addr) (n c : Nat) (l : List Int) (s : Nat → St) (w : World) (M N : Nat) (hN : N = 256) (hB : Bytes w A n c l) (hn : n = 2 * M) (hM : M ≤ 500) (hx : Nat → Nat) (hy : Nat → Nat)
    (hl : ∀ j, j < M → l.getD (2 * j) 0 = (hx j : Int) ∧ l.getD (2 * j + 1) 0 = (hy j : Int) ∧ hx j < 256 ∧ hy j < 256)
    (h0 : s 0 = st0) (hs : ∀ j, j < M → s (j + 1) = stPair (s j) (hx j) (hy j)) (hk : (s M).k.getD 0 false = true)
    (ho : ∀ n, n < 256 → (s M).g.getD n false = false → skip (s M).k 256 (nxTo (s M).g (s M).k n) < 256) :
    Calls Try.prog 75 #[.slice A n c] w (TabPost (fillTo (s M).t (s M).g (s M).k N) w) := by
  have HF := Lib.hid (show ∀ j, j ≤ M → Full (s j) by
    intro j
    induction j with
    | zero => intro _; rw [h0]; exact full0
    | succ j ih => intro hj; rw [hs j (by omega)]; exact (ih (by omega)).pair _ _)
  have HN := Lib.hid hN; have HB := Lib.hid hB; have HL := Lib.hid hl; have H0 := Lib.hid h0; have HS := Lib.hid hs; have HK := Lib.hid hk; have HX := Lib.hid ho; have HNN := Lib.hid hn
  have hn1 : n ≤ 1000 := by omega
  clear hN hB hl h0 hs hk ho hn
  go_enter Try.func75, Try.ntmps75
  go_wp2_with (refine st_alloc rfl rfl ?_)
  intro b2 w0 r2 k0 l2
  go_wp2_with (refine st_alloc rfl rfl ?_)
  intro b3 w1 r3 k1 l3
  go_wp2_with (refine st_allocb rfl rfl ?_)
  intro b4 w2 r4 k2 l4
  go_wp2_with (refine st_allocb rfl rfl ?_)
  intro b5 w3 r5 k3 l5
  have q0 := r2.lt; have q1 := r3.lt; have q2 := r4.lt; have q3 := r5.lt
  have m0 := k0.size; have m1 := k1.size; have m2 := k2.size; have m3 := k3.size
  have h23 : b2 < b3 := by omega
  have h34 : b3 < b4 := by omega
  have h45 : b4 < b5 := by omega
  have W0 := Lib.hid (show Wh w w3 b2 b3 b4 b5 (s 0) by
    rw [H0.out]
    exact ⟨k0.trans ((k1.mono m0).trans ((k2.mono (Nat.le_trans m0 m1)).trans (k3.mono (Nat.le_trans (Nat.le_trans m0 m1) m2)))), ((r2.on k1).on k2).on k3, (r3.on k2).on k3, r4.on k3, r5⟩)
  clear r2 r3 r4 r5 k0 k1 k2 k3 l3 l4 l5 q0 q1 q2 q3 m0 m1 m2 m3
  go_wp2
  go_loopw [6] (fun i wr => ∃ k m : Nat, m ≤ M ∧ Hid (k = 2 * m) ∧ i = .int .i64 k ∧ Hid (Wh w wr b2 b3 b4 b5 (s m))) (fun i _ => 2 * M - (intOf i).toNat)
  case atStart => exact ⟨0, 0, by omega, rfl, rfl, W0⟩
  case round =>
    clear W0
    obtain ⟨k, m, hm, EK, rfl, MW⟩ := hrel
    by_cases hlt : m < M
    · have hk1 : k + 1 < n := by have := EK.out; have := HNN.out; omega
      have hk2 : (k : Int) + 1 < (n : Int) := by omega
      obtain ⟨bb, o, rfl, hbl, hc⟩ := HB.out.2.2.2 (by omega)
      have F := Lib.hid (HF.out m (by omega))
      obtain ⟨e1, e2, e3, e4⟩ := HL.out m hlt
      have ES := Lib.hid (HS.out m hlt)
      have c0 := (MW.out.below.cell (p := ⟨bb, o + k, none⟩) hbl).trans (hc k (by omega))
      have c1 := (MW.out.below.cell (p := ⟨bb, o + (k + 1), none⟩) hbl).trans (hc (k + 1) (by omega))
      rw [EK.out, e1] at c0
      rw [EK.out, e2] at c1
      rw [← EK.out] at c0 c1
      clear hc e1 e2
      generalize hx m = x at *
      generalize hy m = y at *
      have i0 : (0 : Int) ≤ (k : Int) := by omega
      have i1 : (k : Int) < (n : Int) := by omega
      have i2 : (0 : Int) ≤ (k : Int) + 1 := by omega
      have i3 : ((k : Int) + 1).toNat = k + 1 := by omega
      have iw : IntKind.i64.wrap ((k : Int) + 1) = (k : Int) + 1 := IntWalk.i64_in _ (by omega)
      have x0 : (0 : Int) ≤ (x : Int) := by omega
      have x1 : (x : Int) < 256 := by omega
      have y0 : (0 : Int) ≤ (y : Int) := by omega
      have y1 : (y : Int) < 256 := by omega
      go_wp2
      go_still_tail 10, (by kernel_rfl)
      change wpList _ _ _ _ _ wr.drew
      have M1 := Lib.hid (MW.out.on (Below.refl _ _).drew)
      have d0 : wr.drew.cell? ⟨bb, o + k, none⟩ = some (.int .u8 (x : Int)) := c0
      have d1 : wr.drew.cell? ⟨bb, o + (k + 1), none⟩ = some (.int .u8 (y : Int)) := c1
      clear MW c0 c1
      generalize wr.drew = W1 at *
      have c3 := M1.out.r5.cell x (by rw [F.out.1]; exact e3)
      have f3 := M1.out.r5.free x
      go_wp2
      have hb3 : w.heap.size ≤ b3 := by omega
      have M2 := Lib.hid (show Wh w (W1.setCell ⟨b3, x, none⟩ (.int .u8 (y : Int))) b2 b3 b4 b5 ⟨(s m).t.set x y, (s m).g, (s m).k⟩ from
        ⟨M1.out.below.setCell (p := ⟨b3, x, none⟩) (by show w.heap.size ≤ b3; omega) _, M1.out.r4.past b3 _ _ (by omega), M1.out.r5.set x _, M1.out.r6.past b3 _ _ (by omega), M1.out.r7.past b3 _ _ (by omega)⟩)
      have g0 := (World.cell?_setCell_far W1 ⟨b3, x, none⟩ ⟨bb, o + k, none⟩ (.int .u8 (y : Int)) (by show b3 ≠ bb; omega)).trans d0
      have g1 := (World.cell?_setCell_far W1 ⟨b3, x, none⟩ ⟨bb, o + (k + 1), none⟩ (.int .u8 (y : Int)) (by show b3 ≠ bb; omega)).trans d1
      clear M1 d0 d1 c3 f3
      generalize W1.setCell ⟨b3, x, none⟩ (.int .u8 (y : Int)) = W2 at *
      refine wp_region_held_drew (S := fun w' => w'.cell? ⟨bb, o + k, none⟩ = some (.int .u8 (x : Int)) ∧ w'.cell? ⟨bb, o + (k + 1), none⟩ = some (.int .u8 (y : Int))) (by kernel_rfl) ⟨g0, g1⟩ (fun hHeld => ?_)
      have M3 := Lib.hid (M2.out.on (Below.refl _ _).drew)
      clear M2 g0 g1
      generalize W2.drew = W at *
      show wpAnyH _ _ _ _ _ 13 _ _ _
      have c4 := M3.out.r6.bcell x (by rw [F.out.2.1]; exact e3)
      have f4 := M3.out.r6.free x
      have c5 := M3.out.r7.bcell y (by rw [F.out.2.2]; exact e4)
      have f5 := M3.out.r7.free y
      have n45 : b4 ≠ b5 := by omega
      refine take_at 0 26 (v := ?vf0) (fuel := 12) rfl rfl (by kernel_rfl) (by kernel_rfl) (by kernel_rfl) (fun _ _ _ h => h) (by rfl) hHeld ?hyf0 ?restf0
      case hyf0 => (intro w' hSw; (try dsimp only at hSw); go_simp <;> with_reducible rfl)
      simp only [Act.put, List.setIfInBounds_toArray, List.set_cons_zero, List.set_cons_succ]
      refine take_at 1 27 (v := ?vf1) (fuel := 11) rfl rfl (by kernel_rfl) (by kernel_rfl) (by kernel_rfl) (fun _ _ _ h => h) (by rfl) hHeld ?hyf1 ?restf1
      case hyf1 => (intro w' hSw; (try dsimp only at hSw); go_simp <;> with_reducible rfl)
      simp only [Act.put, List.setIfInBounds_toArray, List.set_cons_zero, List.set_cons_succ]
      refine take_at 2 28 (v := ?vf2) (fuel := 10) rfl rfl (by kernel_rfl) (by kernel_rfl) (by kernel_rfl) (fun _ _ _ h => h) (by rfl) hHeld ?hyf2 ?restf2
      case hyf2 => (intro w' hSw; (try dsimp only at hSw); go_simp <;> with_reducible rfl)
      simp only [Act.put, List.setIfInBounds_toArray, List.set_cons_zero, List.set_cons_succ]
      refine take_at 3 29 (v := ?vf3) (fuel := 9) rfl rfl (by kernel_rfl) (by kernel_rfl) (by kernel_rfl) (fun _ _ _ h => h) (by rfl) hHeld ?hyf3 ?restf3
      case hyf3 => (intro w' hSw; (try dsimp only at hSw); go_simp <;> with_reducible rfl)
      simp only [Act.put, List.setIfInBounds_toArray, List.set_cons_zero, List.set_cons_succ]
      refine take_at 4 30 (v := ?vf4) (fuel := 8) rfl rfl (by kernel_rfl) (by kernel_rfl) (by kernel_rfl) (fun _ _ _ h => h) (by rfl) hHeld ?hyf4 ?restf4
      case hyf4 => (intro w' hSw; (try dsimp only at hSw); go_simp <;> with_reducible rfl)
      simp only [Act.put, List.setIfInBounds_toArray, List.set_cons_zero, List.set_cons_succ]
      refine take_at 5 31 (v := ?vf5) (fuel := 7) rfl rfl (by kernel_rfl) (by kernel_rfl) (by kernel_rfl) (fun _ _ _ h => h) (by rfl) hHeld ?hyf5 ?restf5
      case hyf5 => (intro w' hSw; (try dsimp only at hSw); go_simp <;> with_reducible rfl)
      simp only [Act.put, List.setIfInBounds_toArray, List.set_cons_zero, List.set_cons_succ]
      refine take_at 6 32 (v := ?vf6) (fuel := 6) rfl rfl (by kernel_rfl) (by kernel_rfl) (by kernel_rfl) (fun _ _ _ h => h) (by rfl) hHeld ?hyf6 ?restf6
      case hyf6 => (intro w' hSw; (try dsimp only at hSw); go_simp <;> with_reducible rfl)
      simp only [Act.put, List.setIfInBounds_toArray, List.set_cons_zero, List.set_cons_succ]
      refine take_at 7 33 (v := ?vf7) (fuel := 5) rfl rfl (by kernel_rfl) (by kernel_rfl) (by kernel_rfl) (fun _ _ _ h => h) (by rfl) hHeld ?hyf7 ?restf7
      case hyf7 => (intro w' hSw; (try dsimp only at hSw); go_simp <;> with_reducible rfl)
      simp only [Act.put, List.setIfInBounds_toArray, List.set_cons_zero, List.set_cons_succ]
      refine take_at 8 34 (v := ?vf8) (fuel := 4) rfl rfl (by kernel_rfl) (by kernel_rfl) (by kernel_rfl) (fun _ _ _ h => h) (by rfl) hHeld ?hyf8 ?restf8
      case hyf8 => (intro w' hSw; (try dsimp only at hSw); go_simp <;> with_reducible rfl)
      simp only [Act.put, List.setIfInBounds_toArray, List.set_cons_zero, List.set_cons_succ]
      refine take_at 9 35 (v := ?vf9) (fuel := 3) rfl rfl (by kernel_rfl) (by kernel_rfl) (by kernel_rfl) (fun _ _ _ h => h) (by rfl) hHeld ?hyf9 ?restf9
      case hyf9 => (intro w' hSw; (try dsimp only at hSw); go_simp <;> with_reducible rfl)
      simp only [Act.put, List.setIfInBounds_toArray, List.set_cons_zero, List.set_cons_succ]
      refine wpAnyH_ready (rs := [10]) (fuel := 2) (by kernel_rfl) (by simp) ?_
      refine AllReadyH.cons rfl (fun K hK => ?_) AllReadyH.nil
      go_simp
      refine hK.out _ _ ⟨(World.cell?_setCell_far W ⟨b4, x, none⟩ _ _ (by show b4 ≠ bb; omega)).trans hHeld.1, (World.cell?_setCell_far W ⟨b4, x, none⟩ _ _ (by show b4 ≠ bb; omega)).trans hHeld.2⟩ (fun hH1 => ?_)
      clear hK K hHeld
      (try simp only [Act.put, List.setIfInBounds_toArray, List.set_cons_zero, List.set_cons_succ])
      refine take_at 11 36 (v := ?vf11) (fuel := 1) rfl rfl (by kernel_rfl) (by kernel_rfl) (by kernel_rfl) (fun _ _ _ h => h) (by rfl) hH1 ?hyf11 ?restf11
      case hyf11 => (intro w' hSw; (try dsimp only at hSw); go_simp <;> with_reducible rfl)
      simp only [Act.put, List.setIfInBounds_toArray, List.set_cons_zero, List.set_cons_succ]
      refine wpAnyH_ready (rs := [12]) (fuel := 0) (by kernel_rfl) (by simp) ?_
      refine AllReadyH.cons rfl (fun K hK => ?_) AllReadyH.nil
      go_simp
      refine hK.out _ _ ⟨(World.cell?_setCell_far _ ⟨b5, y, none⟩ _ _ (by show b5 ≠ bb; omega)).trans hH1.1, (World.cell?_setCell_far _ ⟨b5, y, none⟩ _ _ (by show b5 ≠ bb; omega)).trans hH1.2⟩ (fun hH2 => ?_)
      clear hK K hH1
      (try simp only [Act.put, List.setIfInBounds_toArray, List.set_cons_zero, List.set_cons_succ])
      refine wpAnyH_done (by kernel_rfl) ?_ _
      clear hH2
      have M4 := Lib.hid (show Wh w ((W.setCell ⟨b4, x, none⟩ (.bool true)).setCell ⟨b5, y, none⟩ (.bool true)) b2 b3 b4 b5 (s (m + 1)) by
        rw [ES.out]
        exact ⟨(M3.out.below.setCell (p := ⟨b4, x, none⟩) (by show w.heap.size ≤ b4; omega) _).setCell (p := ⟨b5, y, none⟩) (by show w.heap.size ≤ b5; omega) _, (M3.out.r4.past b4 _ _ (by omega)).past b5 _ _ (by omega), (M3.out.r5.past b4 _ _ (by omega)).past b5 _ _ (by omega), (M3.out.r6.bset x true).past b5 _ _ (by omega), (M3.out.r7.past b4 _ _ (by omega)).bset y true⟩)
      clear M3 c4 f4 c5 f5
      generalize (W.setCell ⟨b4, x, none⟩ (.bool true)).setCell ⟨b5, y, none⟩ (.bool true) = W5 at *
      go_wp2
      go_roundw
      case rel => exact ⟨k + 2, m + 1, by omega, by have := EK.out; unfold Hid; omega, by go_num, M4⟩
      case measure => simp [intOf]; have := EK.out; omega
    · have hk1 : ¬ k + 1 < n := by have := EK.out; have := HNN.out; omega
      have hk2 : (n : Int) ≤ (k : Int) + 1 := by omega
      have hk4 : k ≤ 1000 := by have := EK.out; omega
      obtain rfl : m = M := by omega
      have F := Lib.hid (HF.out m (by omega))
      clear HF HS HB H0 HL
      have EX := Lib.hid (show ∀ n, n = N → fillTo (s m).t (s m).g (s m).k n = fillTo (s m).t (s m).g (s m).k N from fun n h => by rw [h])
      generalize s m = S at *
      obtain ⟨T, G, K⟩ := S
      simp only at HX EX HK ⊢
      have M0 := Lib.hid (show Wh w wr b2 b3 b4 b5 ⟨fillTo T G K 0, G, kN K (nxTo G K 0)⟩ by
        rw [show nxTo G K 0 = 0 from rfl, kN_0 K F.out.2.2]; exact MW.out)
      clear MW
      go_wp2
      go_loopw [7, 8] (fun v i wr => ∃ n q : Nat, n ≤ 256 ∧ v = .int .i64 q ∧ Hid (q = nxTo G K n - 1) ∧ i = .int .i64 n ∧ Hid (Wh w wr b2 b3 b4 b5 ⟨fillTo T G K n, G, kN K (nxTo G K n)⟩)) (fun _ i _ => 256 - (intOf i).toNat)
      case atStart => exact ⟨0, 0, by omega, rfl, rfl, rfl, M0⟩
      case round =>
        clear M0
        obtain ⟨n, q, hnn, rfl, EQ, rfl, M⟩ := hrel
        by_cases hlt : n < 256
        · by_cases hg : G.getD n false = true
          · have c6 : wr.cell? ⟨b4, n, none⟩ = some (.bool true) := by rw [M.out.r6.bcell n (by rw [F.out.2.1]; exact hlt)]; simp only; rw [hg]
            have E1 := Lib.hid (show nxTo G K (n + 1) = nxTo G K n by rw [nxTo, if_pos hg])
            have E2 := Lib.hid (show fillTo T G K (n + 1) = fillTo T G K n by rw [fillTo, if_pos hg])
            clear hg
            go_wp2
            go_roundw
            case rel => exact ⟨n + 1, q, by omega, rfl, by rw [E1.out]; exact EQ, by go_num, by rw [E1.out, E2.out]; exact M⟩
            case measure => simp [intOf]; omega
          · have hs := HX.out n hlt (by simpa using hg)
            have E1 := Lib.hid (show nxTo G K (n + 1) = skip K 256 (nxTo G K n) + 1 by rw [nxTo, if_neg hg])
            have E2 := Lib.hid (show fillTo T G K (n + 1) = (fillTo T G K n).set n (skip K 256 (nxTo G K n) : Nat) by rw [fillTo, if_neg hg])
            have c6 : wr.cell? ⟨b4, n, none⟩ = some (.bool false) := by rw [M.out.r6.bcell n (by rw [F.out.2.1]; exact hlt)]; simpa using hg
            have L := Lib.hid ((len_fillTo T G K n).trans F.out.1)
            obtain ⟨s1, s2, s3⟩ := skip_is K 256 (nxTo G K n) (by omega)
            generalize hS : skip K 256 (nxTo G K n) = S at *
            generalize nxTo G K n = p at *
            have S2 := Lib.hid s2; have S3 := Lib.hid s3
            have hqs : q ≤ S := by have := EQ.out; omega
            clear hS s2 s3 hg
            have TT := Lib.hid (show ∀ m, q ≤ m → m < S → (kN K p).getD m false = true from fun m h1 h2 => by
              rw [kN_at K p m (by omega)]
              by_cases h3 : m < p
              · simp [h3]
              · by_cases h4 : p ≤ m
                · rw [S2.out m h4 h2]; rfl
                · omega)
            have TF := Lib.hid (show (kN K p).getD S false = false from by rw [kN_at K p S hs, S3.out]; simp; omega)
            go_wp2
            go_loop [7] (fun v => ∃ m : Nat, q ≤ m ∧ m ≤ S ∧ v = .int .i64 m) (fun v => S - (intOf v).toNat)
            case atStart => exact ⟨q, Nat.le_refl _, hqs, rfl⟩
            case round =>
              obtain ⟨m, hm1, hm2, rfl⟩ := hrel
              by_cases hml : m < S
              · have c7 : wr.cell? ⟨b5, m, none⟩ = some (.bool true) := by rw [M.out.r7.bcell m (by rw [len_kN]; omega)]; simp only; rw [TT.out m hm1 hml]
                go_wp2
                go_round
                case rel => exact ⟨m + 1, by omega, by omega, by go_num⟩
                case measure => simp [intOf]; omega
              · obtain rfl : m = S := by omega
                have c7 : wr.cell? ⟨b5, m, none⟩ = some (.bool false) := by rw [M.out.r7.bcell m (by rw [len_kN]; omega)]; simp only; rw [TF.out]
                have f7 := M.out.r7.free m
                have c5 := M.out.r5.cell n (by rw [L.out]; exact hlt)
                have f5 := M.out.r5.free n
                have hw : IntKind.u8.wrap (m : Int) = m := IntWalk.u8_in _ (by omega)
                have n35 : b3 ≠ b5 := by omega
                have EKS := Lib.hid (kN_set K p m s1 hs S2.out)
                go_wp2
                go_roundw
                case rel =>
                  refine ⟨n + 1, m, by omega, rfl, by unfold Hid; rw [E1.out]; omega, by go_num, ?_⟩
                  rw [E2.out, E1.out, ← EKS.out]
                  exact ⟨(M.out.below.setCell (p := ⟨b3, n, none⟩) (by show w.heap.size ≤ b3; omega) _).setCell (p := ⟨b5, m, none⟩) (by show w.heap.size ≤ b5; omega) _, (M.out.r4.past b3 _ _ (by omega)).past b5 _ _ (by omega), (M.out.r5.set n _).past b5 _ _ (by omega), (M.out.r6.past b3 _ _ (by omega)).past b5 _ _ (by omega), (M.out.r7.past b3 _ _ (by omega)).bset m true⟩
                case measure => simp [intOf]; omega
        · have L := Lib.hid ((len_fillTo T G K n).trans F.out.1)
          have EN := Lib.hid (EX.out n (by rw [HN.out]; omega))
          generalize fillTo T G K n = X at M L EN
          clear EX
          go_wp2_with (first | (refine st_load rfl _ rfl b3 rfl _ M.out.r5 L.out ?_) | (refine st_store rfl _ _ rfl b2 rfl _ rfl _ M.out.r4 len_zeros L.out ?_))
          intro w5 r5 o5
          go_wp2
          exact res_tab rfl b2 rfl _ r5 L.out rfl ⟨by rw [EN.out], M.out.below.trans (o5.below M.out.below.size (fun d hd => by rw [hd]; exact l2))⟩

end Go.Proofs.Ytghihmmapignmaa
