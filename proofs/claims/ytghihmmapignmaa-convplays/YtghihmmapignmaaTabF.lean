/- Contract of whole, for any rows that fit. -/
import Derived.Test.YtghihmmapignmaaTabE
import Derived.WalkKit
import Derived.WalkSpells
import Derived.WalkLawsBesides
import Derived.Lib.Hide
namespace Go.Proofs.Ytghihmmapignmaa
open Go.RowKit

set_option maxRecDepth 100000 in
set_option maxHeartbeats 4000000 in
theorem whole_gen (c t : Nat) (s : Nat → St) (rows : List (Nat × Nat × Nat)) (w : World) (N : Nat) (hN : N = 256) (hr : rows.length = 44) (h0 : s 0 = st0) (hs : ∀ j, j < 44 → s (j + 1) = stRow (s j) (rows.getD j (0, 0, 0)))
    (hb : ∀ j, j < 44 → (rows.getD j (0, 0, 0)).1 + (rows.getD j (0, 0, 0)).2.2 ≤ 256 ∧ (rows.getD j (0, 0, 0)).2.1 + (rows.getD j (0, 0, 0)).2.2 ≤ 256)
    (hn : ∀ n, n < 256 → (s 44).g.getD n false = false → skip (s 44).k 256 (nxTo (s 44).g (s 44).k n) < 256)
    (hc : ∀ w, Calls Try.prog 72 #[.int .u8 c, .int .u8 t] w (RowsPost rows w)) :
    Calls Try.prog 54 #[.int .u8 c, .int .u8 t] w (TabPost (fillTo (s 44).t (s 44).g (s 44).k N) w) := by
  have HF := Lib.hid (show ∀ j, j ≤ 44 → Full (s j) by
    intro j
    induction j with
    | zero => intro _; rw [h0]; exact full0
    | succ j ih => intro hj; rw [hs j (by omega)]; exact (ih (by omega)).row _)
  have HN := Lib.hid hN; have HR := Lib.hid hr; have H0 := Lib.hid h0; have HS := Lib.hid hs; have HB := Lib.hid hb; have HX := Lib.hid hn; have HC := Lib.hid hc
  clear hN hr h0 hs hb hn hc
  go_enter Try.func54, Try.ntmps54
  go_wp2_with (refine st_alloc rfl rfl ?_)
  intro b4 w0 r4 k0 l4
  go_wp2_with (refine st_alloc rfl rfl ?_)
  intro b5 w1 r5 k1 l5
  go_wp2_with (refine st_allocb rfl rfl ?_)
  intro b6 w2 r6 k2 l6
  go_wp2_with (refine st_allocb rfl rfl ?_)
  intro b7 w3 r7 k3 l7
  have q0 := r4.lt; have q1 := r5.lt; have q2 := r6.lt; have q3 := r7.lt
  have m0 := k0.size; have m1 := k1.size; have m2 := k2.size; have m3 := k3.size
  have h45 : b4 < b5 := by omega
  have h56 : b5 < b6 := by omega
  have h67 : b6 < b7 := by omega
  have M := Lib.hid (show Wh w w3 b4 b5 b6 b7 (s 0) by
    rw [H0.out]
    exact ⟨k0.trans ((k1.mono m0).trans ((k2.mono (Nat.le_trans m0 m1)).trans (k3.mono (Nat.le_trans (Nat.le_trans m0 m1) m2)))), ((r4.on k1).on k2).on k3, (r5.on k2).on k3, r6.on k3, r7⟩)
  clear r4 r5 r6 r7 k0 k1 k2 k3 l5 l6 l7 q0 q1 q2 q3 m0 m1 m2 m3
  go_wp2_with fail
  refine (HC.out w3).mono ?_
  rintro e w4 ⟨b8, rfl, r8, l8, k4⟩
  have R8 := Lib.hid r8
  have h78 : b7 < b8 := by have := M.out.r7.lt; omega
  have M4 := Lib.hid (M.out.on k4)
  clear M r8 l8 k4
  go_wp2
  go_loopw [17] (fun i wr => ∃ j : Nat, j ≤ 44 ∧ i = .int .i64 j ∧ Hid (Wh w wr b4 b5 b6 b7 (s j)) ∧ Hid (Row wr b8 87 (rowsC rows))) (fun i _ => 44 - (intOf i).toNat)
  case atStart => exact ⟨0, by omega, rfl, M4, R8⟩
  case round =>
    clear M4 R8
    obtain ⟨j, hj, rfl, M, R8⟩ := hrel
    by_cases hlt : j < 44
    · obtain ⟨d0, d1, d2⟩ := rowsC_at rows j (by rw [HR.out]; exact hlt)
      have c0 := (R8.out.at (j * 3)).trans d0; have c1 := (R8.out.at (j * 3 + 1)).trans d1; have c2 := (R8.out.at (j * 3 + 2)).trans d2
      clear d0 d1 d2
      obtain ⟨e1, e2⟩ := HB.out j hlt
      have ES := Lib.hid (HS.out j hlt)
      generalize rows.getD j (0, 0, 0) = r at c0 c1 c2 e1 e2 ES
      obtain ⟨f, g, n⟩ := r
      simp only at c0 c1 c2 e1 e2 ES
      have F := Lib.hid (HF.out j (by omega))
      have k0 : Below wr.heap.size wr (wr.alloc (.cells (rowC f g n) 87)) := (Below.refl _ _).alloc (Nat.le_refl _) _
      have M1 := Lib.hid (M.out.on k0); have R81 := Lib.hid (R8.out.on k0); have RX := Lib.hid (row_new wr (rowC f g n) 87)
      have h8x : b8 < wr.heap.size := R8.out.lt
      clear k0 M R8
      go_wp2_with fail
      refine (lay_any b5 f g n (s j).t _ M1.out.r5 F.out.1 e1 e2).mono ?_
      rintro e w5 ⟨v, rfl, r5, o5⟩
      have hbx : b8 < wr.heap.size := h8x
      generalize wr.heap.size = bx at RX h8x hbx o5 ⊢
      have M5 := Lib.hid (show Wh w w5 b4 b5 b6 b7 ⟨layL (s j).t f g n, yesL (s j).g f 0, yesL (s j).k g 0⟩ from
        ⟨M1.out.below.trans (o5.below M1.out.below.size (fun d hd => by rw [hd]; omega)), M1.out.r4.only o5 (by omega), r5, M1.out.r6.only o5 (by omega), M1.out.r7.only o5 (by omega)⟩)
      have R5 := Lib.hid (R81.out.only o5 (by omega)); have X5 := Lib.hid (RX.out.only o5 (by omega))
      clear M1 R81 RX r5 o5 c0 c1 c2
      have x2 : w5.cell? ⟨bx, 2, none⟩ = some (.int .i64 n) := X5.out.at 2
      have hn63 : (n : Int) ≤ 256 := by omega
      go_wp2
      go_loopw [25] (fun i wq => ∃ q : Nat, q ≤ n ∧ i = .int .i64 q ∧ Hid (Wh w wq b4 b5 b6 b7 ⟨layL (s j).t f g n, yesL (s j).g f q, yesL (s j).k g q⟩) ∧ Hid (Row wq b8 87 (rowsC rows)) ∧ Hid (Row wq bx 87 (rowC f g n))) (fun i _ => n - (intOf i).toNat)
      case atStart => exact ⟨0, by omega, rfl, M5, R5, X5⟩
      case round =>
        clear M5 R5 X5 x2
        obtain ⟨q, hq, rfl, MQ, RQ, XQ⟩ := hrel
        by_cases hql : q < n
        · have c0 : wr.cell? ⟨bx, 0, none⟩ = some (.int .u8 f) := XQ.out.at 0
          have c1 : wr.cell? ⟨bx, 1, none⟩ = some (.int .u8 g) := XQ.out.at 1
          have g6 := MQ.out.r6.bcell (f + q) (by rw [len_yesL, F.out.2.1]; omega)
          have g7 := MQ.out.r7.bcell (g + q) (by rw [len_yesL, F.out.2.2]; omega)
          have f6 := MQ.out.r6.free (f + q)
          have f7 := MQ.out.r7.free (g + q)
          have n6x : b6 ≠ bx := by omega
          have n67 : b6 ≠ b7 := by omega
          have i6 : ((f : Int) + (q : Int)).toNat = f + q := by omega
          have i7 : ((g : Int) + (q : Int)).toNat = g + q := by omega
          go_wp2
          go_roundw
          case rel =>
            refine ⟨q + 1, by omega, by go_num, ?_, (RQ.out.past b6 _ _ (by omega)).past b7 _ _ (by omega), (XQ.out.past b6 _ _ (by omega)).past b7 _ _ (by omega)⟩
            exact ⟨(MQ.out.below.setCell (p := ⟨b6, f + q, none⟩) (by show w.heap.size ≤ b6; omega) _).setCell (p := ⟨b7, g + q, none⟩) (by show w.heap.size ≤ b7; omega) _, (MQ.out.r4.past b6 _ _ (by omega)).past b7 _ _ (by omega), (MQ.out.r5.past b6 _ _ (by omega)).past b7 _ _ (by omega), (MQ.out.r6.bset (f + q) true).past b7 _ _ (by omega), (MQ.out.r7.past b6 _ _ (by omega)).bset (g + q) true⟩
          case measure => simp [intOf]; omega
        · have E2 := Lib.hid (show (⟨layL (s j).t f g n, yesL (s j).g f q, yesL (s j).k g q⟩ : St) = s (j + 1) by rw [show q = n by omega, ES.out]; rfl)
          go_wp2
          go_roundw
          case rel => exact ⟨j + 1, by omega, by go_num, by rw [← E2.out]; exact MQ, RQ⟩
          case measure => simp [intOf]; omega
    · obtain rfl : j = 44 := by omega
      have F := Lib.hid (HF.out 44 (by omega))
      clear HF HS HB HC H0 HR R8
      have EX := Lib.hid (show ∀ n, n = N → fillTo (s 44).t (s 44).g (s 44).k n = fillTo (s 44).t (s 44).g (s 44).k N from fun n h => by rw [h])
      generalize s 44 = S at *
      obtain ⟨T, G, K⟩ := S
      simp only at HX EX ⊢
      go_wp2
      go_loopw [11, 42] (fun v i wr => ∃ n : Nat, n ≤ 256 ∧ v = .int .i64 (nxTo G K n : Nat) ∧ i = .int .i64 n ∧ Hid (Wh w wr b4 b5 b6 b7 ⟨fillTo T G K n, G, K⟩)) (fun _ i _ => 256 - (intOf i).toNat)
      case atStart => exact ⟨0, by omega, rfl, rfl, M⟩
      case round =>
        clear M
        obtain ⟨n, hnn, rfl, rfl, M⟩ := hrel
        by_cases hlt : n < 256
        · by_cases hg : G.getD n false = true
          · have c6 : wr.cell? ⟨b6, n, none⟩ = some (.bool true) := by rw [M.out.r6.bcell n (by rw [F.out.2.1]; exact hlt), hg]
            have E1 := Lib.hid (show nxTo G K (n + 1) = nxTo G K n by rw [nxTo, if_pos hg])
            have E2 := Lib.hid (show fillTo T G K (n + 1) = fillTo T G K n by rw [fillTo, if_pos hg])
            clear hg
            generalize nxTo G K n = x at *
            go_wp2
            go_roundw
            case rel => exact ⟨n + 1, by omega, by rw [E1.out], by go_num, by rw [E2.out]; exact M⟩
            case measure => simp [intOf]; omega
          · have hs := HX.out n hlt (by simpa using hg)
            have E1 := Lib.hid (show nxTo G K (n + 1) = skip K 256 (nxTo G K n) + 1 by rw [nxTo, if_neg hg])
            have E2 := Lib.hid (show fillTo T G K (n + 1) = (fillTo T G K n).set n (skip K 256 (nxTo G K n) : Nat) by rw [fillTo, if_neg hg])
            have c6 : wr.cell? ⟨b6, n, none⟩ = some (.bool false) := by rw [M.out.r6.bcell n (by rw [F.out.2.1]; exact hlt)]; simpa using hg
            have L := Lib.hid ((len_fillTo T G K n).trans F.out.1)
            obtain ⟨s1, s2, s3⟩ := skip_is K 256 (nxTo G K n) (by omega)
            generalize hS : skip K 256 (nxTo G K n) = S at *
            generalize nxTo G K n = x at *
            have S2 := Lib.hid s2; have S3 := Lib.hid s3
            clear hS s2 s3 hg
            go_wp2
            go_loop [11] (fun v => ∃ m : Nat, x ≤ m ∧ m ≤ S ∧ v = .int .i64 m) (fun v => S - (intOf v).toNat)
            case atStart => exact ⟨x, Nat.le_refl _, s1, rfl⟩
            case round =>
              obtain ⟨m, hm1, hm2, rfl⟩ := hrel
              by_cases hml : m < S
              · have c7 : wr.cell? ⟨b7, m, none⟩ = some (.bool true) := by rw [M.out.r7.bcell m (by rw [F.out.2.2]; show m < 256; omega)]; simp only; rw [S2.out m hm1 hml]
                go_wp2
                go_round
                case rel => exact ⟨m + 1, by omega, by omega, by go_num⟩
                case measure => simp [intOf]; omega
              · obtain rfl : m = S := by omega
                have c7 : wr.cell? ⟨b7, m, none⟩ = some (.bool false) := by rw [M.out.r7.bcell m (by rw [F.out.2.2]; show m < 256; omega)]; simp only; rw [S3.out]
                have c5 := M.out.r5.cell n (by rw [L.out]; exact hlt)
                have f5 := M.out.r5.free n
                have hw : IntKind.u8.wrap (m : Int) = m := IntWalk.u8_in _ (by omega)
                go_wp2
                go_roundw
                case rel =>
                  refine ⟨n + 1, by omega, by rw [E1.out]; go_num, by go_num, ?_⟩
                  rw [E2.out]
                  exact ⟨M.out.below.setCell (p := ⟨b5, n, none⟩) (by show w.heap.size ≤ b5; omega) _, M.out.r4.past b5 _ _ (by omega), M.out.r5.set n _, M.out.r6.past b5 _ _ (by omega), M.out.r7.past b5 _ _ (by omega)⟩
                case measure => simp [intOf]; omega
        · have L := Lib.hid ((len_fillTo T G K n).trans F.out.1)
          have EN := Lib.hid (EX.out n (by rw [HN.out]; omega))
          generalize fillTo T G K n = X at M L EN
          clear EX
          go_wp2_with (first | (refine st_load rfl _ rfl b5 rfl _ M.out.r5 L.out ?_) | (refine st_store rfl _ _ rfl b4 rfl _ rfl _ M.out.r4 len_zeros L.out ?_))
          intro w5 r5 o5
          go_wp2
          exact res_tab rfl b4 rfl _ r5 L.out rfl ⟨by rw [EN.out], M.out.below.trans (o5.below M.out.below.size (fun d hd => by rw [hd]; exact l4))⟩

end Go.Proofs.Ytghihmmapignmaa
