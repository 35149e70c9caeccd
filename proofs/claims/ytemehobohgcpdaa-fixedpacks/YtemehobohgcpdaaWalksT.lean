/- Contracts of the reference's record and End of the Packer. -/
import Derived.Test.YtemehobohgcpdaaWalksE
import Derived.WalkKit
import Derived.WalkSpells
import Derived.WalkLawsBesides
import Derived.Lib.Hide
import Derived.BigQuiet
import Derived.StillTailTactics
namespace Go.Proofs.Ytemehobohgcpdaa
open Go.RowKit

/-- The reference's Packer: how long records are, how many were cut, the line. -/
structure Rp (b : Nat) (K : Nat) (ct : Int) (l : List Int) (w : World) (S : Nat → Prop) : Prop where
  mine : S b
  lt : ∀ d, S d → d < w.heap.size
  cbs : w.cell? ⟨b, 0, none⟩ = some (.int .i64 K)
  cut : w.cell? ⟨b, 1, none⟩ = some (.int .i64 ct)
  line : ∃ A n c, w.cell? ⟨b, 2, none⟩ = some (.slice A n c) ∧ Buf w A n c l ∧ ∀ g o s, A = some ⟨g, o, s⟩ → S g ∧ g ≠ b
  f1 : w.frozen? ⟨b, 1, none⟩ = false
  f2 : w.frozen? ⟨b, 2, none⟩ = false

theorem Rp.keeps (b K : Nat) (ct : Int) (l : List Int) : Keeps (Rp b K ct l) := by
  refine ⟨fun h => h.lt, fun {w w' S T} h hk hS => ?_⟩
  have hb := h.lt b h.mine
  have hn := hS b h.mine
  obtain ⟨A, n, c, h1, h2, h3⟩ := h.line
  exact ⟨h.mine, fun d hd => Nat.lt_of_lt_of_le (h.lt d hd) hk.size, (hk.cell (p := ⟨b, 0, none⟩) hb hn).trans h.cbs, (hk.cell (p := ⟨b, 1, none⟩) hb hn).trans h.cut,
    ⟨A, n, c, (hk.cell (p := ⟨b, 2, none⟩) hb hn).trans h1, h2.only hk (fun g o s he => hS g (h3 g o s he).1), h3⟩, (hk.frozen (p := ⟨b, 1, none⟩) hb hn).trans h.f1, (hk.frozen (p := ⟨b, 2, none⟩) hb hn).trans h.f2⟩
theorem Rp.only {b K : Nat} {ct : Int} {l : List Int} {w w' : World} {S T : Nat → Prop} (hr : Rp b K ct l w S) (hk : Only T w w') (hS : ∀ d, S d → ¬ T d) : Rp b K ct l w' S := (Rp.keeps b K ct l).only hr hk hS
theorem Rp.on {b K : Nat} {ct : Int} {l : List Int} {w w' : World} {S : Nat → Prop} (hr : Rp b K ct l w S) (hk : Below w.heap.size w w') : Rp b K ct l w' S := (Rp.keeps b K ct l).on hr hk
theorem Rp.setCut {b K : Nat} {ct : Int} {l : List Int} {w : World} {S : Nat → Prop} (hr : Rp b K ct l w S) (c' : Int) :
    Rp b K c' l (w.setCell ⟨b, 1, none⟩ (.int .i64 c')) S ∧ Only (fun d => d = b) w (w.setCell ⟨b, 1, none⟩ (.int .i64 c')) := by
  have ho : Only (fun d => d = b) w (w.setCell ⟨b, 1, none⟩ (.int .i64 c')) := (Only.refl (fun d => d = b) w).setCell ⟨b, 1, none⟩ (fun _ => rfl) _
  obtain ⟨A, n, c, h1, h2, h3⟩ := hr.line
  refine ⟨⟨hr.mine, fun d hd => Nat.lt_of_lt_of_le (hr.lt d hd) ho.size, ?_, World.cell?_setCell_same _ _ _ hr.cut, ⟨A, n, c, ?_, h2.only ho (fun g o s he => (h3 g o s he).2), h3⟩, by simpa using hr.f1, by simpa using hr.f2⟩, ho⟩
  · rw [World.cell?_setCell_other _ _ _ _ (by simp)]; exact hr.cbs
  · rw [World.cell?_setCell_other _ _ _ _ (by simp)]; exact h1
theorem Rp.setLine {b K : Nat} {ct : Int} {l l' : List Int} {w : World} {S S' : Nat → Prop} {A : Option Addr} {n c : Nat} (hr : Rp b K ct l w S) (hm : S' b) (hl : ∀ d, S' d → d < w.heap.size) (hB : Buf w A n c l') (hA : ∀ g o s, A = some ⟨g, o, s⟩ → S' g ∧ g ≠ b) :
    Rp b K ct l' (w.setCell ⟨b, 2, none⟩ (.slice A n c)) S' ∧ Only (fun d => d = b) w (w.setCell ⟨b, 2, none⟩ (.slice A n c)) := by
  have ho : Only (fun d => d = b) w (w.setCell ⟨b, 2, none⟩ (.slice A n c)) := (Only.refl (fun d => d = b) w).setCell ⟨b, 2, none⟩ (fun _ => rfl) _
  obtain ⟨A0, n0, c0, h1, _, _⟩ := hr.line
  refine ⟨⟨hm, fun d hd => Nat.lt_of_lt_of_le (hl d hd) ho.size, ?_, ?_, ⟨A, n, c, World.cell?_setCell_same _ _ _ h1, hB.only ho (fun g o s he => (hA g o s he).2), hA⟩, by simpa using hr.f1, by simpa using hr.f2⟩, ho⟩
  · rw [World.cell?_setCell_other _ _ _ _ (by simp)]; exact hr.cbs
  · rw [World.cell?_setCell_other _ _ _ _ (by simp)]; exact hr.cut

set_option maxHeartbeats 2000000 in
theorem rrec_any (b K : Nat) (l : List Int) (cut cut2 : Nat) (S : Nat → Prop) (os2 : List Int) (w : World) (h : Rp b K cut l w S) (hK : 1 ≤ K ∧ K ≤ 4096) (hcut : cut ≤ 1000000) (hll : l.length ≤ 1000000)
    (hc2 : cut + over K l = cut2) (ho2 : rcd K l = os2) :
    Calls Try.prog 31 #[.pointer (some ⟨b, 0, none⟩)] w (Gives (Rp b K cut2 []) S os2 w) := by
  have H := Lib.hid h; have HC2 := Lib.hid hc2; have HO2 := Lib.hid ho2
  obtain ⟨A, n, c, c2, hB, hA⟩ := h.line
  have c0 := h.cbs; have c1 := h.cut; have f1 := h.f1; have f2 := h.f2
  have HM := Lib.hid h.mine
  have HB := Lib.hid hB; have HA := Lib.hid hA
  have hn : l.length = n := hB.1
  have hnc := hB.2.1
  have hcm : c ≤ 9223372036854775807 := by have := hB.2.2.1; unfold maxLen at this; omega
  rw [hn] at hll
  have HN := Lib.hid hn
  clear h hB hA hc2 ho2 hn
  go_enter Try.func31, Try.ntmps31
  rcases Nat.lt_or_ge K n with hk | hk
  case' inl =>
    have EO := Lib.hid (show cut2 = cut + 1 by rw [← HC2.out]; simp [over, HN.out, hk])
    have hki : (K : Int) < (n : Int) := by omega
    obtain ⟨g, o, rfl⟩ : ∃ g o, A = some ⟨g, o, none⟩ := by
      rcases HB.out.2.2.2 with ⟨_, h0⟩ | ⟨g, o, he, _⟩
      · omega
      · exact ⟨g, o, he⟩
    go_wp2
    go_quiet (fail)
    generalize hW : w.drewN nq = W at *
    have K0 := Lib.hid (show Below w.heap.size w W by rw [← hW]; exact below_drewN (Below.refl _ _) _)
    have X1 := (H.out.on K0.out).setCut ((cut : Int) + 1)
    have Y1 := (HB.out.on K0.out).only X1.2 (fun g o s he => (HA.out g o s he).2)
    have c1 : W.cell? ⟨b, 1, none⟩ = some (.int .i64 cut) := by rw [← hW]; exact c1
    have f1 : W.frozen? ⟨b, 1, none⟩ = false := by rw [← hW]; exact f1
    have d0 : W.cell? ⟨b, 0, none⟩ = some (.int .i64 K) := by rw [← hW]; exact c0
    have d2 : W.cell? ⟨b, 2, none⟩ = some (.slice (some ⟨g, o, none⟩) n c) := by rw [← hW]; exact c2
    have g2 : W.frozen? ⟨b, 2, none⟩ = false := by rw [← hW]; exact f2
    clear hW
    have e0 : (W.setCell ⟨b, 1, none⟩ (.int .i64 ((cut : Int) + 1))).cell? ⟨b, 0, none⟩ = some (.int .i64 K) := by rw [World.cell?_setCell_other _ _ _ _ (by simp)]; exact d0
    have e2 : (W.setCell ⟨b, 1, none⟩ (.int .i64 ((cut : Int) + 1))).cell? ⟨b, 2, none⟩ = some (.slice (some ⟨g, o, none⟩) n c) := by rw [World.cell?_setCell_other _ _ _ _ (by simp)]; exact d2
    obtain ⟨W1, hW1⟩ : ∃ W1, W.setCell ⟨b, 1, none⟩ (.int .i64 ((cut : Int) + 1)) = W1 := ⟨_, rfl⟩
    rw [hW1] at X1 Y1 e0 e2
    have g2 : W1.frozen? ⟨b, 2, none⟩ = false := X1.1.f2
    have X1 := Lib.hid X1; have Y1 := Lib.hid Y1
    have kc : (K : Int) ≤ (c : Int) := by omega
    have k0 : (0 : Int) ≤ (K : Int) := by omega
    go_wp2
    go_still_tail 12, (by kernel_rfl)
    change wpList _ _ _ _ _ W1.drew
    have D1 := Lib.hid (show Below W1.heap.size W1 W1.drew from (Below.refl _ _).drew)
    have X2 := (X1.out.1.on D1.out).setLine (S' := S) X1.out.1.mine (X1.out.1.on D1.out).lt ((Y1.out.on D1.out).firsts K (by omega)) HA.out
    have Y2 := ((Y1.out.on D1.out).firsts K (by omega)).only X2.2 (fun g o s he => (HA.out g o s he).2)
    have e2 : W1.drew.cell? ⟨b, 2, none⟩ = some (.slice (some ⟨g, o, none⟩) n c) := e2
    have g2 : W1.drew.frozen? ⟨b, 2, none⟩ = false := g2
    obtain ⟨W3, hW3⟩ : ∃ W3, W1.drew.setCell ⟨b, 2, none⟩ (.slice (some ⟨g, o, none⟩) K c) = W3 := ⟨_, rfl⟩
    rw [hW3] at X2 Y2
    have R3 := Lib.hid (show Rp b K cut2 (l.take K) W3 S by rw [EO.out]; exact X2.1)
    have O3 := Lib.hid (show Only (fun d => d = b) w W3 from (((Only.of_below K0.out).trans (T := fun d => d = b) X1.out.2 (fun d h _ => h)).trans (T := fun _ => False) (Only.of_below D1.out) (fun d h _ => h.elim)).trans X2.2 (fun d h _ => h))
    clear X1 Y1 D1 K0 hW1 X2 Y2
  case' inr =>
    have EO := Lib.hid (show cut2 = cut by rw [← HC2.out]; simp [over]; rw [HN.out]; omega)
    have hki : decide ((K : Int) < (n : Int)) = false := by simp; omega
    go_wp2
    go_quiet (fail)
    generalize hW : w.drewN nq = W3 at *
    have K0 := Lib.hid (show Below w.heap.size w W3 by rw [← hW]; exact below_drewN (Below.refl _ _) _)
    clear hW
    have R3 := Lib.hid (show Rp b K cut2 (l.take K) W3 S by rw [EO.out, List.take_of_length_le (by rw [HN.out]; exact hk)]; exact H.out.on K0.out)
    have O3 := Lib.hid (show Only (fun d => d = b) w W3 from Only.of_below K0.out)
    clear K0
  all_goals
    clear HB HA c0 c1 f1 f2 hki hnc hcm HC2 EO
    obtain ⟨A3, n3, c3, h2, hB3, hA3⟩ := R3.out.line
    have HB3 := Lib.hid hB3
    have hn3 : n3 ≤ K := by have := hB3.1; simp at this; omega
    have EL := Lib.hid (show ∀ j, j = K - n3 → l.take K ++ List.replicate j 32 = os2 from fun j hj => by rw [rcd_end K l n3 j HB3.out.1 hj, HO2.out])
    clear hB3 hA3
    have hl0 : 0 + n3 ≤ 1000000 := by omega
    go_wp2_with (at_builtin; refine append_buf rfl _ _ rfl (Buf.nil W3) rfl HB3.out.bytes.1 HB3.out.bytes.2 rfl hl0 ?_; intro A4 c4 w4 q1 q2 q3; have Q1 := Lib.hid q1; have K4 := Lib.hid (q2.below (Nat.le_refl _) (fun d ⟨_, _, h⟩ => by cases h)); have N4 := Lib.hid (show ∀ d, At A4 d → W3.heap.size ≤ d from fun d ⟨o, s, he⟩ => by (rcases q3 with h | h <;> rw [h] at he); (· cases he); (· injection he with he; injection he with he; omega)); clear q1 q2 q3)
    rw [Nat.zero_add] at *
    have R4 := Lib.hid (R3.out.on K4.out)
    have O4 := Lib.hid (show Only (fun d => d = b) w w4 from O3.out.trans (T := fun _ => False) (Only.of_below K4.out) (fun d h _ => h.elim))
    have N5 := Lib.hid (show ∀ d, At A4 d → w.heap.size ≤ d from fun d hd => Nat.le_trans O3.out.size (N4.out d hd))
    have B4 := Lib.hid (show Buf w4 A4 (n3 + 0) c4 (l.take K ++ List.replicate 0 32) by simpa using Q1.out)
    clear R3 O3 K4 N4 Q1 h2 HB3
    go_loopw [3] (fun vb wr => ∃ (j : Nat) (B : Option Addr) (bc : Nat), n3 + j ≤ K ∧ vb = .slice B (n3 + j) bc ∧ Hid (Buf wr B (n3 + j) bc (l.take K ++ List.replicate j 32)) ∧ Hid (∀ d, At B d → w.heap.size ≤ d) ∧ Hid (Rp b K cut2 (l.take K) wr S) ∧ Hid (Only (fun d => d = b) w wr)) (fun vb _ => K - slen vb)
    case atStart => exact ⟨0, A4, c4, by omega, rfl, B4.out, N5.out, R4.out, O4.out⟩
    case round =>
      clear B4 N5 R4 O4
      obtain ⟨j, B, bc, hj, rfl, BB, NB, RB, OB⟩ := hrel
      have b0 := RB.out.cbs
      by_cases hlt : n3 + j < K
      · have K5 := Lib.hid (show Below wr.heap.size wr (wr.alloc (.cells #[.int .u8 32] 5)) from (Below.refl _ _).alloc (Nat.le_refl _) _)
        have B5 := Lib.hid (BB.out.on K5.out); have R5 := Lib.hid (RB.out.on K5.out)
        have T5 := Lib.hid (one_new wr 32)
        have O5 := Lib.hid (OB.out.alloc (.cells #[.int .u8 32] 5))
        have hl5 : n3 + j + 1 ≤ 1000000 := by omega
        clear BB RB K5
        go_wp2_with (at_builtin; refine append_buf rfl _ _ rfl B5.out rfl T5.out (fun h => by cases h) rfl hl5 ?_; intro A6 c6 w6 q1 q2 q3; have Q1 := Lib.hid q1; have Q2 := Lib.hid q2; have Q3 := Lib.hid q3; clear q1 q2 q3)
        go_roundw
        case rel =>
          refine ⟨j + 1, A6, c6, by omega, rfl, ?_, ?_, ?_, ?_⟩
          · unfold Hid; rw [List.replicate_succ', ← List.append_assoc]; exact Q1.out
          · intro d hd
            exact (near (A := none) (A1 := B) (N := w.heap.size) (fun d h => .inr (NB.out d h)) Q3.out (Nat.le_trans OB.out.size (by simp)) d hd).elim (fun ⟨_, _, h⟩ => by cases h) id
          · exact R5.out.only Q2.out (fun d hd ht => by have := NB.out d ht; have := H.out.lt d hd; omega)
          · exact O5.out.trans Q2.out (fun d hd hl => absurd hl (by have := NB.out d hd; omega))
        case measure => simp [slen]; omega
      · have EB := Lib.hid (show Buf wr B (n3 + j) bc os2 by have := BB.out; rwa [EL.out j (by omega)] at this)
        have X := RB.out.setLine (S' := S) HM.out RB.out.lt (Buf.nil wr) (fun g o s he => by cases he)
        have b2 := RB.out.line
        obtain ⟨A6, n6, c6, b2, _, _⟩ := b2
        have g2 := RB.out.f2
        have X := Lib.hid X
        have hd : decide (((n3 + j : Nat) : Int) < (K : Int)) = false := by simp; omega
        go_wp2
        go_ret
        refine ⟨B, _, bc, S, rfl, EB.out.only X.out.2 (fun g o s he hg => by have := NB.out g ⟨o, s, he⟩; have := H.out.lt b HM.out; omega), fun g o s he => ⟨NB.out g ⟨o, s, he⟩, fun hs => by have := NB.out g ⟨o, s, he⟩; have := H.out.lt g hs; omega⟩, X.out.1, (OB.out.trans X.out.2 (fun d h _ => h)).mono (fun d hd => by rw [hd]; exact HM.out), fun d hd => .inl hd⟩

set_option maxHeartbeats 1000000 in
theorem rendp_any (b K : Nat) (l : List Int) (cut cut2 : Nat) (S : Nat → Prop) (os2 : List Int) (w : World) (h : Rp b K cut l w S) (hK : 1 ≤ K ∧ K ≤ 4096) (hcut : cut ≤ 1000000) (hll : l.length ≤ 1000000) (hc2 : cut + over K l = cut2) (ho2 : pEnd K l = os2) :
    Calls Try.prog 21 #[.pointer (some ⟨b, 0, none⟩)] w (Gives (Rp b K cut2 []) S os2 w) := by
  have H := Lib.hid h
  obtain ⟨A, n, c, c2, hB, _⟩ := h.line
  have hn : l.length = n := hB.1
  clear h hB
  go_enter Try.func21, Try.ntmps21
  cases l with
  | nil =>
    obtain rfl : cut = cut2 := by rw [← hc2, over_nil]; rfl
    obtain rfl : [] = os2 := by rw [← ho2]; simp [pEnd]
    obtain rfl : 0 = n := hn
    go_wp2
    go_ret
    exact ⟨none, 0, 0, S, rfl, Buf.nil _, (fun g o s he => by cases he), H.out, Only.refl _ _, fun d hd => .inl hd⟩
  | cons z r =>
    have ho3 : rcd K (z :: r) = os2 := by rw [← ho2]; simp [pEnd]
    have hz : ((n : Int) == 0) = false := by simp at hn; simp; omega
    have hz2 : ¬ n = 0 := by simp at hn; omega
    generalize z :: r = l at *
    clear hn
    go_wp2_with fail
    refine (rrec_any b K l cut cut2 S os2 w H.out hK hcut hll hc2 ho3).mono ?_
    rintro e w1 q1
    have G := Lib.hid q1
    obtain ⟨A', m, c, S', rfl, _⟩ := G.out
    clear q1
    go_wp2
    go_ret
    exact G.out

end Go.Proofs.Ytemehobohgcpdaa
