/- Contracts of the reference's record and End of the Packer. / Contract of the reference's Put of the Packer. / Contracts of the reference's line and End of the Unpacker. / Contract of the reference's Put of the Unpacker. -/
import Derived.Test.YtghihmmapignmaaFixE
import Derived.WalkKit
import Derived.WalkSpells
import Derived.WalkLawsBesides
import Derived.Lib.Hide
import Derived.BigQuiet
import Derived.StillTailTactics
import Derived.Test.YtghihmmapignmaaPlainO
import Derived.Deep.RegionLaw
import Derived.Test.YtghihmmapignmaaFixF
namespace Go.Proofs.Ytghihmmapignmaa
open Go.RowKit

/-- The reference's Packer, inside its Conv: how long records are, how many were cut, the line; X tells the other cells. -/
structure Rp (X : Nat → Option Value) (b : Nat) (K : Nat) (ct : Int) (l : List Int) (w : World) (S : Nat → Prop) : Prop where
  mine : S b
  lt : ∀ d, S d → d < w.heap.size
  tells : X 11 = some (.int .i64 K)
  cut : w.cell? ⟨b, 12, none⟩ = some (.int .i64 ct)
  line : ∃ A n c, w.cell? ⟨b, 13, none⟩ = some (.slice A n c) ∧ Buf w A n c l ∧ ∀ g o s, A = some ⟨g, o, s⟩ → S g ∧ g ≠ b
  rest : ∀ i, i ≠ 12 → i ≠ 13 → w.cell? ⟨b, i, none⟩ = X i
  frees : ∀ i, w.frozen? ⟨b, i, none⟩ = false
theorem Rp.cbs {X : Nat → Option Value} {b K : Nat} {ct : Int} {l : List Int} {w : World} {S : Nat → Prop} (h : Rp X b K ct l w S) : w.cell? ⟨b, 11, none⟩ = some (.int .i64 K) := (h.rest 11 (by decide) (by decide)).trans h.tells
theorem Rp.f1 {X : Nat → Option Value} {b K : Nat} {ct : Int} {l : List Int} {w : World} {S : Nat → Prop} (h : Rp X b K ct l w S) : w.frozen? ⟨b, 12, none⟩ = false := h.frees 12
theorem Rp.f2 {X : Nat → Option Value} {b K : Nat} {ct : Int} {l : List Int} {w : World} {S : Nat → Prop} (h : Rp X b K ct l w S) : w.frozen? ⟨b, 13, none⟩ = false := h.frees 13

theorem Rp.keeps (X : Nat → Option Value) (b K : Nat) (ct : Int) (l : List Int) : Keeps (Rp X b K ct l) := by
  refine ⟨fun h => h.lt, fun {w w' S T} h hk hS => ?_⟩
  have hb := h.lt b h.mine
  have hn := hS b h.mine
  obtain ⟨A, n, c, h1, h2, h3⟩ := h.line
  exact ⟨h.mine, fun d hd => Nat.lt_of_lt_of_le (h.lt d hd) hk.size, h.tells, (hk.cell (p := ⟨b, 12, none⟩) hb hn).trans h.cut,
    ⟨A, n, c, (hk.cell (p := ⟨b, 13, none⟩) hb hn).trans h1, h2.only hk (fun g o s he => hS g (h3 g o s he).1), h3⟩, fun i h1 h2 => (hk.cell (p := ⟨b, i, none⟩) hb hn).trans (h.rest i h1 h2), fun i => (hk.frozen (p := ⟨b, i, none⟩) hb hn).trans (h.frees i)⟩
theorem Rp.only {X : Nat → Option Value} {b K : Nat} {ct : Int} {l : List Int} {w w' : World} {S T : Nat → Prop} (hr : Rp X b K ct l w S) (hk : Only T w w') (hS : ∀ d, S d → ¬ T d) : Rp X b K ct l w' S := (Rp.keeps X b K ct l).only hr hk hS
theorem Rp.on {X : Nat → Option Value} {b K : Nat} {ct : Int} {l : List Int} {w w' : World} {S : Nat → Prop} (hr : Rp X b K ct l w S) (hk : Below w.heap.size w w') : Rp X b K ct l w' S := (Rp.keeps X b K ct l).on hr hk
theorem Rp.setCut {X : Nat → Option Value} {b K : Nat} {ct : Int} {l : List Int} {w : World} {S : Nat → Prop} (hr : Rp X b K ct l w S) (c' : Int) :
    Rp X b K c' l (w.setCell ⟨b, 12, none⟩ (.int .i64 c')) S ∧ Only (fun d => d = b) w (w.setCell ⟨b, 12, none⟩ (.int .i64 c')) := by
  have ho : Only (fun d => d = b) w (w.setCell ⟨b, 12, none⟩ (.int .i64 c')) := (Only.refl (fun d => d = b) w).setCell ⟨b, 12, none⟩ (fun _ => rfl) _
  obtain ⟨A, n, c, h1, h2, h3⟩ := hr.line
  refine ⟨⟨hr.mine, fun d hd => Nat.lt_of_lt_of_le (hr.lt d hd) ho.size, hr.tells, World.cell?_setCell_same _ _ _ hr.cut, ⟨A, n, c, ?_, h2.only ho (fun g o s he => (h3 g o s he).2), h3⟩, fun i h1 h2 => ?_, fun i => by simpa using hr.frees i⟩, ho⟩
  · rw [World.cell?_setCell_other _ _ _ _ (by simp)]; exact h1
  · rw [World.cell?_setCell_other _ _ _ _ (off_ne (b := b) h1)]; exact hr.rest i h1 h2
theorem Rp.setLine {X : Nat → Option Value} {b K : Nat} {ct : Int} {l l' : List Int} {w : World} {S S' : Nat → Prop} {A : Option Addr} {n c : Nat} (hr : Rp X b K ct l w S) (hm : S' b) (hl : ∀ d, S' d → d < w.heap.size) (hB : Buf w A n c l') (hA : ∀ g o s, A = some ⟨g, o, s⟩ → S' g ∧ g ≠ b) :
    Rp X b K ct l' (w.setCell ⟨b, 13, none⟩ (.slice A n c)) S' ∧ Only (fun d => d = b) w (w.setCell ⟨b, 13, none⟩ (.slice A n c)) := by
  have ho : Only (fun d => d = b) w (w.setCell ⟨b, 13, none⟩ (.slice A n c)) := (Only.refl (fun d => d = b) w).setCell ⟨b, 13, none⟩ (fun _ => rfl) _
  obtain ⟨A0, n0, c0, h1, _, _⟩ := hr.line
  refine ⟨⟨hm, fun d hd => Nat.lt_of_lt_of_le (hl d hd) ho.size, hr.tells, ?_, ⟨A, n, c, World.cell?_setCell_same _ _ _ h1, hB.only ho (fun g o s he => (hA g o s he).2), hA⟩, fun i h1 h2 => ?_, fun i => by simpa using hr.frees i⟩, ho⟩
  · rw [World.cell?_setCell_other _ _ _ _ (by simp)]; exact hr.cut
  · rw [World.cell?_setCell_other _ _ _ _ (off_ne (b := b) h2)]; exact hr.rest i h1 h2

set_option maxHeartbeats 2000000 in
theorem rrec_any (X : Nat → Option Value) (b K : Nat) (l : List Int) (cut cut2 : Nat) (S : Nat → Prop) (os2 : List Int) (w : World) (h : Rp X b K cut l w S) (hK : 1 ≤ K ∧ K ≤ 4096) (hcut : cut ≤ 1000000) (hll : l.length ≤ 1000000)
    (hc2 : cut + over K l = cut2) (ho2 : rcd K l = os2) :
    Calls Try.prog 69 #[.pointer (some ⟨b, 11, none⟩)] w (Gives (Rp X b K cut2 []) S os2 w) := by
  have H := Lib.hid h; have HC2 := Lib.hid hc2; have HO2 := Lib.hid ho2
  obtain ⟨A, n, c, c2, hB, hA⟩ := h.line
  have c0 := h.cbs; have c1 := h.cut; have f1 := h.f1; have f2 := h.f2
  have HM := Lib.hid h.mine
  have HB := Lib.hid hB; have HA := Lib.hid hA
  have hn : l.length = n := hB.1
  have hnc := hB.2.1
  have hcm : c ≤ 9223372036854775807 := by have := hB.2.2.1; unfold maxLen at this; omega
  rw [hn] at hll
  have HN := Lib.hid hn
  clear h hB hA hc2 ho2 hn
  go_enter Try.func69, Try.ntmps69
  rcases Nat.lt_or_ge K n with hk | hk
  case' inl =>
    have EO := Lib.hid (show cut2 = cut + 1 by rw [← HC2.out]; simp [over, HN.out, hk])
    have hki : (K : Int) < (n : Int) := by omega
    obtain ⟨g, o, rfl⟩ : ∃ g o, A = some ⟨g, o, none⟩ := by
      rcases HB.out.2.2.2 with ⟨_, h0⟩ | ⟨g, o, he, _⟩
      · omega
      · exact ⟨g, o, he⟩
    go_wp2
    go_quiet (fail)
    generalize hW : w.drewN nq = W at *
    have K0 := Lib.hid (show Below w.heap.size w W by rw [← hW]; exact below_drewN (Below.refl _ _) _)
    have X1 := (H.out.on K0.out).setCut ((cut : Int) + 1)
    have Y1 := (HB.out.on K0.out).only X1.2 (fun g o s he => (HA.out g o s he).2)
    have c1 : W.cell? ⟨b, 12, none⟩ = some (.int .i64 cut) := by rw [← hW]; exact c1
    have f1 : W.frozen? ⟨b, 12, none⟩ = false := by rw [← hW]; exact f1
    have d0 : W.cell? ⟨b, 11, none⟩ = some (.int .i64 K) := by rw [← hW]; exact c0
    have d2 : W.cell? ⟨b, 13, none⟩ = some (.slice (some ⟨g, o, none⟩) n c) := by rw [← hW]; exact c2
    have g2 : W.frozen? ⟨b, 13, none⟩ = false := by rw [← hW]; exact f2
    clear hW
    have e0 : (W.setCell ⟨b, 12, none⟩ (.int .i64 ((cut : Int) + 1))).cell? ⟨b, 11, none⟩ = some (.int .i64 K) := by rw [World.cell?_setCell_other _ _ _ _ (by simp)]; exact d0
    have e2 : (W.setCell ⟨b, 12, none⟩ (.int .i64 ((cut : Int) + 1))).cell? ⟨b, 13, none⟩ = some (.slice (some ⟨g, o, none⟩) n c) := by rw [World.cell?_setCell_other _ _ _ _ (by simp)]; exact d2
    obtain ⟨W1, hW1⟩ : ∃ W1, W.setCell ⟨b, 12, none⟩ (.int .i64 ((cut : Int) + 1)) = W1 := ⟨_, rfl⟩
    rw [hW1] at X1 Y1 e0 e2
    have g2 : W1.frozen? ⟨b, 13, none⟩ = false := X1.1.f2
    have X1 := Lib.hid X1; have Y1 := Lib.hid Y1
    have kc : (K : Int) ≤ (c : Int) := by omega
    have k0 : (0 : Int) ≤ (K : Int) := by omega
    go_wp2
    go_still_tail 12, (by kernel_rfl)
    change wpList _ _ _ _ _ W1.drew
    have D1 := Lib.hid (show Below W1.heap.size W1 W1.drew from (Below.refl _ _).drew)
    have X2 := (X1.out.1.on D1.out).setLine (S' := S) X1.out.1.mine (X1.out.1.on D1.out).lt ((Y1.out.on D1.out).firsts K (by omega)) HA.out
    have Y2 := ((Y1.out.on D1.out).firsts K (by omega)).only X2.2 (fun g o s he => (HA.out g o s he).2)
    have e2 : W1.drew.cell? ⟨b, 13, none⟩ = some (.slice (some ⟨g, o, none⟩) n c) := e2
    have g2 : W1.drew.frozen? ⟨b, 13, none⟩ = false := g2
    obtain ⟨W3, hW3⟩ : ∃ W3, W1.drew.setCell ⟨b, 13, none⟩ (.slice (some ⟨g, o, none⟩) K c) = W3 := ⟨_, rfl⟩
    rw [hW3] at X2 Y2
    have R3 := Lib.hid (show Rp X b K cut2 (l.take K) W3 S by rw [EO.out]; exact X2.1)
    have O3 := Lib.hid (show Only (fun d => d = b) w W3 from (((Only.of_below K0.out).trans (T := fun d => d = b) X1.out.2 (fun d h _ => h)).trans (T := fun _ => False) (Only.of_below D1.out) (fun d h _ => h.elim)).trans X2.2 (fun d h _ => h))
    clear X1 Y1 D1 K0 hW1 X2 Y2
  case' inr =>
    have EO := Lib.hid (show cut2 = cut by rw [← HC2.out]; simp [over]; rw [HN.out]; omega)
    have hki : decide ((K : Int) < (n : Int)) = false := by simp; omega
    go_wp2
    go_quiet (fail)
    generalize hW : w.drewN nq = W3 at *
    have K0 := Lib.hid (show Below w.heap.size w W3 by rw [← hW]; exact below_drewN (Below.refl _ _) _)
    clear hW
    have R3 := Lib.hid (show Rp X b K cut2 (l.take K) W3 S by rw [EO.out, List.take_of_length_le (by rw [HN.out]; exact hk)]; exact H.out.on K0.out)
    have O3 := Lib.hid (show Only (fun d => d = b) w W3 from Only.of_below K0.out)
    clear K0
  all_goals
    clear HB HA c0 c1 f1 f2 hki hnc hcm HC2 EO
    obtain ⟨A3, n3, c3, h2, hB3, hA3⟩ := R3.out.line
    have HB3 := Lib.hid hB3
    have hn3 : n3 ≤ K := by have := hB3.1; simp at this; omega
    have EL := Lib.hid (show ∀ j, j = K - n3 → l.take K ++ List.replicate j 32 = os2 from fun j hj => by rw [rcd_end K l n3 j HB3.out.1 hj, HO2.out])
    clear hB3 hA3
    have hl0 : 0 + n3 ≤ 1000000 := by omega
    go_wp2_with (at_builtin; refine append_buf rfl _ _ rfl (Buf.nil W3) rfl HB3.out.bytes.1 HB3.out.bytes.2 rfl hl0 ?_; intro A4 c4 w4 q1 q2 q3; have Q1 := Lib.hid q1; have K4 := Lib.hid (q2.below (Nat.le_refl _) (fun d ⟨_, _, h⟩ => by cases h)); have N4 := Lib.hid (show ∀ d, At A4 d → W3.heap.size ≤ d from fun d ⟨o, s, he⟩ => by (rcases q3 with h | h <;> rw [h] at he); (· cases he); (· injection he with he; injection he with he; omega)); clear q1 q2 q3)
    rw [Nat.zero_add] at *
    have R4 := Lib.hid (R3.out.on K4.out)
    have O4 := Lib.hid (show Only (fun d => d = b) w w4 from O3.out.trans (T := fun _ => False) (Only.of_below K4.out) (fun d h _ => h.elim))
    have N5 := Lib.hid (show ∀ d, At A4 d → w.heap.size ≤ d from fun d hd => Nat.le_trans O3.out.size (N4.out d hd))
    have B4 := Lib.hid (show Buf w4 A4 (n3 + 0) c4 (l.take K ++ List.replicate 0 32) by simpa using Q1.out)
    clear R3 O3 K4 N4 Q1 h2 HB3
    go_loopw [3] (fun vb wr => ∃ (j : Nat) (B : Option Addr) (bc : Nat), n3 + j ≤ K ∧ vb = .slice B (n3 + j) bc ∧ Hid (Buf wr B (n3 + j) bc (l.take K ++ List.replicate j 32)) ∧ Hid (∀ d, At B d → w.heap.size ≤ d) ∧ Hid (Rp X b K cut2 (l.take K) wr S) ∧ Hid (Only (fun d => d = b) w wr)) (fun vb _ => K - slen vb)
    case atStart => exact ⟨0, A4, c4, by omega, rfl, B4.out, N5.out, R4.out, O4.out⟩
    case round =>
      clear B4 N5 R4 O4
      obtain ⟨j, B, bc, hj, rfl, BB, NB, RB, OB⟩ := hrel
      have b0 := RB.out.cbs
      by_cases hlt : n3 + j < K
      · have K5 := Lib.hid (show Below wr.heap.size wr (wr.alloc (.cells #[.int .u8 32] 5)) from (Below.refl _ _).alloc (Nat.le_refl _) _)
        have B5 := Lib.hid (BB.out.on K5.out); have R5 := Lib.hid (RB.out.on K5.out)
        have T5 := Lib.hid (one_new wr 32)
        have O5 := Lib.hid (OB.out.alloc (.cells #[.int .u8 32] 5))
        have hl5 : n3 + j + 1 ≤ 1000000 := by omega
        clear BB RB K5
        go_wp2_with (at_builtin; refine append_buf rfl _ _ rfl B5.out rfl T5.out (fun h => by cases h) rfl hl5 ?_; intro A6 c6 w6 q1 q2 q3; have Q1 := Lib.hid q1; have Q2 := Lib.hid q2; have Q3 := Lib.hid q3; clear q1 q2 q3)
        go_roundw
        case rel =>
          refine ⟨j + 1, A6, c6, by omega, rfl, ?_, ?_, ?_, ?_⟩
          · unfold Hid; rw [List.replicate_succ', ← List.append_assoc]; exact Q1.out
          · intro d hd
            exact (near (A := none) (A1 := B) (N := w.heap.size) (fun d h => .inr (NB.out d h)) Q3.out (Nat.le_trans OB.out.size (by simp)) d hd).elim (fun ⟨_, _, h⟩ => by cases h) id
          · exact R5.out.only Q2.out (fun d hd ht => by have := NB.out d ht; have := H.out.lt d hd; omega)
          · exact O5.out.trans Q2.out (fun d hd hl => absurd hl (by have := NB.out d hd; omega))
        case measure => simp [slen]; omega
      · have EB := Lib.hid (show Buf wr B (n3 + j) bc os2 by have := BB.out; rwa [EL.out j (by omega)] at this)
        have XX := RB.out.setLine (S' := S) HM.out RB.out.lt (Buf.nil wr) (fun g o s he => by cases he)
        have b2 := RB.out.line
        obtain ⟨A6, n6, c6, b2, _, _⟩ := b2
        have g2 := RB.out.f2
        have XX := Lib.hid XX
        have hd : decide (((n3 + j : Nat) : Int) < (K : Int)) = false := by simp; omega
        go_wp2
        go_ret
        refine ⟨B, _, bc, S, rfl, EB.out.only XX.out.2 (fun g o s he hg => by have := NB.out g ⟨o, s, he⟩; have := H.out.lt b HM.out; omega), fun g o s he => ⟨NB.out g ⟨o, s, he⟩, fun hs => by have := NB.out g ⟨o, s, he⟩; have := H.out.lt g hs; omega⟩, XX.out.1, (OB.out.trans XX.out.2 (fun d h _ => h)).mono (fun d hd => by rw [hd]; exact HM.out), fun d hd => .inl hd⟩

set_option maxHeartbeats 1000000 in
theorem rendp_any (X : Nat → Option Value) (b K : Nat) (l : List Int) (cut cut2 : Nat) (S : Nat → Prop) (os2 : List Int) (w : World) (h : Rp X b K cut l w S) (hK : 1 ≤ K ∧ K ≤ 4096) (hcut : cut ≤ 1000000) (hll : l.length ≤ 1000000) (hc2 : cut + over K l = cut2) (ho2 : pEnd K l = os2) :
    Calls Try.prog 51 #[.pointer (some ⟨b, 11, none⟩)] w (Gives (Rp X b K cut2 []) S os2 w) := by
  have H := Lib.hid h
  obtain ⟨A, n, c, c2, hB, _⟩ := h.line
  have hn : l.length = n := hB.1
  clear h hB
  go_enter Try.func51, Try.ntmps51
  cases l with
  | nil =>
    obtain rfl : cut = cut2 := by rw [← hc2, over_nil]; rfl
    obtain rfl : [] = os2 := by rw [← ho2]; simp [pEnd]
    obtain rfl : 0 = n := hn
    go_wp2
    go_ret
    exact ⟨none, 0, 0, S, rfl, Buf.nil _, (fun g o s he => by cases he), H.out, Only.refl _ _, fun d hd => .inl hd⟩
  | cons z r =>
    have ho3 : rcd K (z :: r) = os2 := by rw [← ho2]; simp [pEnd]
    have hz : ((n : Int) == 0) = false := by simp at hn; simp; omega
    have hz2 : ¬ n = 0 := by simp at hn; omega
    generalize z :: r = l at *
    clear hn
    go_wp2_with fail
    refine (rrec_any X b K l cut cut2 S os2 w H.out hK hcut hll hc2 ho3).mono ?_
    rintro e w1 q1
    have G := Lib.hid q1
    obtain ⟨A', m, c, S', rfl, _⟩ := G.out
    clear q1
    go_wp2
    go_ret
    exact G.out

end Go.Proofs.Ytghihmmapignmaa

namespace Go.Proofs.Ytghihmmapignmaa
open Go.RowKit

/-- Where the reference's Put stands. -/
structure RMid (X : Nat → Option Value) (w : World) (S : Nat → Prop) (b K : Nat) (cut : Nat) (l zs : List Int) (wr : World) (O : Option Addr) (m oc : Nat) (j : Nat) (l1 os1 : List Int) (cr : Nat) (S' : Nat → Prop) : Prop where
  obj : Rp X b K cr l1 wr S'
  only : Only S w wr
  grow : ∀ d, S' d → S d ∨ w.heap.size ≤ d
  out : Buf wr O m oc os1
  new : ∀ d, At O d → w.heap.size ≤ d ∧ ¬ S' d
  eo : os1 = pOut K l (zs.take j)
  el : l1 = pLine l (zs.take j)
  ec : cr = cut + pCut K l (zs.take j)

theorem RMid.go {X : Nat → Option Value} {w : World} {S : Nat → Prop} {b K cut : Nat} {l zs : List Int} {wr w2 : World} {O : Option Addr} {m oc j : Nat} {l1 os1 : List Int} {cr : Nat} {S' S2 : Nat → Prop} (M : RMid X w S b K cut l zs wr O m oc j l1 os1 cr S') (hj : j < zs.length) (hz : ¬ zs.getD j 0 = 10)
    (h : Rp X b K cr (l1 ++ [zs.getD j 0]) w2 S2) (ho : Only S' wr w2) (hs : ∀ d, S2 d → S' d ∨ wr.heap.size ≤ d) : RMid X w S b K cut l zs w2 O m oc (j + 1) (l1 ++ [zs.getD j 0]) os1 cr S2 := by
  refine ⟨h, M.only.trans ho (fun d hd hl => (M.grow d hd).elim id (fun h => by omega)), fun d hd => ?_, M.out.only ho (fun g o s he hg => (M.new g ⟨o, s, he⟩).2 hg), fun d hd => ⟨(M.new d hd).1, fun h2 => ?_⟩, ?_, ?_, ?_⟩
  · rcases hs d hd with h3 | h3
    · exact M.grow d h3
    · right; have := M.only.size; omega
  · rcases hs d h2 with h3 | h3
    · exact (M.new d hd).2 h3
    · obtain ⟨o, s, he⟩ := hd; have := M.out.at d o s he; omega
  · rw [take_snoc j hj, pOut_one, if_neg hz]; exact M.eo
  · rw [take_snoc j hj, pLine_one, if_neg hz, M.el]
  · rw [take_snoc j hj, pCut_one, if_neg hz]; exact M.ec
theorem RMid.full {X : Nat → Option Value} {w : World} {S : Nat → Prop} {b K cut : Nat} {l zs : List Int} {wr w2 w3 : World} {O O3 : Option Addr} {m oc j m3 oc3 : Nat} {l1 os1 : List Int} {cr cr2 : Nat} {S' S2 : Nat → Prop} (M : RMid X w S b K cut l zs wr O m oc j l1 os1 cr S') (hj : j < zs.length) (hz : zs.getD j 0 = 10)
    (hc : cr + over K l1 = cr2) (ho : Only S' wr w2) (hs : ∀ d, S2 d → S' d ∨ wr.heap.size ≤ d) (h2 : Rp X b K cr2 [] w2 S2) (hB : Buf w3 O3 m3 oc3 (os1 ++ rcd K l1)) (q2 : Only (fun d => ∃ o s, O = some ⟨d, o, s⟩) w2 w3) (q3 : O3 = O ∨ O3 = some ⟨w2.heap.size, 0, none⟩) :
    RMid X w S b K cut l zs w3 O3 m3 oc3 (j + 1) [] (os1 ++ rcd K l1) cr2 S2 := by
  have hS2 : ∀ d, S2 d → ¬ At O d := fun d hd ha => by
    rcases hs d hd with h | h
    · exact (M.new d ha).2 h
    · obtain ⟨o', s', he⟩ := ha; have := M.out.at d o' s' he; omega
  refine ⟨h2.only q2 (fun d hd ht => hS2 d hd ht), ?_, fun d hd => ?_, hB, fun d hd => ?_, ?_, ?_, ?_⟩
  · exact (M.only.trans ho (fun d hd hl => (M.grow d hd).elim id (fun h => by omega))).trans q2 (fun d hd hl => by have := (M.new d hd).1; omega)
  · rcases hs d hd with h3 | h3
    · exact M.grow d h3
    · right; have := M.only.size; omega
  · rcases q3 with rfl | rfl
    · exact ⟨(M.new d hd).1, fun h => hS2 d h hd⟩
    · obtain ⟨o, s, he⟩ := hd
      injection he with he; injection he with he
      exact ⟨by have := M.only.size; have := ho.size; omega, fun h => by have := h2.lt d h; omega⟩
  · rw [take_snoc j hj, pOut_one, if_pos hz, ← M.el, ← M.eo]
  · rw [take_snoc j hj, pLine_one, if_pos hz]
  · rw [take_snoc j hj, pCut_one, if_pos hz, ← M.el, ← hc, M.ec]; omega

theorem rhold_step {X : Nat → Option Value} {b K : Nat} {ct : Int} {l ys : List Int} {S : Nat → Prop} {W w5 : World} {A A5 : Option Addr} {m c n5 c5 : Nat} (h : Rp X b K ct l W S) (c2 : W.cell? ⟨b, 13, none⟩ = some (.slice A m c)) (hA : ∀ g o s, A = some ⟨g, o, s⟩ → S g ∧ g ≠ b)
    (q1 : Buf w5 A5 n5 c5 ys) (q2 : Only (fun d => ∃ o s, A = some ⟨d, o, s⟩) W w5) (q3 : A5 = A ∨ A5 = some ⟨W.heap.size, 0, none⟩) :
    w5.cell? ⟨b, 13, none⟩ = some (.slice A m c) ∧ w5.frozen? ⟨b, 13, none⟩ = false ∧ ∃ S', Rp X b K ct ys (w5.setCell ⟨b, 13, none⟩ (.slice A5 n5 c5)) S' ∧ Only S W (w5.setCell ⟨b, 13, none⟩ (.slice A5 n5 c5)) ∧ ∀ d, S' d → S d ∨ W.heap.size ≤ d := by
  have hb := h.lt b h.mine
  have hn : ¬ ∃ o s, A = some ⟨b, o, s⟩ := fun ⟨o, s, he⟩ => (hA b o s he).2 rfl
  have d2 := (q2.cell (p := ⟨b, 13, none⟩) hb hn).trans c2
  have g2 := (q2.frozen (p := ⟨b, 13, none⟩) hb hn).trans h.f2
  have ho1 : Only (fun d => d = b) w5 (w5.setCell ⟨b, 13, none⟩ (.slice A5 n5 c5)) := (Only.refl (fun d => d = b) w5).setCell ⟨b, 13, none⟩ (fun _ => rfl) _
  have ho : Only S W (w5.setCell ⟨b, 13, none⟩ (.slice A5 n5 c5)) := (q2.mono (fun d ⟨o, s, he⟩ => (hA d o s he).1)).trans ho1 (fun d hd _ => by rw [hd]; exact h.mine)
  have h5 : ∀ g o s, A5 = some ⟨g, o, s⟩ → g ≠ b := by
    intro g o s he
    rcases q3 with rfl | rfl
    · exact (hA g o s he).2
    · injection he with he; injection he with he; omega
  refine ⟨d2, g2, fun d => S d ∨ ∃ o s, A5 = some ⟨d, o, s⟩, ⟨.inl h.mine, ?_, h.tells, ?_, ⟨A5, n5, c5, World.cell?_setCell_same _ _ _ d2, q1.only ho1 h5, fun g o s he => ⟨.inr ⟨o, s, he⟩, h5 g o s he⟩⟩, fun i h1 h2 => ?_, fun i => ?_⟩, ho, ?_⟩
  · rintro d (hd | ⟨o, s, he⟩)
    · exact Nat.lt_of_lt_of_le (h.lt d hd) ho.size
    · exact Nat.lt_of_lt_of_le (q1.at d o s he) ho1.size
  · rw [World.cell?_setCell_other _ _ _ _ (by simp)]; exact (q2.cell (p := ⟨b, 12, none⟩) hb hn).trans h.cut
  · rw [World.cell?_setCell_other _ _ _ _ (off_ne (b := b) h2)]; exact (q2.cell (p := ⟨b, i, none⟩) hb hn).trans (h.rest i h1 h2)
  · simpa using (q2.frozen (p := ⟨b, i, none⟩) hb hn).trans (h.frees i)
  · rintro d (hd | ⟨o, s, he⟩)
    · exact .inl hd
    · rcases q3 with rfl | rfl
      · exact .inl (hA d o s he).1
      · right; injection he with he; injection he with he; omega

set_option maxHeartbeats 4000000 in
theorem rputp_any (X : Nat → Option Value) (b K : Nat) (l : List Int) (cut : Nat) (S : Nat → Prop) (A : Option Addr) (n c : Nat) (zs os l2 : List Int) (cut2 : Nat) (w : World) (h : Rp X b K cut l w S) (hK1 : 1 ≤ K ∧ K ≤ 4096) (hB : Bytes w A n c zs) (hA : ∀ g o, A = some ⟨g, o, none⟩ → 0 < n → ¬ S g) (hl : l.length + n ≤ 1000000) (hK : K * n ≤ 900000) (hcut : cut + n ≤ 1000000)
    (ho : pOut K l zs = os) (hl2 : pLine l zs = l2) (hc2 : cut + pCut K l zs = cut2) :
    Calls Try.prog 62 #[.pointer (some ⟨b, 11, none⟩), .slice A n c] w (Gives (Rp X b K cut2 l2) S os w) := by
  have M0 := Lib.hid (show RMid X w S b K cut l zs w none 0 0 0 l [] cut S from ⟨h, Only.refl _ _, fun d hd => .inl hd, Buf.nil w, (fun d ⟨_, _, he⟩ => by cases he), rfl, rfl, rfl⟩)
  have HB := Lib.hid hB; have HA := Lib.hid hA; have HM := Lib.hid h.mine; have HO := Lib.hid ho; have HL := Lib.hid hl2; have HC := Lib.hid hc2; have HK := Lib.hid hK
  have hzn := Lib.hid hB.1
  clear h hB hA ho hl2 hc2 hK
  go_enter Try.func62, Try.ntmps62
  go_wp2
  go_loopw [5, 6] (fun vo i wr => ∃ (j : Nat) (O : Option Addr) (m oc : Nat) (l1 os1 : List Int) (cr : Nat) (S' : Nat → Prop), j ≤ n ∧ i = .int .i64 j ∧ vo = .slice O m oc ∧ Hid (RMid X w S b K cut l zs wr O m oc j l1 os1 cr S')) (fun _ i _ => n - (intOf i).toNat)
  case atStart => exact ⟨0, none, 0, 0, l, [], cut, S, Nat.zero_le _, rfl, rfl, M0.out⟩
  case round =>
    clear M0
    obtain ⟨j, O, m, oc, l1, os1, cr, S', hj, rfl, rfl, M⟩ := hrel
    have htl : (zs.take j).length ≤ n := by rw [List.length_take, hzn.out]; omega
    have hl1 : l1.length ≤ l.length + j := by have := pLine_le (zs.take j) l; rw [← M.out.el, List.length_take] at this; omega
    have hcr : cr ≤ 1000000 := by have := pCut_le K (zs.take j) l; have := M.out.ec; omega
    by_cases hlt : j < n
    · obtain ⟨g, o, rfl, hg, hcell⟩ := HB.out.2.2.2 (by omega)
      have hgS := HA.out g o rfl (by omega)
      have cz := (M.out.only.cell (p := ⟨g, o + j, none⟩) hg hgS).trans (hcell j hlt)
      have HJ := Lib.hid (show j < zs.length by rw [hzn.out]; exact hlt)
      have hml : m ≤ K * j := by
        have h1 := M.out.out.1
        have h2 := pOut_le K (zs.take j) l
        rw [← M.out.eo, h1, List.length_take, Nat.min_eq_left (by rw [hzn.out]; omega)] at h2
        exact h2
      have hmK : m + K ≤ 1000000 := by
        have h3 : K * j + K ≤ K * n := by rw [← Nat.mul_succ]; exact Nat.mul_le_mul_left K hlt
        have := HK.out
        omega
      clear hcell hg hgS hml htl
      by_cases hz : zs.getD j 0 = 10
      · rw [hz] at cz
        obtain ⟨cr2, hcr2⟩ : ∃ cr2, cr + over K l1 = cr2 := ⟨_, rfl⟩
        obtain ⟨rc, hrc⟩ : ∃ rc, rcd K l1 = rc := ⟨_, rfl⟩
        have HZ := Lib.hid hz; have HC2 := Lib.hid hcr2; have HRC := Lib.hid hrc
        have hrl : rc.length = K := by rw [← hrc, rcd_len]
        clear hz hcr2 hrc
        go_wp2_with fail
        refine (rrec_any X b K l1 cr cr2 S' rc wr M.out.obj hK1 hcr (by omega) HC2.out HRC.out).mono ?_
        rintro e w2 ⟨A2, m2, cc2, S2, rfl, q1, q2, q3, q4, q5⟩
        obtain rfl : m2 = K := by have := q1.1; omega
        have Q1 := Lib.hid q1; have Q3 := Lib.hid q3; have Q4 := Lib.hid q4; have Q5 := Lib.hid q5
        have B2 := Lib.hid (M.out.out.only q4 (fun g o s he hg => (M.out.new g ⟨o, s, he⟩).2 hg))
        clear q1 q2 q3 q4 q5
        go_wp2_with (at_builtin; refine append_buf rfl _ _ rfl B2.out rfl Q1.out.bytes.1 Q1.out.bytes.2 rfl hmK ?_; intro A5 c5 w5 q1 q2 q3; have MF := Lib.hid (M.out.full HJ.out HZ.out HC2.out Q4.out Q5.out Q3.out (by rw [HRC.out]; exact q1) q2 q3); clear q1 q2 q3)
        go_roundw
        case rel => exact ⟨j + 1, A5, _, c5, [], _, cr2, S2, by omega, by go_num, rfl, MF.out⟩
        case measure => simp [intOf]; omega
      · obtain ⟨A0, n0, c0, e2, hB0, hA0⟩ := M.out.obj.line
        have f2 := M.out.obj.f2
        have hn0 : l1.length = n0 := hB0.1
        have K1 := Lib.hid (show Below wr.heap.size wr (wr.drew.alloc (.cells #[.int .u8 (zs.getD j 0)] 5)) from ((Below.refl _ _).drew).alloc (Nat.le_refl _) _)
        have HB0 := Lib.hid (hB0.on K1.out); have HA0 := Lib.hid hA0
        have hbw := M.out.obj.lt b M.out.obj.mine
        have R1 := Lib.hid (M.out.obj.on K1.out)
        have T1 := Lib.hid (one_new wr.drew (zs.getD j 0))
        have HZ := Lib.hid hz
        have FIN := Lib.hid (show ∀ (A5 : Option Addr) (n5 c5 : Nat) (w5 : World), Buf w5 A5 n5 c5 (l1 ++ [zs.getD j 0]) → Only (fun d => ∃ o s, A0 = some ⟨d, o, s⟩) (wr.drew.alloc (.cells #[.int .u8 (zs.getD j 0)] 5)) w5 → (A5 = A0 ∨ A5 = some ⟨(wr.drew.alloc (.cells #[.int .u8 (zs.getD j 0)] 5)).heap.size, 0, none⟩) →
            w5.cell? ⟨b, 13, none⟩ = some (.slice A0 n0 c0) ∧ w5.frozen? ⟨b, 13, none⟩ = false ∧ ∃ S2, Hid (RMid X w S b K cut l zs (w5.setCell ⟨b, 13, none⟩ (.slice A5 n5 c5)) O m oc (j + 1) (l1 ++ [zs.getD j 0]) os1 cr S2) from fun A5 n5 c5 w5 q1 q2 q3 => by
          obtain ⟨x1, x2, S2, X1, Y, Z⟩ := rhold_step R1.out ((K1.out.cell (p := ⟨b, 13, none⟩) hbw).trans e2) HA0.out q1 q2 q3
          exact ⟨x1, x2, S2, M.out.go HJ.out HZ.out X1 ((Only.of_below K1.out).trans Y (fun d h _ => h)) (fun d hd => (Z d hd).imp id (fun h => Nat.le_trans K1.out.size h))⟩)
        generalize zs.getD j 0 = z at *
        have hz2 : (z == 10) = false := by simpa using hz
        have e2d : wr.drew.cell? ⟨b, 13, none⟩ = some (.slice A0 n0 c0) := e2
        have e2a : (wr.drew.alloc (.cells #[.int .u8 z] 5)).cell? ⟨b, 13, none⟩ = some (.slice A0 n0 c0) := (K1.out.cell (p := ⟨b, 13, none⟩) hbw).trans e2
        have czd : wr.drew.cell? ⟨g, o + j, none⟩ = some (.int .u8 z) := cz
        have j0 : (0 : Int) ≤ (j : Int) := by omega
        have j1 : (j : Int) < (n : Int) := by omega
        have hl5 : n0 + 1 ≤ 1000000 := by omega
        clear hB0 hA0 HZ R1 hn0
        go_wp2
        go_region_law (refine step_append_buf rfl (.tmp 26) (.tmp 31) rfl HB0.out (by simp [Act.eval]) T1.out (fun h => by cases h) (by simp [Act.eval]) hl5 ?_; intro A5 c5 w5 q1 q2 q3; obtain ⟨x1, x2, S2, X1⟩ := FIN.out A5 _ c5 w5 q1 q2 q3; clear q1 q2 q3)
        all_goals
          go_wp2
          go_roundw
          case rel => exact ⟨j + 1, O, m, oc, _, os1, cr, S2, by omega, by go_num, rfl, X1⟩
          case measure => simp [intOf]; omega
    · have hjn : j = n := by omega
      have HT := Lib.hid (show zs.take j = zs by rw [hjn, ← hzn.out]; exact List.take_length)
      go_wp2
      go_ret
      have e1 := M.out.eo; have e2 := M.out.el; have e3 := M.out.ec
      rw [HT.out, HO.out] at e1
      rw [HT.out, HL.out] at e2
      rw [HT.out, HC.out] at e3
      subst e1 e2 e3
      exact ⟨O, m, oc, S', rfl, M.out.out, fun g o s he => M.out.new g ⟨o, s, he⟩, M.out.obj, M.out.only, M.out.grow⟩

end Go.Proofs.Ytghihmmapignmaa

namespace Go.Proofs.Ytghihmmapignmaa
open Go.RowKit

/-- The reference's Unpacker, inside its Conv: how long records are, the bytes. -/
abbrev Ru (X : Nat → Option Value) (b K : Nat) (l : List Int) (w : World) (S : Nat → Prop) : Prop := Fo 14 15 X w b S (.int .i64 (K : Int)) l
theorem Ru.keeps (X : Nat → Option Value) (b K : Nat) (l : List Int) : Keeps (Ru X b K l) := ⟨fun h => Fo.lt h, fun h hk hS => Fo.only h hk hS⟩

theorem line_step {X : Nat → Option Value} {w w1 w2 : World} {b : Nat} {S : Nat → Prop} {k u : Value} {l : List Int} {A1 A2 : Option Addr} {ob : Obj} (H : Fo 14 15 X w b S k l) (e2 : w.cell? ⟨b, 15, none⟩ = some u) (p2 : Only (fun d => ∃ o s, (none : Option Addr) = some ⟨d, o, s⟩) w w1) (p3 : A1 = none ∨ A1 = some ⟨w.heap.size, 0, none⟩)
    (q2 : Only (fun d => ∃ o s, A1 = some ⟨d, o, s⟩) (w1.alloc ob) w2) (q3 : A2 = A1 ∨ A2 = some ⟨(w1.alloc ob).heap.size, 0, none⟩) :
    w2.cell? ⟨b, 15, none⟩ = some u ∧ w2.frozen? ⟨b, 15, none⟩ = false ∧ w2.cell? ⟨b, 14, none⟩ = some k ∧ Below w.heap.size w w2 ∧ ∀ d, At A2 d → w.heap.size ≤ d := by
  have hbw := H.lt b H.mine
  have K1 : Below w.heap.size w w1 := p2.below (Nat.le_refl _) (fun d ⟨_, _, h⟩ => by cases h)
  have N1 : ∀ d, At A1 d → w.heap.size ≤ d := fun d hd => (near (A := none) (A1 := none) (N := w.heap.size) (fun d h => .inl h) p3 (Nat.le_refl _) d hd).elim (fun ⟨_, _, h⟩ => by cases h) id
  have hs : w.heap.size ≤ (w1.alloc ob).heap.size := Nat.le_trans K1.size (by simp)
  have K2 : Below w.heap.size w w2 := (K1.alloc K1.size ob).trans (q2.below hs N1)
  exact ⟨(K2.cell (p := ⟨b, 15, none⟩) hbw).trans e2, (K2.frozen (p := ⟨b, 15, none⟩) hbw).trans H.free, (K2.cell (p := ⟨b, 14, none⟩) hbw).trans H.size, K2,
    fun d hd => (near (A := none) (A1 := A1) (N := w.heap.size) (fun d h => .inr (N1 d h)) q3 hs d hd).elim (fun ⟨_, _, h⟩ => by cases h) id⟩

set_option maxHeartbeats 2000000 in
theorem rline_any (X : Nat → Option Value) (b K : Nat) (l : List Int) (S : Nat → Prop) (os2 : List Int) (w : World) (h : Ru X b K l w S) (h0 : 0 < l.length) (hn : l.length + 1 ≤ 1000000) (ho2 : lin l = os2) :
    Calls Try.prog 70 #[.pointer (some ⟨b, 14, none⟩)] w (Gives (Ru X b K []) S os2 w) := by
  have H := Lib.hid h; have HO2 := Lib.hid ho2
  obtain ⟨A0, m, cc, e2, hB0, hA0⟩ := h.held
  have hm : l.length = m := hB0.1
  obtain ⟨g, o, rfl, _, hcell⟩ := hB0.bytes.1.2.2.2 (by omega)
  have hmc := hB0.2.1
  have hcm : cc ≤ 9223372036854775807 := by have := hB0.2.2.1; unfold maxLen at this; omega
  have HB0 := Lib.hid hB0; have HC := Lib.hid hcell; have HM := Lib.hid h.mine; have HL := Lib.hid hm
  have f1 := h.free
  rw [hm] at h0 hn
  clear h ho2 hB0 hA0 hcell hm
  go_enter Try.func70, Try.ntmps70
  go_wp2
  go_loopw [3] (fun i wr => ∃ (j : Nat), j ≤ m ∧ i = .int .i64 j ∧ Hid (tl l j = tl l m) ∧ w = wr) (fun i _ => (intOf i).toNat)
  case atStart => exact ⟨m, Nat.le_refl _, rfl, rfl, rfl⟩
  case round =>
    obtain ⟨j, hj, rfl, TJ, rfl⟩ := hrel
    by_cases way : 0 < j ∧ l.getD (j - 1) 0 = 32
    · obtain ⟨p, rfl⟩ : ∃ p, j = p + 1 := ⟨j - 1, by omega⟩
      have hz : l.getD p 0 = 32 := by simpa using way.2
      have TJ2 := Lib.hid (show tl l p = tl l m by rw [← tl_step hz]; exact TJ.out)
      have cp := HC.out p (by omega)
      rw [hz] at cp
      have p0 : (0 : Int) ≤ (p : Int) := by omega
      have p1 : (p : Int) < (m : Int) := by omega
      clear way hz
      go_wp2
      go_roundw
      case rel => exact ⟨p, by omega, by go_num, TJ2.out, by simp⟩
      case measure => simp [intOf]
    · have TE := Lib.hid (show tl l m = j by
        rcases Nat.eq_zero_or_pos j with h | h
        · subst h; rw [← TJ.out]; rfl
        · obtain ⟨p, rfl⟩ : ∃ p, j = p + 1 := ⟨j - 1, by omega⟩
          rw [← TJ.out]
          exact tl_stop (fun hz => way ⟨h, by simpa using hz⟩))
      have ELX := Lib.hid (show l.take j ++ [10] = os2 by rw [← HO2.out, lin, HL.out, TE.out])
      have HBJ := Lib.hid (HB0.out.bytes.1.firsts j hj)
      have j0 : (0 : Int) ≤ (j : Int) := by omega
      have jc : (j : Int) ≤ (cc : Int) := by omega
      have hl1 : 0 + j ≤ 1000000 := by omega
      have hl2 : j + 1 ≤ 1000000 := by omega
      rcases Nat.eq_zero_or_pos j with hj0 | hj0
      case' inl =>
        have dj : decide ((0 : Int) < (j : Int)) = false := by simp; omega
        have dj2 : ¬ (0 : Int) < (j : Int) := by omega
        clear hj0
      case' inr =>
        obtain ⟨p, hp⟩ : ∃ p, j = p + 1 := ⟨j - 1, by omega⟩
        have dj : decide ((0 : Int) < (j : Int)) = true := by simp; omega
        have hz : ¬ l.getD p 0 = 32 := fun h => way ⟨hj0, by rw [hp]; simpa using h⟩
        have cp := HC.out p (by omega)
        have p0 : (0 : Int) ≤ (p : Int) := by omega
        have p1 : (p : Int) < (m : Int) := by omega
        have p2 : (j : Int) - 1 = (p : Int) := by omega
        generalize l.getD p 0 = z at *
        have hz2 : (z == 32) = false := by simpa using hz
        clear hp hj0
      all_goals
        clear way TJ
        have hbw := H.out.lt b HM.out
        go_wp2_with (at_builtin; (first
          | (refine append_buf rfl _ _ rfl (Buf.nil w) rfl HBJ.out (fun h => by cases h) rfl hl1 ?_; intro A1 ca w1 q0 q2 q3; have q1 : Buf w1 A1 j ca (l.take j) := (by simpa using q0); have Q2 := Lib.hid q2; have Q3 := Lib.hid q3; have B2 := Lib.hid (q1.on ((Below.refl _ _).alloc (Nat.le_refl _) (.cells #[.int .u8 10] 5))); have T2 := Lib.hid (one_new w1 10); clear q0 q1 q2 q3)
          | (refine append_buf rfl _ _ rfl B2.out rfl T2.out (fun h => by cases h) rfl hl2 ?_; intro A2 cb w2 q1 q2 q3; have P1 := Lib.hid q1; obtain ⟨d1, g1, d0, k2, n2⟩ := line_step H.out e2 Q2.out Q3.out q2 q3; have D0 := Lib.hid d0; have KK := Lib.hid k2; have N2 := Lib.hid n2; clear q1 q2 q3 d0 k2 n2)))
        go_ret
        have EB : Buf w2 A2 (j + 1) cb os2 := by rw [← ELX.out]; exact P1.out
        have ho : Only (fun d => d = b) w2 (w2.setCell ⟨b, 15, none⟩ (.slice none 0 0)) := (Only.refl (fun d => d = b) w2).setCell ⟨b, 15, none⟩ (fun _ => rfl) _
        refine ⟨A2, _, cb, S, rfl, EB.only ho (fun g o s he hg => by have := N2.out g ⟨o, s, he⟩; omega), fun g o s he => ⟨N2.out g ⟨o, s, he⟩, fun hs => by have := N2.out g ⟨o, s, he⟩; have := H.out.lt g hs; omega⟩, ?_, ?_, fun d hd => .inl hd⟩
        · exact Fo.stored (S := S) HM.out (fun d hd => Nat.lt_of_lt_of_le (H.out.lt d hd) KK.out.size) H.out.tells H.out.ne (fun i hi => (KK.out.cell (p := ⟨b, i, none⟩) hbw).trans (H.out.rest i hi)) (fun i => (KK.out.frozen (p := ⟨b, i, none⟩) hbw).trans (H.out.frees i)) d1 (Buf.nil w2) (fun g o s he => by cases he)
        · exact (Only.of_below KK.out).trans (ho.mono (T := S) (fun d hd => by rw [hd]; exact HM.out)) (fun d h _ => h)

set_option maxHeartbeats 1000000 in
theorem rendu_any (X : Nat → Option Value) (b K : Nat) (l : List Int) (S : Nat → Prop) (os2 : List Int) (w : World) (h : Ru X b K l w S) (hl : l.length + 1 ≤ 1000000) (ho2 : uEnd l = os2) :
    Calls Try.prog 52 #[.pointer (some ⟨b, 14, none⟩)] w (Gives (Ru X b K []) S os2 w) := by
  have H := Lib.hid h
  obtain ⟨A, n, c, c2, hB, _⟩ := h.held
  have hn : l.length = n := hB.1
  clear h hB
  go_enter Try.func52, Try.ntmps52
  cases l with
  | nil =>
    obtain rfl : [] = os2 := by rw [← ho2]; simp [uEnd]
    obtain rfl : 0 = n := hn
    go_wp2
    go_ret
    exact ⟨none, 0, 0, S, rfl, Buf.nil _, (fun g o s he => by cases he), H.out, Only.refl _ _, fun d hd => .inl hd⟩
  | cons z r =>
    have ho3 : lin (z :: r) = os2 := by rw [← ho2]; simp [uEnd]
    have hz : ((n : Int) == 0) = false := by simp at hn; simp; omega
    have hz2 : ¬ n = 0 := by simp at hn; omega
    have h0 : 0 < (z :: r).length := by simp
    generalize z :: r = l at *
    clear hn
    go_wp2_with fail
    refine (rline_any X b K l S os2 w H.out h0 hl ho3).mono ?_
    rintro e w1 q1
    have G := Lib.hid q1
    obtain ⟨A', m, c, S', rfl, _⟩ := G.out
    clear q1
    go_wp2
    go_ret
    exact G.out

end Go.Proofs.Ytghihmmapignmaa

namespace Go.Proofs.Ytghihmmapignmaa
open Go.RowKit

/-- Where the reference's Put stands. -/
structure VMid (X : Nat → Option Value) (w : World) (S : Nat → Prop) (b K : Nat) (l zs : List Int) (wr : World) (O : Option Addr) (m oc : Nat) (j : Nat) (l1 os1 : List Int) (S' : Nat → Prop) : Prop where
  obj : Ru X b K l1 wr S'
  only : Only S w wr
  grow : ∀ d, S' d → S d ∨ w.heap.size ≤ d
  out : Buf wr O m oc os1
  new : ∀ d, At O d → w.heap.size ≤ d ∧ ¬ S' d
  eo : os1 = uOut K l (zs.take j)
  el : l1 = uRest K l (zs.take j)
  lt : l1.length < K
  nm : m + l1.length ≤ l.length + 2 * j

/-- The byte is held. -/
structure VHas (X : Nat → Option Value) (w : World) (S : Nat → Prop) (b K : Nat) (wr : World) (O : Option Addr) (m oc : Nat) (l3 os1 : List Int) (S' : Nat → Prop) : Prop where
  obj : Ru X b K l3 wr S'
  only : Only S w wr
  grow : ∀ d, S' d → S d ∨ w.heap.size ≤ d
  out : Buf wr O m oc os1
  new : ∀ d, At O d → w.heap.size ≤ d ∧ ¬ S' d
theorem VMid.has {X : Nat → Option Value} {w : World} {S : Nat → Prop} {b K : Nat} {l zs : List Int} {wr w2 : World} {O : Option Addr} {m oc j : Nat} {l1 os1 l3 : List Int} {S' S2 : Nat → Prop} (M : VMid X w S b K l zs wr O m oc j l1 os1 S')
    (h : Ru X b K l3 w2 S2) (ho : Only S' wr w2) (hs : ∀ d, S2 d → S' d ∨ wr.heap.size ≤ d) : VHas X w S b K w2 O m oc l3 os1 S2 := by
  refine ⟨h, M.only.trans ho (fun d hd hl => (M.grow d hd).elim id (fun h => by omega)), fun d hd => ?_, M.out.only ho (fun g o s he hg => (M.new g ⟨o, s, he⟩).2 hg), fun d hd => ⟨(M.new d hd).1, fun h2 => ?_⟩⟩
  · rcases hs d hd with h3 | h3
    · exact M.grow d h3
    · right; have := M.only.size; omega
  · rcases hs d h2 with h3 | h3
    · exact (M.new d hd).2 h3
    · obtain ⟨o, s, he⟩ := hd; have := M.out.at d o s he; omega
theorem VHas.on {X : Nat → Option Value} {w : World} {S : Nat → Prop} {b K : Nat} {wr w2 : World} {O : Option Addr} {m oc : Nat} {l3 os1 : List Int} {S' : Nat → Prop} (h : VHas X w S b K wr O m oc l3 os1 S') (k : Below wr.heap.size wr w2) : VHas X w S b K w2 O m oc l3 os1 S' :=
  ⟨(Ru.keeps _ _ _ _).on h.obj k, h.only.trans (T := fun _ => False) (Only.of_below k) (fun _ h _ => h.elim), h.grow, h.out.on k, h.new⟩

theorem uhold_step {X : Nat → Option Value} {b K : Nat} {l ys : List Int} {S : Nat → Prop} {W w5 : World} {A A5 : Option Addr} {m c n5 c5 : Nat} (h : Ru X b K l W S) (c2 : W.cell? ⟨b, 15, none⟩ = some (.slice A m c)) (hA : ∀ g o s, A = some ⟨g, o, s⟩ → S g ∧ g ≠ b)
    (q1 : Buf w5 A5 n5 c5 ys) (q2 : Only (fun d => ∃ o s, A = some ⟨d, o, s⟩) W w5) (q3 : A5 = A ∨ A5 = some ⟨W.heap.size, 0, none⟩) :
    w5.cell? ⟨b, 15, none⟩ = some (.slice A m c) ∧ w5.frozen? ⟨b, 15, none⟩ = false ∧ ∃ S', Ru X b K ys (w5.setCell ⟨b, 15, none⟩ (.slice A5 n5 c5)) S' ∧ Only S W (w5.setCell ⟨b, 15, none⟩ (.slice A5 n5 c5)) ∧ ∀ d, S' d → S d ∨ W.heap.size ≤ d := by
  have hb := h.lt b h.mine
  have hn : ¬ ∃ o s, A = some ⟨b, o, s⟩ := fun ⟨o, s, he⟩ => (hA b o s he).2 rfl
  have d1 := (q2.cell (p := ⟨b, 15, none⟩) hb hn).trans c2
  have df := (q2.frozen (p := ⟨b, 15, none⟩) hb hn).trans h.free
  refine ⟨d1, df, fun d => S d ∨ ∃ o s, A5 = some ⟨d, o, s⟩, Fo.stored (.inl h.mine) ?_ h.tells h.ne (fun i hi => (q2.cell (p := ⟨b, i, none⟩) hb hn).trans (h.rest i hi)) (fun i => (q2.frozen (p := ⟨b, i, none⟩) hb hn).trans (h.frees i)) d1 q1 ?_, ?_, ?_⟩
  · rintro d (hd | ⟨o, s, he⟩)
    · exact Nat.lt_of_lt_of_le (h.lt d hd) q2.size
    · exact q1.at d o s he
  · intro g o s he
    refine ⟨.inr ⟨o, s, he⟩, ?_⟩
    rcases q3 with rfl | rfl
    · exact (hA g o s he).2
    · injection he with he; injection he with he; omega
  · exact (q2.mono (fun d ⟨o, s, he⟩ => (hA d o s he).1)).setCell ⟨b, 15, none⟩ (fun _ => h.mine) _
  · rintro d (hd | ⟨o, s, he⟩)
    · exact .inl hd
    · rcases q3 with rfl | rfl
      · exact .inl (hA d o s he).1
      · right; injection he with he; injection he with he; omega

theorem VHas.go {X : Nat → Option Value} {w : World} {S : Nat → Prop} {b K : Nat} {l zs : List Int} {wr : World} {O : Option Addr} {m oc j : Nat} {l1 os1 l3 : List Int} {S' : Nat → Prop} (h : VHas X w S b K wr O m oc l3 os1 S') (hj : j < zs.length) (e3 : l1 ++ [zs.getD j 0] = l3) (hK : ¬ K ≤ l1.length + 1) (eo : os1 = uOut K l (zs.take j)) (el : l1 = uRest K l (zs.take j)) (nm : m + l1.length ≤ l.length + 2 * j) :
    VMid X w S b K l zs wr O m oc (j + 1) l3 os1 S' := by
  subst e3
  refine ⟨h.obj, h.only, h.grow, h.out, h.new, ?_, ?_, by simp; omega, by simp; omega⟩
  · rw [take_snoc j hj, uOut_one, ← el, if_neg hK, eo]
  · rw [take_snoc j hj, uRest_one, ← el, if_neg hK]
theorem VHas.full {X : Nat → Option Value} {w : World} {S : Nat → Prop} {b K : Nat} {l zs : List Int} {wr w2 w3 : World} {O O3 : Option Addr} {m oc j m3 oc3 : Nat} {l1 os1 l3 : List Int} {S' S2 : Nat → Prop} (h : VHas X w S b K wr O m oc l3 os1 S') (hj : j < zs.length) (e3 : l1 ++ [zs.getD j 0] = l3) (hK : K ≤ l1.length + 1) (hK1 : 1 ≤ K) (eo : os1 = uOut K l (zs.take j)) (el : l1 = uRest K l (zs.take j)) (nm : m + l1.length ≤ l.length + 2 * j)
    (ho : Only S' wr w2) (hs : ∀ d, S2 d → S' d ∨ wr.heap.size ≤ d) (h2 : Ru X b K [] w2 S2) (hB : Buf w3 O3 m3 oc3 (os1 ++ lin l3)) (q2 : Only (fun d => ∃ o s, O = some ⟨d, o, s⟩) w2 w3) (q3 : O3 = O ∨ O3 = some ⟨w2.heap.size, 0, none⟩) :
    VMid X w S b K l zs w3 O3 m3 oc3 (j + 1) [] (os1 ++ lin l3) S2 := by
  subst e3
  have hS2 : ∀ d, S2 d → ¬ At O d := fun d hd ha => by
    rcases hs d hd with h1 | h1
    · exact (h.new d ha).2 h1
    · obtain ⟨o', s', he⟩ := ha; have := h.out.at d o' s' he; omega
  have hm3 : m3 ≤ m + l1.length + 2 := by
    have h1 := hB.1; have h2 := h.out.1; have h4 := lin_le (l1 ++ [zs.getD j 0])
    rw [List.length_append] at h1
    simp only [List.length_append, List.length_singleton] at h4
    omega
  refine ⟨Fo.only h2 q2 (fun d hd ht => hS2 d hd ht), ?_, fun d hd => ?_, hB, fun d hd => ?_, ?_, ?_, by simp; omega, by simp; omega⟩
  · exact (h.only.trans ho (fun d hd hl => (h.grow d hd).elim id (fun h => by omega))).trans q2 (fun d hd hl => by have := (h.new d hd).1; omega)
  · rcases hs d hd with h3 | h3
    · exact h.grow d h3
    · right; have := h.only.size; omega
  · rcases q3 with rfl | rfl
    · exact ⟨(h.new d hd).1, fun h1 => hS2 d h1 hd⟩
    · obtain ⟨o, s, he⟩ := hd
      injection he with he; injection he with he
      exact ⟨by have := h.only.size; have := ho.size; omega, fun h1 => by have := h2.lt d h1; omega⟩
  · rw [take_snoc j hj, uOut_one, ← el, if_pos hK, eo]
  · rw [take_snoc j hj, uRest_one, ← el, if_pos hK]

set_option maxHeartbeats 4000000 in
theorem rputu_any (X : Nat → Option Value) (b K : Nat) (l : List Int) (S : Nat → Prop) (A : Option Addr) (n c : Nat) (zs os l2 : List Int) (w : World) (h : Ru X b K l w S) (hK1 : 1 ≤ K ∧ K ≤ 4096) (hB : Bytes w A n c zs) (hA : ∀ g o, A = some ⟨g, o, none⟩ → 0 < n → ¬ S g) (hl : l.length < K) (hn : n ≤ 300000)
    (ho : uOut K l zs = os) (hl2 : uRest K l zs = l2) :
    Calls Try.prog 63 #[.pointer (some ⟨b, 14, none⟩), .slice A n c] w (Gives (Ru X b K l2) S os w) := by
  have M0 := Lib.hid (show VMid X w S b K l zs w none 0 0 0 l [] S from ⟨h, Only.refl _ _, fun d hd => .inl hd, Buf.nil w, (fun d ⟨_, _, he⟩ => by cases he), rfl, rfl, hl, by omega⟩)
  have HB := Lib.hid hB; have HA := Lib.hid hA; have HO := Lib.hid ho; have HL := Lib.hid hl2
  have hzn := Lib.hid hB.1
  clear h hB hA ho hl2
  go_enter Try.func63, Try.ntmps63
  go_wp2
  go_loopw [5, 6] (fun vo i wr => ∃ (j : Nat) (O : Option Addr) (m oc : Nat) (l1 os1 : List Int) (S' : Nat → Prop), j ≤ n ∧ i = .int .i64 j ∧ vo = .slice O m oc ∧ Hid (VMid X w S b K l zs wr O m oc j l1 os1 S')) (fun _ i _ => n - (intOf i).toNat)
  case atStart => exact ⟨0, none, 0, 0, l, [], S, Nat.zero_le _, rfl, rfl, M0.out⟩
  case round =>
    clear M0
    obtain ⟨j, O, m, oc, l1, os1, S', hj, rfl, rfl, M⟩ := hrel
    by_cases hlt : j < n
    · obtain ⟨g, o, rfl, hg, hcell⟩ := HB.out.2.2.2 (by omega)
      have hgS := HA.out g o rfl (by omega)
      have cz := (M.out.only.cell (p := ⟨g, o + j, none⟩) hg hgS).trans (hcell j hlt)
      have HJ := Lib.hid (show j < zs.length by rw [hzn.out]; exact hlt)
      clear hcell hg hgS
      obtain ⟨A0, n0, c0, e2, hB0, hA0⟩ := M.out.obj.held
      have f2 := M.out.obj.free
      have hn0 : l1.length = n0 := hB0.1
      have hlK := M.out.lt
      have hnm := M.out.nm
      have K1 := Lib.hid (show Below wr.heap.size wr (wr.drew.alloc (.cells #[.int .u8 (zs.getD j 0)] 5)) from ((Below.refl _ _).drew).alloc (Nat.le_refl _) _)
      have HB0 := Lib.hid (hB0.on K1.out); have HA0 := Lib.hid hA0
      have hbw := M.out.obj.lt b M.out.obj.mine
      have R1 := Lib.hid ((Ru.keeps _ _ _ _).on M.out.obj K1.out)
      have T1 := Lib.hid (one_new wr.drew (zs.getD j 0))
      obtain ⟨l3, hl3⟩ : ∃ l3, l1 ++ [zs.getD j 0] = l3 := ⟨_, rfl⟩
      have HL3 := Lib.hid hl3
      have FIN := Lib.hid (show ∀ (A5 : Option Addr) (n5 c5 : Nat) (w5 : World), Buf w5 A5 n5 c5 l3 → Only (fun d => ∃ o s, A0 = some ⟨d, o, s⟩) (wr.drew.alloc (.cells #[.int .u8 (zs.getD j 0)] 5)) w5 → (A5 = A0 ∨ A5 = some ⟨(wr.drew.alloc (.cells #[.int .u8 (zs.getD j 0)] 5)).heap.size, 0, none⟩) →
          w5.cell? ⟨b, 15, none⟩ = some (.slice A0 n0 c0) ∧ w5.frozen? ⟨b, 15, none⟩ = false ∧ ∃ S2, Hid (VHas X w S b K (w5.setCell ⟨b, 15, none⟩ (.slice A5 n5 c5)) O m oc l3 os1 S2) from fun A5 n5 c5 w5 q1 q2 q3 => by
        obtain ⟨x1, x2, S2, X1, Y, Z⟩ := uhold_step R1.out ((K1.out.cell (p := ⟨b, 15, none⟩) hbw).trans e2) HA0.out q1 q2 q3
        exact ⟨x1, x2, S2, M.out.has X1 ((Only.of_below K1.out).trans Y (fun d h _ => h)) (fun d hd => (Z d hd).imp id (fun h => Nat.le_trans K1.out.size h))⟩)
      have GO := Lib.hid (fun (W6 : World) (S2 : Nat → Prop) (h : VHas X w S b K W6 O m oc l3 os1 S2) (hK : ¬ K ≤ l1.length + 1) => h.go (l := l) (zs := zs) HJ.out hl3 hK M.out.eo M.out.el M.out.nm)
      have FUL := Lib.hid (fun (W6 w7 w8 : World) (S2 S3 : Nat → Prop) (O3 : Option Addr) (m3 oc3 : Nat) (h : VHas X w S b K W6 O m oc l3 os1 S2) (hK : K ≤ l1.length + 1) (ho : Only S2 W6 w7) (hs : ∀ d, S3 d → S2 d ∨ W6.heap.size ≤ d) (h2 : Ru X b K [] w7 S3) (hB : Buf w8 O3 m3 oc3 (os1 ++ lin l3)) (q2 : Only (fun d => ∃ o s, O = some ⟨d, o, s⟩) w7 w8) (q3 : O3 = O ∨ O3 = some ⟨w7.heap.size, 0, none⟩) => h.full (l := l) (zs := zs) HJ.out hl3 hK hK1.1 M.out.eo M.out.el M.out.nm ho hs h2 hB q2 q3)
      have hl3n : l3.length = n0 + 1 := by rw [← hl3]; simp; exact hn0
      rw [hn0] at hlK hnm
      have e2a0 := (K1.out.cell (p := ⟨b, 15, none⟩) hbw).trans e2
      clear hl3
      generalize zs.getD j 0 = z at *
      have e2d : wr.drew.cell? ⟨b, 15, none⟩ = some (.slice A0 n0 c0) := e2
      have czd : wr.drew.cell? ⟨g, o + j, none⟩ = some (.int .u8 z) := cz
      have j0 : (0 : Int) ≤ (j : Int) := by omega
      have j1 : (j : Int) < (n : Int) := by omega
      have hl5 : n0 + 1 ≤ 1000000 := by omega
      have HN0 := Lib.hid hn0; have HL3N := Lib.hid hl3n
      clear hB0 hA0 R1 hn0 hl3n
      go_wp2
      go_region_law (refine step_append_buf rfl (.tmp 17) (.tmp 22) rfl HB0.out (by simp [Act.eval]) T1.out (fun h => by cases h) (by simp [Act.eval]) hl5 ?_; intro A5 c5 w5 q1 q2 q3; obtain ⟨x1, x2, S2, XV⟩ := FIN.out A5 _ c5 w5 (by rw [← HL3.out]; exact q1) q2 q3; clear q1 q2 q3)
      all_goals
        generalize hW6 : w5.setCell ⟨b, 15, none⟩ (.slice A5 (n0 + 1) c5) = W6 at *
        clear hW6 x1 x2 e2 e2d e2a0 cz czd f2
        obtain ⟨A6, n6, c6, d1, hB6, _⟩ := XV.out.obj.held
        obtain rfl : n6 = n0 + 1 := by have := hB6.1; have := HL3N.out; omega
        have d0 := XV.out.obj.size
        clear hB6
        by_cases hK : K ≤ n0 + 1
        · obtain rfl : K = n0 + 1 := by omega
          go_wp2
          go_quiet (fail)
          generalize hW7 : W6.drewN nq = W7 at *
          have K7 := Lib.hid (show Below W6.heap.size W6 W7 by rw [← hW7]; exact below_drewN (Below.refl _ _) _)
          clear hW7 d1 d0
          have X7 := Lib.hid (XV.out.on K7.out)
          obtain ⟨ln, hln⟩ : ∃ ln, lin l3 = ln := ⟨_, rfl⟩
          have HLN := Lib.hid hln
          have hlnl : ln.length ≤ n0 + 2 := by have := lin_le l3; have := HL3N.out; rw [hln] at *; omega
          clear hln
          go_wp2_with fail
          refine (rline_any X b (n0 + 1) l3 S2 ln W7 X7.out.obj (by have := HL3N.out; omega) (by have := HL3N.out; omega) HLN.out).mono ?_
          rintro e w8 ⟨A8, m8, c8, S3, rfl, q1, q2, q3, q4, q5⟩
          have Q1 := Lib.hid q1; have Q3 := Lib.hid q3; have Q4 := Lib.hid q4; have Q5 := Lib.hid q5
          have B8 := Lib.hid (X7.out.out.only q4 (fun g o s he hg => (X7.out.new g ⟨o, s, he⟩).2 hg))
          have hm8 : m + m8 ≤ 1000000 := by have := q1.1; omega
          clear q1 q2 q3 q4 q5
          go_wp2_with (at_builtin; refine append_buf rfl _ _ rfl B8.out rfl Q1.out.bytes.1 Q1.out.bytes.2 rfl hm8 ?_; intro A9 c9 w9 q1 q2 q3; have MF := Lib.hid (FUL.out W7 w8 w9 S2 S3 A9 _ c9 X7.out (by have := HN0.out; omega) Q4.out Q5.out Q3.out (by rw [HLN.out]; exact q1) q2 q3); clear q1 q2 q3)
          go_roundw
          case rel => exact ⟨j + 1, A9, _, c9, [], _, S3, by omega, by go_num, rfl, MF.out⟩
          case measure => simp [intOf]; omega
        · have hne : (((n0 + 1 : Nat) : Int) == (K : Int)) = false := by simp; omega
          have hne2 : ¬ n0 + 1 = K := by omega
          have hne3 : ((n0 : Int) + 1 == (K : Int)) = false := by simp; omega
          go_wp2
          go_quiet (fail)
          generalize hW7 : W6.drewN nq = W7 at *
          have K7 := Lib.hid (show Below W6.heap.size W6 W7 by rw [← hW7]; exact below_drewN (Below.refl _ _) _)
          clear hW7 d1 d0
          have MF := Lib.hid (GO.out W7 S2 (XV.out.on K7.out) (by have := HN0.out; omega))
          go_wp2
          go_roundw
          case rel => exact ⟨j + 1, O, m, oc, l3, os1, S2, by omega, by go_num, rfl, MF.out⟩
          case measure => simp [intOf]; omega
    · have hjn : j = n := by omega
      have HT := Lib.hid (show zs.take j = zs by rw [hjn, ← hzn.out]; exact List.take_length)
      go_wp2
      go_ret
      have e1 := M.out.eo; have e2 := M.out.el
      rw [HT.out, HO.out] at e1
      rw [HT.out, HL.out] at e2
      subst e1 e2
      exact ⟨O, m, oc, S', rfl, M.out.out, fun g o s he => M.out.new g ⟨o, s, he⟩, M.out.obj, M.out.only, M.out.grow⟩

end Go.Proofs.Ytghihmmapignmaa
