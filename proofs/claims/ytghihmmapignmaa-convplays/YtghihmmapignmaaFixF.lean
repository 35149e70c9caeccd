/- Contract of fixed's endRecord and of the Unpacker's End. -/
import Derived.Test.YtghihmmapignmaaFixE
import Derived.WalkKit
import Derived.WalkSpells
import Derived.WalkLawsBesides
import Derived.Lib.Hide
import Derived.BigQuiet
namespace Go.Proofs.Ytghihmmapignmaa
open Go.RowKit

theorem tl_step {l : List Int} {p : Nat} (h : l.getD p 0 = 32) : tl l (p + 1) = tl l p := by simp only [tl, if_pos h]
theorem tl_stop {l : List Int} {p : Nat} (h : ¬ l.getD p 0 = 32) : tl l (p + 1) = p + 1 := by simp only [tl, if_neg h]

set_option maxHeartbeats 2000000 in
theorem endr_any (b K : Nat) (l : List Int) (x : Option Value) (S : Nat → Prop) (A : Option Addr) (n c : Nat) (os os2 : List Int) (w : World) (h : Rc b K l x w S) (hO : Buf w A n c os) (hA : ∀ d, S d → ¬ At A d) (hK : l.length ≤ K) (h0 : 0 < l.length) (hn : n + l.length + 1 ≤ 1000000) (ho2 : os ++ lin l = os2) :
    Calls Try.prog 80 #[.pointer (some ⟨b, 0, none⟩), .slice A n c] w (EndsPost (Rc b K [] x) b S A os2 w) := by
  have H := Lib.hid h; have HO := Lib.hid hO; have HA := Lib.hid hA; have HO2 := Lib.hid ho2
  obtain ⟨A0, m, cc, e2, hB0, hA0⟩ := h.kept
  rw [List.take_of_length_le hK] at hB0
  have hm : l.length = m := hB0.1
  obtain ⟨g, o, rfl, _, hcell⟩ := hB0.bytes.1.2.2.2 (by omega)
  have hmc := hB0.2.1
  have hcm : cc ≤ 9223372036854775807 := by have := hB0.2.2.1; unfold maxLen at this; omega
  have HB0 := Lib.hid hB0; have HC := Lib.hid hcell; have HM := Lib.hid h.mine; have HL := Lib.hid hm
  rw [hm] at h0 hn
  clear h hO hA ho2 hB0 hA0 hcell hK hm
  go_enter Try.func80, Try.ntmps80
  go_wp2
  go_loopw [5] (fun i wr => ∃ (j : Nat), j ≤ m ∧ i = .int .i64 j ∧ Hid (tl l j = tl l m) ∧ w = wr) (fun i _ => (intOf i).toNat)
  case atStart => exact ⟨m, Nat.le_refl _, rfl, rfl, rfl⟩
  case round =>
    obtain ⟨j, hj, rfl, TJ, rfl⟩ := hrel
    by_cases way : 0 < j ∧ l.getD (j - 1) 0 = 32
    · obtain ⟨p, rfl⟩ : ∃ p, j = p + 1 := ⟨j - 1, by omega⟩
      have hz : l.getD p 0 = 32 := by simpa using way.2
      have TJ2 := Lib.hid (show tl l p = tl l m by rw [← tl_step hz]; exact TJ.out)
      have cp := HC.out p (by omega)
      rw [hz] at cp
      have p0 : (0 : Int) ≤ (p : Int) := by omega
      have p1 : (p : Int) < (m : Int) := by omega
      clear way hz
      go_wp2
      go_roundw
      case rel => exact ⟨p, by omega, by go_num, TJ2.out, by simp⟩
      case measure => simp [intOf]
    · have TE := Lib.hid (show tl l m = j by
        rcases Nat.eq_zero_or_pos j with h | h
        · subst h; rw [← TJ.out]; rfl
        · obtain ⟨p, rfl⟩ : ∃ p, j = p + 1 := ⟨j - 1, by omega⟩
          rw [← TJ.out]
          exact tl_stop (fun hz => way ⟨h, by simpa using hz⟩))
      have ELX := Lib.hid (show os ++ l.take j ++ [10] = os2 by rw [← HO2.out, lin, HL.out, TE.out, List.append_assoc])
      have HBJ := Lib.hid (HB0.out.bytes.1.firsts j hj)
      have j0 : (0 : Int) ≤ (j : Int) := by omega
      have jc : (j : Int) ≤ (cc : Int) := by omega
      have hl1 : n + j ≤ 1000000 := by omega
      have hl2 : n + j + 1 ≤ 1000000 := by omega
      rcases Nat.eq_zero_or_pos j with hj0 | hj0
      case' inl =>
        have dj : decide ((0 : Int) < (j : Int)) = false := by simp; omega
        have dj2 : ¬ (0 : Int) < (j : Int) := by omega
        clear hj0
      case' inr =>
        obtain ⟨p, hp⟩ : ∃ p, j = p + 1 := ⟨j - 1, by omega⟩
        have dj : decide ((0 : Int) < (j : Int)) = true := by simp; omega
        have hz : ¬ l.getD p 0 = 32 := fun h => way ⟨hj0, by rw [hp]; simpa using h⟩
        have cp := HC.out p (by omega)
        have p0 : (0 : Int) ≤ (p : Int) := by omega
        have p1 : (p : Int) < (m : Int) := by omega
        have p2 : (j : Int) - 1 = (p : Int) := by omega
        generalize l.getD p 0 = z at *
        have hz2 : (z == 32) = false := by simpa using hz
        clear hp hj0
      all_goals
        clear way TJ
        go_wp2_with (at_builtin; (first
          | (refine append_buf rfl _ _ rfl HO.out rfl HBJ.out (fun h => by cases h) rfl hl1 ?_; intro A1 ca w1 q1 q2 q3; have Q1 := Lib.hid q1; have Q2 := Lib.hid q2; have Q3 := Lib.hid q3; have B2 := Lib.hid (q1.on ((Below.refl _ _).alloc (Nat.le_refl _) (.cells #[.int .u8 10] 5))); have T2 := Lib.hid (one_new w1 10); clear q1 q2 q3)
          | (refine append_buf rfl _ _ rfl B2.out rfl T2.out (fun h => by cases h) rfl hl2 ?_; intro A2 cb w2 q1 q2 q3; have P1 := Lib.hid q1; have P2 := Lib.hid q2; have P3 := Lib.hid q3; clear q1 q2 q3)))
        have O1 := Lib.hid (show Only (fun d => d = b ∨ At A d) w w1 from Q2.out.mono (fun d h => .inr h))
        have N1 := Lib.hid (show ∀ d, At A1 d → At A d ∨ w.heap.size ≤ d from near (A1 := A) (fun d h => .inl h) Q3.out (Nat.le_refl _))
        have O2 := Lib.hid (show Only (fun d => d = b ∨ At A d) w w2 from (O1.out.alloc _).trans P2.out (fun d hd hl => (N1.out d hd).elim .inr (fun h => absurd hl (by omega))))
        have N2 := Lib.hid (show ∀ d, At A2 d → At A d ∨ w.heap.size ≤ d from near N1.out P3.out (Nat.le_trans O1.out.size (by simp)))
        have SA := Lib.hid (show ∀ d, S d → ¬ At A1 d from fun d hd ht => (N1.out d ht).elim (HA.out d hd) (fun h => by have := H.out.lt d hd; omega))
        have R2 := Lib.hid (((H.out.only Q2.out (fun d hd ht => HA.out d hd ht)).on ((Below.refl _ _).alloc (Nat.le_refl _) (.cells #[.int .u8 10] 5))).only P2.out SA.out)
        have EB := Lib.hid (show Buf w2 A2 (n + j + 1) cb os2 by rw [← ELX.out]; exact P1.out)
        clear Q1 Q2 Q3 P1 P2 P3 B2 T2 O1 N1
        go_wp2_with fail
        refine (begin_any b K l _ S w2 R2.out).mono ?_
        rintro e w6 ⟨v, rfl, q1, q2⟩
        have Q1 := Lib.hid q1; have Q2 := Lib.hid q2
        clear q1 q2
        go_wp2
        go_ret
        refine ⟨A2, _, cb, rfl, EB.out.only Q2.out (fun g o s he hg => ?_), N2.out, Q1.out, O2.out.trans Q2.out (fun d hd _ => .inl hd)⟩
        rcases N2.out g ⟨o, s, he⟩ with h | h
        · exact HA.out g (by rw [hg]; exact HM.out) h
        · have := H.out.lt b HM.out; omega

set_option maxHeartbeats 1000000 in
theorem endu_any (b K : Nat) (l : List Int) (x : Option Value) (S : Nat → Prop) (os2 : List Int) (w : World) (h : Rc b K l x w S) (hK : l.length ≤ K) (ho2 : uEnd l = os2) :
    Calls Try.prog 68 #[.pointer (some ⟨b, 0, none⟩)] w (Gives (Rc b K [] x) S os2 w) := by
  have H := Lib.hid h
  have c1 := h.held
  have hp := h.pos
  clear h
  go_enter Try.func68, Try.ntmps68
  cases l with
  | nil =>
    obtain rfl : [] = os2 := by rw [← ho2]; simp [uEnd]
    go_wp2
    go_ret
    exact ⟨none, 0, 0, S, rfl, Buf.nil _, (fun g o s he => by cases he), H.out, Only.refl _ _, fun d hd => .inl hd⟩
  | cons z r =>
    have ho3 : [] ++ lin (z :: r) = os2 := by rw [← ho2]; simp [uEnd]
    have hz : (((z :: r).length : Int) == 0) = false := by simp; omega
    have h0 : 0 < (z :: r).length := by simp
    generalize z :: r = l at *
    go_wp2_with fail
    refine (endr_any b K l x S none 0 0 [] os2 w H.out (Buf.nil w) (fun d _ ⟨_, _, h⟩ => by cases h) hK h0 (by omega) ho3).mono ?_
    rintro e w1 q1
    have G := Lib.hid (q1.gives H.out.mine H.out.lt)
    obtain ⟨A', m, c, S', rfl, _⟩ := G.out
    clear q1
    go_wp2
    go_ret
    exact G.out

end Go.Proofs.Ytghihmmapignmaa
