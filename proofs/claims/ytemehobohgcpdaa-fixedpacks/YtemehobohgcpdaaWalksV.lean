/- Contracts of the reference's line and End of the Unpacker. -/
import Derived.Test.YtemehobohgcpdaaWalksU
import Derived.Test.YtemehobohgcpdaaWalksF
import Derived.WalkKit
import Derived.WalkSpells
import Derived.WalkLawsBesides
import Derived.Lib.Hide
import Derived.BigQuiet
namespace Go.Proofs.Ytemehobohgcpdaa
open Go.RowKit

/-- The reference's Unpacker: how long records are, the bytes. -/
abbrev Ru (b K : Nat) (l : List Int) (w : World) (S : Nat → Prop) : Prop := Fi w b S (.int .i64 (K : Int)) l
theorem Ru.keeps (b K : Nat) (l : List Int) : Keeps (Ru b K l) := ⟨fun h => Fi.lt h, fun h hk hS => Fi.only h hk hS⟩

theorem line_step {w w1 w2 : World} {b : Nat} {S : Nat → Prop} {k u : Value} {l : List Int} {A1 A2 : Option Addr} {ob : Obj} (H : Fi w b S k l) (e2 : w.cell? ⟨b, 1, none⟩ = some u) (p2 : Only (fun d => ∃ o s, (none : Option Addr) = some ⟨d, o, s⟩) w w1) (p3 : A1 = none ∨ A1 = some ⟨w.heap.size, 0, none⟩)
    (q2 : Only (fun d => ∃ o s, A1 = some ⟨d, o, s⟩) (w1.alloc ob) w2) (q3 : A2 = A1 ∨ A2 = some ⟨(w1.alloc ob).heap.size, 0, none⟩) :
    w2.cell? ⟨b, 1, none⟩ = some u ∧ w2.frozen? ⟨b, 1, none⟩ = false ∧ w2.cell? ⟨b, 0, none⟩ = some k ∧ Below w.heap.size w w2 ∧ ∀ d, At A2 d → w.heap.size ≤ d := by
  have hbw := H.lt b H.mine
  have K1 : Below w.heap.size w w1 := p2.below (Nat.le_refl _) (fun d ⟨_, _, h⟩ => by cases h)
  have N1 : ∀ d, At A1 d → w.heap.size ≤ d := fun d hd => (near (A := none) (A1 := none) (N := w.heap.size) (fun d h => .inl h) p3 (Nat.le_refl _) d hd).elim (fun ⟨_, _, h⟩ => by cases h) id
  have hs : w.heap.size ≤ (w1.alloc ob).heap.size := Nat.le_trans K1.size (by simp)
  have K2 : Below w.heap.size w w2 := (K1.alloc K1.size ob).trans (q2.below hs N1)
  exact ⟨(K2.cell (p := ⟨b, 1, none⟩) hbw).trans e2, (K2.frozen (p := ⟨b, 1, none⟩) hbw).trans H.free, (K2.cell (p := ⟨b, 0, none⟩) hbw).trans H.size, K2,
    fun d hd => (near (A := none) (A1 := A1) (N := w.heap.size) (fun d h => .inr (N1 d h)) q3 hs d hd).elim (fun ⟨_, _, h⟩ => by cases h) id⟩

set_option maxHeartbeats 2000000 in
theorem rline_any (b K : Nat) (l : List Int) (S : Nat → Prop) (os2 : List Int) (w : World) (h : Ru b K l w S) (h0 : 0 < l.length) (hn : l.length + 1 ≤ 1000000) (ho2 : lin l = os2) :
    Calls Try.prog 32 #[.pointer (some ⟨b, 0, none⟩)] w (Gives (Ru b K []) S os2 w) := by
  have H := Lib.hid h; have HO2 := Lib.hid ho2
  obtain ⟨A0, m, cc, e2, hB0, hA0⟩ := h.held
  have hm : l.length = m := hB0.1
  obtain ⟨g, o, rfl, _, hcell⟩ := hB0.bytes.1.2.2.2 (by omega)
  have hmc := hB0.2.1
  have hcm : cc ≤ 9223372036854775807 := by have := hB0.2.2.1; unfold maxLen at this; omega
  have HB0 := Lib.hid hB0; have HC := Lib.hid hcell; have HM := Lib.hid h.mine; have HL := Lib.hid hm
  have f1 := h.free
  rw [hm] at h0 hn
  clear h ho2 hB0 hA0 hcell hm
  go_enter Try.func32, Try.ntmps32
  go_wp2
  go_loopw [3] (fun i wr => ∃ (j : Nat), j ≤ m ∧ i = .int .i64 j ∧ Hid (tl l j = tl l m) ∧ w = wr) (fun i _ => (intOf i).toNat)
  case atStart => exact ⟨m, Nat.le_refl _, rfl, rfl, rfl⟩
  case round =>
    obtain ⟨j, hj, rfl, TJ, rfl⟩ := hrel
    by_cases way : 0 < j ∧ l.getD (j - 1) 0 = 32
    · obtain ⟨p, rfl⟩ : ∃ p, j = p + 1 := ⟨j - 1, by omega⟩
      have hz : l.getD p 0 = 32 := by simpa using way.2
      have TJ2 := Lib.hid (show tl l p = tl l m by rw [← tl_step hz]; exact TJ.out)
      have cp := HC.out p (by omega)
      rw [hz] at cp
      have p0 : (0 : Int) ≤ (p : Int) := by omega
      have p1 : (p : Int) < (m : Int) := by omega
      clear way hz
      go_wp2
      go_roundw
      case rel => exact ⟨p, by omega, by go_num, TJ2.out, by simp⟩
      case measure => simp [intOf]
    · have TE := Lib.hid (show tl l m = j by
        rcases Nat.eq_zero_or_pos j with h | h
        · subst h; rw [← TJ.out]; rfl
        · obtain ⟨p, rfl⟩ : ∃ p, j = p + 1 := ⟨j - 1, by omega⟩
          rw [← TJ.out]
          exact tl_stop (fun hz => way ⟨h, by simpa using hz⟩))
      have ELX := Lib.hid (show l.take j ++ [10] = os2 by rw [← HO2.out, lin, HL.out, TE.out])
      have HBJ := Lib.hid (HB0.out.bytes.1.firsts j hj)
      have j0 : (0 : Int) ≤ (j : Int) := by omega
      have jc : (j : Int) ≤ (cc : Int) := by omega
      have hl1 : 0 + j ≤ 1000000 := by omega
      have hl2 : j + 1 ≤ 1000000 := by omega
      rcases Nat.eq_zero_or_pos j with hj0 | hj0
      case' inl =>
        have dj : decide ((0 : Int) < (j : Int)) = false := by simp; omega
        have dj2 : ¬ (0 : Int) < (j : Int) := by omega
        clear hj0
      case' inr =>
        obtain ⟨p, hp⟩ : ∃ p, j = p + 1 := ⟨j - 1, by omega⟩
        have dj : decide ((0 : Int) < (j : Int)) = true := by simp; omega
        have hz : ¬ l.getD p 0 = 32 := fun h => way ⟨hj0, by rw [hp]; simpa using h⟩
        have cp := HC.out p (by omega)
        have p0 : (0 : Int) ≤ (p : Int) := by omega
        have p1 : (p : Int) < (m : Int) := by omega
        have p2 : (j : Int) - 1 = (p : Int) := by omega
        generalize l.getD p 0 = z at *
        have hz2 : (z == 32) = false := by simpa using hz
        clear hp hj0
      all_goals
        clear way TJ
        have hbw := H.out.lt b HM.out
        go_wp2_with (at_builtin; (first
          | (refine append_buf rfl _ _ rfl (Buf.nil w) rfl HBJ.out (fun h => by cases h) rfl hl1 ?_; intro A1 ca w1 q0 q2 q3; have q1 : Buf w1 A1 j ca (l.take j) := (by simpa using q0); have Q2 := Lib.hid q2; have Q3 := Lib.hid q3; have B2 := Lib.hid (q1.on ((Below.refl _ _).alloc (Nat.le_refl _) (.cells #[.int .u8 10] 5))); have T2 := Lib.hid (one_new w1 10); clear q0 q1 q2 q3)
          | (refine append_buf rfl _ _ rfl B2.out rfl T2.out (fun h => by cases h) rfl hl2 ?_; intro A2 cb w2 q1 q2 q3; have P1 := Lib.hid q1; obtain ⟨d1, g1, d0, k2, n2⟩ := line_step H.out e2 Q2.out Q3.out q2 q3; have D0 := Lib.hid d0; have KK := Lib.hid k2; have N2 := Lib.hid n2; clear q1 q2 q3 d0 k2 n2)))
        go_ret
        have EB : Buf w2 A2 (j + 1) cb os2 := by rw [← ELX.out]; exact P1.out
        have ho : Only (fun d => d = b) w2 (w2.setCell ⟨b, 1, none⟩ (.slice none 0 0)) := (Only.refl (fun d => d = b) w2).setCell ⟨b, 1, none⟩ (fun _ => rfl) _
        refine ⟨A2, _, cb, S, rfl, EB.only ho (fun g o s he hg => by have := N2.out g ⟨o, s, he⟩; omega), fun g o s he => ⟨N2.out g ⟨o, s, he⟩, fun hs => by have := N2.out g ⟨o, s, he⟩; have := H.out.lt g hs; omega⟩, ?_, ?_, fun d hd => .inl hd⟩
        · exact Fi.stored (S := S) HM.out (fun d hd => Nat.lt_of_lt_of_le (H.out.lt d hd) KK.out.size) D0.out d1 g1 (Buf.nil w2) (fun g o s he => by cases he)
        · exact (Only.of_below KK.out).trans (ho.mono (T := S) (fun d hd => by rw [hd]; exact HM.out)) (fun d h _ => h)

set_option maxHeartbeats 1000000 in
theorem rendu_any (b K : Nat) (l : List Int) (S : Nat → Prop) (os2 : List Int) (w : World) (h : Ru b K l w S) (hl : l.length + 1 ≤ 1000000) (ho2 : uEnd l = os2) :
    Calls Try.prog 23 #[.pointer (some ⟨b, 0, none⟩)] w (Gives (Ru b K []) S os2 w) := by
  have H := Lib.hid h
  obtain ⟨A, n, c, c2, hB, _⟩ := h.held
  have hn : l.length = n := hB.1
  clear h hB
  go_enter Try.func23, Try.ntmps23
  cases l with
  | nil =>
    obtain rfl : [] = os2 := by rw [← ho2]; simp [uEnd]
    obtain rfl : 0 = n := hn
    go_wp2
    go_ret
    exact ⟨none, 0, 0, S, rfl, Buf.nil _, (fun g o s he => by cases he), H.out, Only.refl _ _, fun d hd => .inl hd⟩
  | cons z r =>
    have ho3 : lin (z :: r) = os2 := by rw [← ho2]; simp [uEnd]
    have hz : ((n : Int) == 0) = false := by simp at hn; simp; omega
    have hz2 : ¬ n = 0 := by simp at hn; omega
    have h0 : 0 < (z :: r).length := by simp
    generalize z :: r = l at *
    clear hn
    go_wp2_with fail
    refine (rline_any b K l S os2 w H.out h0 hl ho3).mono ?_
    rintro e w1 q1
    have G := Lib.hid q1
    obtain ⟨A', m, c, S', rfl, _⟩ := G.out
    clear q1
    go_wp2
    go_ret
    exact G.out

end Go.Proofs.Ytemehobohgcpdaa
