/- Contract of fixed's hold. -/
import Derived.Test.YtghihmmapignmaaFixB
import Derived.WalkKit
import Derived.WalkSpells
import Derived.WalkLawsBesides
import Derived.Lib.Hide
import Derived.BigQuiet
import Derived.Deep.RegionLaw
namespace Go.Proofs.Ytghihmmapignmaa
open Go.RowKit

theorem hold_step {b K : Nat} {H : Int} {ks ys : List Int} {x : Option Value} {S : Nat → Prop} {W w5 : World} {A A5 : Option Addr} {m c n5 c5 : Nat} (h : Rx b K H ks x W S) (c2 : W.cell? ⟨b, 2, none⟩ = some (.slice A m c)) (hA : ∀ g o s, A = some ⟨g, o, s⟩ → S g ∧ g ≠ b)
    (q1 : Buf w5 A5 n5 c5 ys) (q2 : Only (fun d => ∃ o s, A = some ⟨d, o, s⟩) W w5) (q3 : A5 = A ∨ A5 = some ⟨W.heap.size, 0, none⟩) :
    w5.cell? ⟨b, 2, none⟩ = some (.slice A m c) ∧ w5.frozen? ⟨b, 2, none⟩ = false ∧ ∃ S', Rx b K H ys x (w5.setCell ⟨b, 2, none⟩ (.slice A5 n5 c5)) S' ∧ Only S W (w5.setCell ⟨b, 2, none⟩ (.slice A5 n5 c5)) ∧ ∀ d, S' d → S d ∨ W.heap.size ≤ d := by
  have hb := h.lt b h.mine
  have hn : ¬ ∃ o s, A = some ⟨b, o, s⟩ := fun ⟨o, s, he⟩ => (hA b o s he).2 rfl
  have d2 := (q2.cell (p := ⟨b, 2, none⟩) hb hn).trans c2
  have g2 := (q2.frozen (p := ⟨b, 2, none⟩) hb hn).trans h.f2
  have ho1 : Only (fun d => d = b) w5 (w5.setCell ⟨b, 2, none⟩ (.slice A5 n5 c5)) := (Only.refl (fun d => d = b) w5).setCell ⟨b, 2, none⟩ (fun _ => rfl) _
  have ho : Only S W (w5.setCell ⟨b, 2, none⟩ (.slice A5 n5 c5)) := (q2.mono (fun d ⟨o, s, he⟩ => (hA d o s he).1)).trans ho1 (fun d hd _ => by rw [hd]; exact h.mine)
  have h5 : ∀ g o s, A5 = some ⟨g, o, s⟩ → g ≠ b := by
    intro g o s he
    rcases q3 with rfl | rfl
    · exact (hA g o s he).2
    · injection he with he; injection he with he; omega
  refine ⟨d2, g2, fun d => S d ∨ ∃ o s, A5 = some ⟨d, o, s⟩, ⟨.inl h.mine, ?_, h.pos, ?_, ?_, ⟨A5, n5, c5, World.cell?_setCell_same _ _ _ d2, q1.only ho1 h5, fun g o s he => ⟨.inr ⟨o, s, he⟩, h5 g o s he⟩⟩, ?_, ?_, ?_, ?_⟩, ho, ?_⟩
  · rintro d (hd | ⟨o, s, he⟩)
    · exact Nat.lt_of_lt_of_le (h.lt d hd) ho.size
    · exact Nat.lt_of_lt_of_le (q1.at d o s he) ho1.size
  · rw [World.cell?_setCell_other _ _ _ _ (by simp)]; exact (q2.cell (p := ⟨b, 0, none⟩) hb hn).trans h.cbs
  · rw [World.cell?_setCell_other _ _ _ _ (by simp)]; exact (q2.cell (p := ⟨b, 1, none⟩) hb hn).trans h.held
  · rw [World.cell?_setCell_other _ _ _ _ (by simp)]; exact (q2.cell (p := ⟨b, 3, none⟩) hb hn).trans h.cut
  · simpa using (q2.frozen (p := ⟨b, 1, none⟩) hb hn).trans h.f1
  · simpa using g2
  · simpa using (q2.frozen (p := ⟨b, 3, none⟩) hb hn).trans h.f3
  · rintro d (hd | ⟨o, s, he⟩)
    · exact .inl hd
    · rcases q3 with rfl | rfl
      · exact .inl (hA d o s he).1
      · right; injection he with he; injection he with he; omega

/-- What is kept, and a piece of what comes in. -/
theorem kept_more (K : Nat) (l zs : List Int) (k : Nat) (hk : k = min (K - (l.take K).length) zs.length) : l.take K ++ zs.take k = (l ++ zs).take K := by
  rw [kept_app, hk]
  congr 1
  rw [List.length_take, show K - min K l.length = K - l.length by omega]
  by_cases h : K - l.length ≤ zs.length
  · rw [Nat.min_eq_left h]
  · rw [Nat.min_eq_right (by omega), List.take_of_length_le (Nat.le_refl _), List.take_of_length_le (by omega)]

set_option maxHeartbeats 1000000 in
theorem hold_any (b K : Nat) (l : List Int) (x : Option Value) (S : Nat → Prop) (A : Option Addr) (n c : Nat) (zs : List Int) (w : World) (h : Rc b K l x w S) (hB : Bytes w A n c zs) (hN : A = none → n = 0 ∧ c = 0) (hA : ∀ g o, A = some ⟨g, o, none⟩ → 0 < n → g ≠ b) (hl : l.length + n ≤ 1000000) :
    Calls Try.prog 82 #[.pointer (some ⟨b, 0, none⟩), .slice A n c] w (Puts (Rc b K (l ++ zs) x) S w) := by
  obtain ⟨W, hW⟩ : ∃ W, w.setCell ⟨b, 1, none⟩ (.int .i64 ((l.length : Int) + (n : Int))) = W := ⟨_, rfl⟩
  have X1 := h.setHeld ((l.length : Int) + (n : Int))
  have B1 := hB.only X1.2 hA
  rw [hW] at X1 B1
  have c1 := h.held; have f1 := h.f1
  have hlw := Lib.hid (show (((l ++ zs).length : Nat) : Int) = (l.length : Int) + (n : Int) by simp [hB.1])
  have hcm : c ≤ 9223372036854775807 := by have := hB.2.2.1; unfold maxLen at this; omega
  have hnc := hB.2.1
  have HZ := Lib.hid hB.1
  have HK := Lib.hid (kept_more K l zs)
  have HM := Lib.hid h.mine
  have hp := h.pos
  clear h hB hA
  go_enter Try.func82, Try.ntmps82
  go_wp2
  have O1 := Lib.hid (show Only S w W from X1.2.mono (fun d hd => by rw [hd]; exact HM.out))
  have R1 := X1.1
  clear X1 hW c1 f1
  obtain ⟨A0, m, c0, c2, hB0, hA0⟩ := R1.kept
  have cb := R1.cbs
  have hm : (l.take K).length = m := hB0.1
  have hmK : m ≤ K := by rw [← hm]; simp; omega
  have hmc := hB0.2.1
  rw [hm] at HK
  generalize l.take K = ks at *
  go_quiet (fail)
  go_wp2
  generalize hW2 : W.drewN nq = W2 at *
  have K2 := Lib.hid (show Below W.heap.size W W2 by rw [← hW2]; exact below_drewN (Below.refl _ _) _)
  have R2 := R1.on K2.out
  have B2 := B1.on K2.out
  have Q2 := hB0.on K2.out
  have c2 : W2.cell? ⟨b, 2, none⟩ = some (.slice A0 m c0) := by rw [← hW2]; exact c2
  have f2 := R2.f2
  clear hW2 R1 B1 hB0 cb
  have D2 := Lib.hid (show Below W2.heap.size W2 W2.drew from (Below.refl _ _).drew)
  have R3 := Lib.hid (R2.on D2.out); have Q3 := Lib.hid (Q2.on D2.out); have B3 := Lib.hid (B2.on D2.out)
  have HA0 := Lib.hid hA0
  have d2 := Lib.hid (show W2.drew.cell? ⟨b, 2, none⟩ = some (.slice A0 m c0) from c2)
  have O3 := Lib.hid (show Only S w W2.drew from O1.out.trans (T := fun _ => False) (Only.of_below (K2.out.trans (D2.out.mono K2.out.size))) (fun d h _ => h.elim))
  clear R2 Q2 B2 hA0
  have fin : ∀ (A5 : Option Addr) (n5 c5 k : Nat) (w5 : World), k = min (K - m) zs.length → Buf w5 A5 n5 c5 (ks ++ zs.take k) → Only (fun d => ∃ o s, A0 = some ⟨d, o, s⟩) W2.drew w5 → (A5 = A0 ∨ A5 = some ⟨W2.drew.heap.size, 0, none⟩) →
      w5.cell? ⟨b, 2, none⟩ = some (.slice A0 m c0) ∧ w5.frozen? ⟨b, 2, none⟩ = false ∧ ∀ v, Puts (Rc b K (l ++ zs) x) S w (.returned v) (w5.setCell ⟨b, 2, none⟩ (.slice A5 n5 c5)) := by
    intro A5 n5 c5 k w5 hk q1 q2 q3
    obtain ⟨e1, e2, S', X, Y, Z⟩ := hold_step R3.out d2.out HA0.out q1 q2 q3
    refine ⟨e1, e2, fun v => ⟨v, S', rfl, ?_, O3.out.trans Y (fun d hd _ => hd), fun d hd => (Z d hd).imp id (fun h => Nat.le_trans O3.out.size h)⟩⟩
    rw [HK.out k hk] at X
    unfold Rc
    rw [hlw.out]
    exact X
  have FIN := Lib.hid fin
  clear fin R3 HK
  obtain ⟨r, hr⟩ : ∃ r : Nat, K - m = r := ⟨_, rfl⟩
  have hri : (K : Int) - (m : Int) = (r : Int) := by omega
  rw [hri]
  rw [hr] at FIN
  clear hri
  rcases Nat.lt_or_ge n r with hlt | hge
  · have hl5 : m + n ≤ 1000000 := by omega
    have EK := Lib.hid (show n = min r zs.length by rw [HZ.out]; omega)
    have ET := Lib.hid (show zs.take n = zs by rw [← HZ.out]; exact List.take_length)
    have hn0 : (0 : Int) ≤ (n : Int) := by omega
    have hnc2 : (n : Int) ≤ (c : Int) := by omega
    cases A with
    | none =>
      obtain ⟨rfl, rfl⟩ := hN rfl
      go_region_law (refine step_append_buf rfl (.tmp 28) (.tmp 34) rfl Q3.out (by simp [Act.eval, Act.put]) B3.out (fun _ => ⟨rfl, rfl⟩) (by simp [Act.eval, Act.put]) hl5 ?_; intro A5 c5 w5 q1 q2 q3; obtain ⟨e1, e2, X⟩ := FIN.out A5 _ c5 0 w5 EK.out (by rw [ET.out]; exact q1) q2 q3; clear q1 q2 q3)
      all_goals
        go_wp2
        go_end0
        exact X _
    | some a =>
      go_region_law (refine step_append_buf rfl (.tmp 28) (.tmp 34) rfl Q3.out (by simp [Act.eval, Act.put]) B3.out (fun h => by cases h) (by simp [Act.eval, Act.put]) hl5 ?_; intro A5 c5 w5 q1 q2 q3; obtain ⟨e1, e2, X⟩ := FIN.out A5 _ c5 n w5 EK.out (by rw [ET.out]; exact q1) q2 q3; clear q1 q2 q3)
      all_goals
        go_wp2
        go_end0
        exact X _
  · have EK := Lib.hid (show r = min r zs.length by rw [HZ.out]; omega)
    have hl5 : m + r ≤ 1000000 := by omega
    have hkn : (r : Int) ≤ (n : Int) := by omega
    have hkc : (r : Int) ≤ (c : Int) := by omega
    have hk0 : (0 : Int) ≤ (r : Int) := by omega
    have hk1 : ¬ (n : Int) < (r : Int) := by omega
    have hkc2 : r ≤ c := by omega
    have B4 := Lib.hid (B3.out.firsts r hge)
    cases A with
    | none =>
      obtain ⟨rfl, rfl⟩ := hN rfl
      obtain rfl : r = 0 := by omega
      go_region_law (refine step_append_buf rfl (.tmp 28) (.tmp 34) rfl Q3.out (by simp [Act.eval, Act.put]) B4.out (fun _ => ⟨rfl, rfl⟩) (by simp [Act.eval, Act.put]) hl5 ?_; intro A5 c5 w5 q1 q2 q3; obtain ⟨e1, e2, X⟩ := FIN.out A5 _ c5 0 w5 EK.out q1 q2 q3; clear q1 q2 q3)
      all_goals
        go_wp2
        go_end0
        exact X _
    | some a =>
      go_region_law (refine step_append_buf rfl (.tmp 28) (.tmp 34) rfl Q3.out (by simp [Act.eval, Act.put]) B4.out (fun h => by cases h) (by simp [Act.eval, Act.put]) hl5 ?_; intro A5 c5 w5 q1 q2 q3; obtain ⟨e1, e2, X⟩ := FIN.out A5 _ c5 r w5 EK.out q1 q2 q3; clear q1 q2 q3)
      all_goals
        go_wp2
        go_end0
        exact X _

end Go.Proofs.Ytghihmmapignmaa
