/- Contract of fixed's endLine and of the Packer's End. -/
import Derived.Test.YtghihmmapignmaaFixC
import Derived.WalkKit
import Derived.WalkSpells
import Derived.WalkLawsBesides
import Derived.Lib.Hide
import Derived.BigQuiet
namespace Go.Proofs.Ytghihmmapignmaa
open Go.RowKit

/-- The blocks of a slice. -/
def At (A : Option Addr) (d : Nat) : Prop := ∃ o s, A = some ⟨d, o, s⟩

/-- What is appended to lies where it lay, or in new memory. -/
theorem near {A A1 A2 : Option Addr} {N M : Nat} (h1 : ∀ d, At A1 d → At A d ∨ N ≤ d) (h : A2 = A1 ∨ A2 = some ⟨M, 0, none⟩) (hM : N ≤ M) : ∀ d, At A2 d → At A d ∨ N ≤ d := by
  rintro d ⟨o, s, he⟩
  rcases h with rfl | rfl
  · exact h1 d ⟨o, s, he⟩
  · right; injection he with he; injection he with he; omega

/-- Out grew by os; the object is told anew, its blocks the same. -/
def EndsPost (P : World → (Nat → Prop) → Prop) (b : Nat) (S : Nat → Prop) (A : Option Addr) (os : List Int) (w : World) (e : Ending) (w' : World) : Prop :=
  ∃ A' m c, e = .returned (.slice A' m c) ∧ Buf w' A' m c os ∧ (∀ d, At A' d → At A d ∨ w.heap.size ≤ d) ∧ P w' S ∧ Only (fun d => d = b ∨ At A d) w w'

/-- One byte, just written out. -/
theorem one_new (w : World) (z : Int) : Bytes (w.alloc (.cells #[.int .u8 z] 5)) (some ⟨w.heap.size, 0, none⟩) 1 1 [z] := by
  have := (buf_new w [z] #[] 1 1 rfl (Nat.le_refl _) (by decide) rfl).bytes.1
  simpa using this

theorem rcd_end (K : Nat) (l : List Int) (m j : Nat) (hm : (l.take K).length = m) (hj : j = K - m) : l.take K ++ List.replicate j 32 = rcd K l := by
  rw [rcd, hj, ← hm, List.length_take, show K - min K l.length = K - l.length by omega]

set_option maxHeartbeats 2000000 in
theorem endl_any (b K : Nat) (l : List Int) (cut cut2 : Nat) (S : Nat → Prop) (A : Option Addr) (n c : Nat) (os os2 : List Int) (w : World) (h : Rc b K l (some (.int .i64 cut)) w S) (hO : Buf w A n c os) (hA : ∀ d, S d → ¬ At A d) (hn : n + K ≤ 1000000) (hcut : cut ≤ 1000000) (hll : l.length ≤ 1000000)
    (hc2 : cut + over K l = cut2) (ho2 : os ++ rcd K l = os2) :
    Calls Try.prog 79 #[.pointer (some ⟨b, 0, none⟩), .slice A n c] w (EndsPost (Rc b K [] (some (.int .i64 cut2))) b S A os2 w) := by
  have H := Lib.hid h; have HO := Lib.hid hO; have HA := Lib.hid hA; have HC2 := Lib.hid hc2; have HO2 := Lib.hid ho2
  have c0 := h.cbs; have c1 := h.held; have c3 := h.cut; have f3 := h.f3
  have hp := h.pos
  have HM := Lib.hid h.mine
  clear h hO hA hc2 ho2
  go_enter Try.func79, Try.ntmps79
  rcases Nat.lt_or_ge K l.length with hk | hk
  case' inl =>
    have EO := Lib.hid (show cut2 = cut + 1 by rw [← HC2.out]; simp [over, hk])
    go_wp2
    go_quiet (fail)
    generalize hW : w.drewN nq = W at *
    have K0 := Lib.hid (show Below w.heap.size w W by rw [← hW]; exact below_drewN (Below.refl _ _) _)
    have X1 := (H.out.on K0.out).setCut (.int .i64 ((cut : Int) + 1))
    obtain ⟨W1, hW1⟩ : ∃ W1, W.setCell ⟨b, 3, none⟩ (.int .i64 ((cut : Int) + 1)) = W1 := ⟨_, rfl⟩
    rw [hW1] at X1
    have c3 : W.cell? ⟨b, 3, none⟩ = some (.int .i64 cut) := by rw [← hW]; exact c3
    have f3 : W.frozen? ⟨b, 3, none⟩ = false := by rw [← hW]; exact f3
    have R1 := Lib.hid (show Rc b K l (some (.int .i64 cut2)) W1 S by rw [EO.out]; exact X1.1)
    have O1 := Lib.hid (show Only (fun d => d = b) w W1 from (Only.of_below K0.out).trans X1.2 (fun d h _ => h))
    clear X1 hW K0
  case' inr =>
    have EO := Lib.hid (show cut2 = cut by rw [← HC2.out]; simp [over]; omega)
    have hk2 : decide ((K : Int) < (l.length : Int)) = false := by simp; omega
    go_wp2
    go_quiet (fail)
    generalize hW : w.drewN nq = W1 at *
    have K0 := Lib.hid (show Below w.heap.size w W1 by rw [← hW]; exact below_drewN (Below.refl _ _) _)
    have R1 := Lib.hid (show Rc b K l (some (.int .i64 cut2)) W1 S by rw [EO.out]; exact H.out.on K0.out)
    have O1 := Lib.hid (show Only (fun d => d = b) w W1 from Only.of_below K0.out)
    clear hW K0
  all_goals
    obtain ⟨A0, m, cc, c2, hB0, hA0⟩ := R1.out.kept
    have HB0 := Lib.hid hB0; have HA0 := Lib.hid hA0
    clear hB0 hA0
    have HOW := Lib.hid (HO.out.only O1.out (fun g o s he hg => HA.out b HM.out ⟨o, s, by rw [← hg]; exact he⟩))
    have hmK : m ≤ K := by have := HB0.out.1; simp at this; omega
    have hnm : n + m ≤ 1000000 := by omega
    go_wp2_with (at_builtin; refine append_buf rfl _ _ rfl HOW.out rfl HB0.out.bytes.1 HB0.out.bytes.2 rfl hnm ?_; intro A1 ca w1 q1 q2 q3; have Q1 := Lib.hid q1; have Q2 := Lib.hid q2; have Q3 := Lib.hid q3; clear q1 q2 q3)
    have hbW := R1.out.lt b R1.out.mine
    have R2 := Lib.hid (R1.out.only Q2.out (fun d hd ht => HA.out d hd ht))
    have O2 := Lib.hid (show Only (fun d => d = b ∨ At A d) w w1 from (O1.out.mono (fun d h => .inl h)).trans Q2.out (fun d h _ => .inr h))
    have N2 := Lib.hid (show ∀ d, At A1 d → At A d ∨ w.heap.size ≤ d from near (A1 := A) (fun d h => .inl h) Q3.out O1.out.size)
    have e0 := R2.out.cbs
    have e2 : w1.cell? ⟨b, 2, none⟩ = some (.slice A0 m cc) := (Q2.out.cell (p := ⟨b, 2, none⟩) hbW (HA.out b HM.out)).trans c2
    have EL := Lib.hid (show ∀ j, j = K - m → os ++ l.take K ++ List.replicate j 32 = os2 from fun j hj => by rw [List.append_assoc, rcd_end K l m j HB0.out.1 hj, HO2.out])
    clear Q2 Q3 R1 O1 HB0 HA0 HOW hbW c2 c0 c1 c3 f3
    go_quiet (fail)
    generalize hW2 : w1.drewN nq = W2 at *
    have K2 := Lib.hid (show Below w1.heap.size w1 W2 by rw [← hW2]; exact below_drewN (Below.refl _ _) _)
    have R3 := Lib.hid (R2.out.on K2.out); have Q3 := Lib.hid (Q1.out.on K2.out)
    have O3 := Lib.hid (show Only (fun d => d = b ∨ At A d) w W2 from O2.out.trans (T := fun _ => False) (Only.of_below K2.out) (fun d h _ => h.elim))
    clear hW2 K2 R2 O2 Q1 e0 e2
    obtain ⟨r, hr⟩ : ∃ r : Nat, K - m = r := ⟨_, rfl⟩
    have hri : (K : Int) - (m : Int) = (r : Int) := by omega
    rw [hri]
    rw [hr] at EL
    have hnr : n + m + r ≤ 1000000 := by omega
    clear hri
    go_wp2
    go_loopw [1, 42] (fun vo i wr => ∃ (j : Nat) (B : Option Addr) (bc : Nat), j ≤ r ∧ i = .int .i64 j ∧ vo = .slice B (n + m + j) bc ∧ Hid (Buf wr B (n + m + j) bc (os ++ l.take K ++ List.replicate j 32)) ∧ Hid (∀ d, At B d → At A d ∨ w.heap.size ≤ d) ∧ Hid (Rc b K l (some (.int .i64 cut2)) wr S) ∧ Hid (Only (fun d => d = b ∨ At A d) w wr)) (fun _ i _ => r - (intOf i).toNat)
    case atStart => exact ⟨0, A1, ca, Nat.zero_le _, rfl, rfl, by simpa [Hid] using Q3.out, N2.out, R3.out, O3.out⟩
    case round =>
      clear Q3 N2 R3 O3
      obtain ⟨j, B, bc, hj, rfl, rfl, BB, NB, RB, OB⟩ := hrel
      by_cases hlt : j < r
      · have K4 := Lib.hid (show Below wr.heap.size wr (wr.alloc (.cells #[.int .u8 32] 5)) from (Below.refl _ _).alloc (Nat.le_refl _) _)
        have B4 := Lib.hid (BB.out.on K4.out); have R4 := Lib.hid (RB.out.on K4.out)
        have T4 := Lib.hid (one_new wr 32)
        have O4 := Lib.hid (OB.out.alloc (.cells #[.int .u8 32] 5))
        have hl5 : n + m + j + 1 ≤ 1000000 := by omega
        clear BB RB K4
        go_wp2_with (at_builtin; refine append_buf rfl _ _ rfl B4.out rfl T4.out (fun h => by cases h) rfl hl5 ?_; intro A5 c5 w5 q1 q2 q3; have Q1 := Lib.hid q1; have Q2 := Lib.hid q2; have Q3 := Lib.hid q3; clear q1 q2 q3)
        have SB := Lib.hid (show ∀ d, S d → ¬ At B d from fun d hd ht => by
          rcases NB.out d ht with h | h
          · exact HA.out d hd h
          · have := H.out.lt d hd; omega)
        go_roundw
        case rel =>
          refine ⟨j + 1, A5, c5, by omega, by go_num, rfl, ?_, ?_, ?_, ?_⟩
          · unfold Hid; rw [List.replicate_succ', ← List.append_assoc]; exact Q1.out
          · exact near NB.out Q3.out (Nat.le_trans OB.out.size (by simp))
          · exact R4.out.only Q2.out SB.out
          · exact O4.out.trans Q2.out (fun d hd hl => (NB.out d hd).elim .inr (fun h => absurd hl (by omega)))
        case measure => simp [intOf]; omega
      · obtain rfl : j = r := by omega
        have EB := Lib.hid (show Buf wr B (n + m + j) bc os2 by have := BB.out; rwa [EL.out j rfl] at this)
        go_wp2_with fail
        refine (begin_any b K l _ S wr RB.out).mono ?_
        rintro e w6 ⟨v, rfl, q1, q2⟩
        have Q1 := Lib.hid q1; have Q2 := Lib.hid q2
        clear q1 q2
        go_wp2
        go_ret
        refine ⟨B, _, bc, rfl, EB.out.only Q2.out (fun g o s he hg => ?_), NB.out, Q1.out, OB.out.trans Q2.out (fun d hd _ => .inl hd)⟩
        rcases NB.out g ⟨o, s, he⟩ with h | h
        · exact HA.out g (by rw [hg]; exact HM.out) h
        · have := H.out.lt b HM.out; omega

/-- .. when nothing is there yet: new memory. -/
theorem EndsPost.gives {P : World → (Nat → Prop) → Prop} {b : Nat} {S : Nat → Prop} {os : List Int} {w : World} {e : Ending} {w' : World} (h : EndsPost P b S none os w e w') (hm : S b) (hl : ∀ d, S d → d < w.heap.size) : Gives P S os w e w' := by
  obtain ⟨A', m, c, he, hB, hN, hP, hO⟩ := h
  have hn : ∀ d, At A' d → w.heap.size ≤ d := fun d hd => (hN d hd).elim (fun ⟨_, _, h⟩ => by cases h) id
  refine ⟨A', m, c, S, he, hB, fun g o s hg => ⟨hn g ⟨o, s, hg⟩, fun hs => by have := hn g ⟨o, s, hg⟩; have := hl g hs; omega⟩, hP, hO.mono (fun d hd => ?_), fun d hd => .inl hd⟩
  rcases hd with rfl | ⟨_, _, h⟩
  · exact hm
  · cases h

set_option maxHeartbeats 1000000 in
theorem endp_any (b K : Nat) (l : List Int) (cut cut2 : Nat) (S : Nat → Prop) (os2 : List Int) (w : World) (h : Rc b K l (some (.int .i64 cut)) w S) (hcut : cut ≤ 1000000) (hll : l.length ≤ 1000000) (hc2 : cut + over K l = cut2) (ho2 : pEnd K l = os2) :
    Calls Try.prog 67 #[.pointer (some ⟨b, 0, none⟩)] w (Gives (Rc b K [] (some (.int .i64 cut2))) S os2 w) := by
  have H := Lib.hid h
  have c1 := h.held
  have hp := h.pos
  clear h
  go_enter Try.func67, Try.ntmps67
  cases l with
  | nil =>
    obtain rfl : cut = cut2 := by rw [← hc2, over_nil]; rfl
    obtain rfl : [] = os2 := by rw [← ho2]; simp [pEnd]
    go_wp2
    go_ret
    exact ⟨none, 0, 0, S, rfl, Buf.nil _, (fun g o s he => by cases he), H.out, Only.refl _ _, fun d hd => .inl hd⟩
  | cons z r =>
    have ho3 : [] ++ rcd K (z :: r) = os2 := by rw [← ho2]; simp [pEnd]
    have hz : (((z :: r).length : Int) == 0) = false := by simp; omega
    generalize z :: r = l at *
    go_wp2_with fail
    refine (endl_any b K l cut cut2 S none 0 0 [] os2 w H.out (Buf.nil w) (fun d _ ⟨_, _, h⟩ => by cases h) (by omega) hcut hll hc2 ho3).mono ?_
    rintro e w1 q1
    have G := Lib.hid (q1.gives H.out.mine H.out.lt)
    obtain ⟨A', m, c, S', rfl, _⟩ := G.out
    clear q1
    go_wp2
    go_ret
    exact G.out

end Go.Proofs.Ytghihmmapignmaa
