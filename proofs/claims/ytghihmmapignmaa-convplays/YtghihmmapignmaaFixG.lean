/- Contract of the Unpacker's Put. -/
import Derived.Test.YtghihmmapignmaaFixF
import Derived.WalkKit
import Derived.WalkSpells
import Derived.WalkLawsBesides
import Derived.Lib.Hide
import Derived.BigQuiet
import Derived.StillTailTactics
namespace Go.Proofs.Ytghihmmapignmaa
open Go.RowKit

/-- Where a Put stands. -/
structure UMid (w : World) (S : Nat → Prop) (b K : Nat) (x : Option Value) (l zs : List Int) (wr : World) (O : Option Addr) (m oc : Nat) (j : Nat) (l1 os1 : List Int) (S' : Nat → Prop) : Prop where
  obj : Rc b K l1 x wr S'
  only : Only S w wr
  grow : ∀ d, S' d → S d ∨ w.heap.size ≤ d
  out : Buf wr O m oc os1
  new : ∀ d, At O d → w.heap.size ≤ d ∧ ¬ S' d
  eo : os1 = uOut K l (zs.take j)
  el : l1 = uRest K l (zs.take j)
  lt : l1.length < K
  nm : m + l1.length ≤ l.length + 2 * j

theorem one_at {zs : List Int} {j : Nat} (h : j < zs.length) : (zs.drop j).take 1 = [zs.getD j 0] := by
  rw [List.drop_eq_getElem_cons h, List.getD_eq_getElem?_getD, List.getElem?_eq_getElem h]
  rfl

theorem UMid.go {w : World} {S : Nat → Prop} {b K : Nat} {x : Option Value} {l zs : List Int} {wr w2 : World} {O : Option Addr} {m oc j : Nat} {l1 os1 : List Int} {S' S2 : Nat → Prop} (M : UMid w S b K x l zs wr O m oc j l1 os1 S') (hj : j < zs.length) (hK : ¬ K ≤ l1.length + 1)
    (h : Rc b K (l1 ++ [zs.getD j 0]) x w2 S2) (ho : Only S' wr w2) (hs : ∀ d, S2 d → S' d ∨ wr.heap.size ≤ d) : UMid w S b K x l zs w2 O m oc (j + 1) (l1 ++ [zs.getD j 0]) os1 S2 := by
  refine ⟨h, M.only.trans ho (fun d hd hl => (M.grow d hd).elim id (fun h => by omega)), fun d hd => ?_, M.out.only ho (fun g o s he hg => (M.new g ⟨o, s, he⟩).2 hg), fun d hd => ⟨(M.new d hd).1, fun h2 => ?_⟩, ?_, ?_, by simp; omega, by have := M.nm; simp; omega⟩
  · rcases hs d hd with h3 | h3
    · exact M.grow d h3
    · right; have := M.only.size; omega
  · rcases hs d h2 with h3 | h3
    · exact (M.new d hd).2 h3
    · obtain ⟨o, s, he⟩ := hd; have := M.out.at d o s he; omega
  · rw [take_snoc j hj, uOut_one, ← M.el, if_neg hK, M.eo]
  · rw [take_snoc j hj, uRest_one, ← M.el, if_neg hK]
theorem UMid.full {w : World} {S : Nat → Prop} {b K : Nat} {x : Option Value} {l zs : List Int} {wr w2 w3 : World} {O O3 : Option Addr} {m oc j m3 oc3 : Nat} {l1 os1 os3 : List Int} {S' S2 : Nat → Prop} (M : UMid w S b K x l zs wr O m oc j l1 os1 S') (hj : j < zs.length) (hK : K ≤ l1.length + 1) (mine : S b)
    (ho : Only S' wr w2) (hs : ∀ d, S2 d → S' d ∨ wr.heap.size ≤ d) (h3 : Rc b K [] x w3 S2) (hB : Buf w3 O3 m3 oc3 os3) (e3 : os1 ++ lin (l1 ++ [zs.getD j 0]) = os3) (hO3 : ∀ d, At O3 d → At O d ∨ w2.heap.size ≤ d) (ho3 : Only (fun d => d = b ∨ At O d) w2 w3) (hl2 : ∀ d, S2 d → d < w2.heap.size) : UMid w S b K x l zs w3 O3 m3 oc3 (j + 1) [] os3 S2 := by
  subst e3
  have hm3 : m3 ≤ m + l1.length + 2 := by
    have h1 := hB.1; have h2 := M.out.1; have h4 := lin_le (l1 ++ [zs.getD j 0])
    rw [List.length_append] at h1
    simp only [List.length_append, List.length_singleton] at h4
    omega
  refine ⟨h3, ?_, ?_, hB, ?_, ?_, ?_, by have := h3.pos; simp; omega, by have := M.nm; simp; omega⟩
  · refine (M.only.trans ho (fun d hd hl => (M.grow d hd).elim id (fun h => by omega))).trans ho3 (fun d hd hl => ?_)
    rcases hd with rfl | hd
    · exact mine
    · have := (M.new d hd).1; omega
  · intro d hd
    rcases hs d hd with h | h
    · exact M.grow d h
    · right; have := M.only.size; omega
  · intro d hd
    rcases hO3 d hd with h | h
    · refine ⟨(M.new d h).1, fun h2 => ?_⟩
      rcases hs d h2 with h4 | h4
      · exact (M.new d h).2 h4
      · obtain ⟨o', s', he⟩ := h
        have := M.out.at d o' s' he
        omega
    · exact ⟨by have := M.only.size; have := ho.size; omega, fun h2 => by have := hl2 d h2; omega⟩
  · rw [take_snoc j hj, uOut_one, ← M.el, if_pos hK, M.eo]
  · rw [take_snoc j hj, uRest_one, ← M.el, if_pos hK]

set_option maxHeartbeats 4000000 in
theorem putu_any (b K : Nat) (l : List Int) (x : Option Value) (S : Nat → Prop) (A : Option Addr) (n c : Nat) (zs os l2 : List Int) (w : World) (h : Rc b K l x w S) (hB : Bytes w A n c zs) (hA : ∀ g o, A = some ⟨g, o, none⟩ → 0 < n → ¬ S g) (hl : l.length < K) (hn : n ≤ 300000)
    (ho : uOut K l zs = os) (hl2 : uRest K l zs = l2) :
    Calls Try.prog 74 #[.pointer (some ⟨b, 0, none⟩), .slice A n c] w (Gives (Rc b K l2 x) S os w) := by
  have hp := h.pos
  have M0 := Lib.hid (show UMid w S b K x l zs w none 0 0 0 l [] S from ⟨h, Only.refl _ _, fun d hd => .inl hd, Buf.nil w, (fun d ⟨_, _, he⟩ => by cases he), rfl, rfl, hl, by omega⟩)
  have HB := Lib.hid hB; have HA := Lib.hid hA; have HM := Lib.hid h.mine; have HO := Lib.hid ho; have HL := Lib.hid hl2
  have hzn := Lib.hid hB.1
  clear h hB hA ho hl2
  go_enter Try.func74, Try.ntmps74
  go_wp2
  go_loopw [5, 9] (fun vo i wr => ∃ (j : Nat) (O : Option Addr) (m oc : Nat) (l1 os1 : List Int) (S' : Nat → Prop), j ≤ n ∧ i = .int .i64 j ∧ vo = .slice O m oc ∧ Hid (UMid w S b K x l zs wr O m oc j l1 os1 S')) (fun _ i _ => n - (intOf i).toNat)
  case atStart => exact ⟨0, none, 0, 0, l, [], S, Nat.zero_le _, rfl, rfl, M0.out⟩
  case round =>
    clear M0
    obtain ⟨j, O, m, oc, l1, os1, S', hj, rfl, rfl, M⟩ := hrel
    by_cases hlt : j < n
    · obtain ⟨g, o, rfl, hg, _⟩ := HB.out.2.2.2 (by omega)
      have hgS := HA.out g o rfl (by omega)
      have hgS' := Lib.hid (show ¬ S' g from fun h => (M.out.grow g h).elim hgS (fun h => by omega))
      have hgb := Lib.hid (show g ≠ b from fun h => hgS (by rw [h]; exact HM.out))
      have HJ := Lib.hid (show j < zs.length by rw [hzn.out]; exact hlt)
      have hnc := HB.out.2.1
      have hcm : c ≤ 9223372036854775807 := by have := HB.out.2.2.1; unfold maxLen at this; omega
      have BW := Lib.hid (HB.out.only M.out.only (fun g' o' he hp => HA.out g' o' he hp))
      have j0 : (0 : Int) ≤ (j : Int) := by omega
      have j1 : (j : Int) ≤ (j : Int) + 1 := by omega
      have j2 : (j : Int) + 1 ≤ (c : Int) := by omega
      have j3 : (0 : Int) ≤ (j : Int) + 1 := by omega
      have j4 : ((j : Int) + 1).toNat = j + 1 := by omega
      have j5 : ¬ c = j := by omega
      have j6 : IntKind.i64.wrap ((j : Int) + 1) = (j : Int) + 1 := IntWalk.i64_in _ (by omega)
      clear hg hgS
      go_wp2
      go_still_tail 8, (by kernel_rfl)
      change wpList _ _ _ _ _ wr.drew
      generalize hWd : wr.drew = Wd at *
      have KD := Lib.hid (show Below wr.heap.size wr Wd by rw [← hWd]; exact (Below.refl _ _).drew)
      clear hWd
      have BD := Lib.hid (show Bytes Wd (some ⟨g, o + j, none⟩) 1 (c - j) [zs.getD j 0] by have := (BW.out.on KD.out).piece j 1 (by omega); rwa [one_at HJ.out] at this)
      have RD := Lib.hid (M.out.obj.on KD.out)
      have hlk : l1.length + 1 ≤ 1000000 := by have := M.out.lt; omega
      go_wp2_with fail
      refine (hold_any b K l1 x S' (some ⟨g, o + j, none⟩) 1 (c - j) [zs.getD j 0] Wd RD.out BD.out (fun h => by cases h) (fun g' o' he _ hg => hgb.out (by injection he with he; injection he with e1; rw [e1]; exact hg)) hlk).mono ?_
      rintro e w2 ⟨v, S2, rfl, q1, q2, q3⟩
      have Q1 := Lib.hid q1
      have O2 := Lib.hid (show Only S' wr w2 from (Only.of_below KD.out).trans q2 (fun d h _ => h))
      have G2 := Lib.hid (show ∀ d, S2 d → S' d ∨ wr.heap.size ≤ d from fun d hd => (q3 d hd).imp id (fun h => Nat.le_trans KD.out.size h))
      clear q1 q2 q3 RD BD BW KD
      have c0 := Q1.out.cbs; have c1 := Q1.out.held
      rw [List.length_append, List.length_singleton] at c1
      by_cases hK : K ≤ l1.length + 1
      · have hK2 : decide ((K : Int) ≤ ((l1.length + 1 : Nat) : Int)) = true := by simp; omega
        have hK3 : (K : Int) ≤ (l1.length : Int) + 1 := by omega
        go_wp2
        go_quiet (fail)
        generalize hW3 : w2.drewN nq = W3 at *
        have K3 := Lib.hid (show Below w2.heap.size w2 W3 by rw [← hW3]; exact below_drewN (Below.refl _ _) _)
        clear hW3 c0 c1
        have R3 := Lib.hid (Q1.out.on K3.out)
        have O3 := Lib.hid (show Only S' wr W3 from O2.out.trans (T := fun _ => False) (Only.of_below K3.out) (fun d h _ => h.elim))
        have B3 := Lib.hid (M.out.out.only O3.out (fun g o s he hg => (M.out.new g ⟨o, s, he⟩).2 hg))
        have A3 := Lib.hid (show ∀ d, S2 d → ¬ At O d from fun d hd ha => by
          rcases G2.out d hd with h | h
          · exact (M.out.new d ha).2 h
          · obtain ⟨o', s', he⟩ := ha
            have := M.out.out.at d o' s' he
            omega)
        obtain ⟨l3, hl3⟩ : ∃ l3, l1 ++ [zs.getD j 0] = l3 := ⟨_, rfl⟩
        obtain ⟨os3, ho3⟩ : ∃ os3, os1 ++ lin l3 = os3 := ⟨_, rfl⟩
        have HO3 := Lib.hid ho3; have HL3 := Lib.hid hl3
        rw [hl3] at R3
        have e3 : l3.length = l1.length + 1 := by rw [← hl3]; simp
        have hlK : l3.length ≤ K := by have := M.out.lt; omega
        have hl0 : 0 < l3.length := by omega
        have hmn : m + l3.length + 1 ≤ 1000000 := by have := M.out.nm; omega
        clear ho3 hl3 Q1
        go_wp2_with fail
        refine (endr_any b K l3 x S2 O m oc os1 os3 W3 R3.out B3.out A3.out hlK hl0 hmn HO3.out).mono ?_
        rintro e w4 ⟨O4, m4, oc4, rfl, q1, q2, q3, q4⟩
        have MF := Lib.hid (M.out.full HJ.out hK HM.out O3.out G2.out q3 q1 (by rw [HL3.out]; exact HO3.out) q2 q4 R3.out.lt)
        clear q1 q2 q3 q4
        go_wp2
        go_roundw
        case rel => exact ⟨j + 1, O4, m4, oc4, [], os3, S2, by omega, by go_num, rfl, MF.out⟩
        case measure => simp [intOf]; omega
      · have hK2 : decide ((K : Int) ≤ ((l1.length + 1 : Nat) : Int)) = false := by simp; omega
        have hK3 : ¬ (K : Int) ≤ (l1.length : Int) + 1 := by omega
        have hK4 : (l1.length : Int) + 1 < (K : Int) := by omega
        go_wp2
        go_quiet (fail)
        generalize hW3 : w2.drewN nq = W3 at *
        have K3 := Lib.hid (show Below w2.heap.size w2 W3 by rw [← hW3]; exact below_drewN (Below.refl _ _) _)
        clear hW3 c0 c1
        have MF := Lib.hid (M.out.go HJ.out hK (Q1.out.on K3.out) (O2.out.trans (T := fun _ => False) (Only.of_below K3.out) (fun d h _ => h.elim)) G2.out)
        go_wp2
        go_roundw
        case rel => exact ⟨j + 1, O, m, oc, _, os1, S2, by omega, by go_num, rfl, MF.out⟩
        case measure => simp [intOf]; omega
    · have hjn : j = n := by omega
      have HT := Lib.hid (show zs.take j = zs by rw [hjn, ← hzn.out]; exact List.take_length)
      go_wp2
      go_ret
      have e1 := M.out.eo; have e2 := M.out.el
      rw [HT.out, HO.out] at e1
      rw [HT.out, HL.out] at e2
      subst e1 e2
      exact ⟨O, m, oc, S', rfl, M.out.out, fun g o s he => M.out.new g ⟨o, s, he⟩, M.out.obj, M.out.only, M.out.grow⟩

end Go.Proofs.Ytghihmmapignmaa
