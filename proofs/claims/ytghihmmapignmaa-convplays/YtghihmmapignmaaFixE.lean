/- Contract of the Packer's Put. -/
import Derived.Test.YtghihmmapignmaaFixD
import Derived.WalkKit
import Derived.WalkSpells
import Derived.WalkLawsBesides
import Derived.Lib.Hide
import Derived.BigQuiet
import Derived.StillTailTactics
namespace Go.Proofs.Ytghihmmapignmaa
open Go.RowKit

def slen : Value → Nat
  | .slice _ n _ => n
  | _ => 0

/-- Where a Put stands: what is still to come, what came out, the object. -/
structure Mid (w : World) (S : Nat → Prop) (b K : Nat) (os l2 : List Int) (cut2 : Nat) (wr : World) (B : Option Addr) (bn bc : Nat) (O : Option Addr) (m oc : Nat) (zr lr os1 : List Int) (cr : Nat) (S' : Nat → Prop) : Prop where
  src : Bytes wr B bn bc zr
  nil : B = none → bn = 0 ∧ bc = 0
  away : ∀ g o, B = some ⟨g, o, none⟩ → 0 < bn → ¬ S g ∧ g < w.heap.size
  are : Are zr
  obj : Rc b K lr (some (.int .i64 cr)) wr S'
  only : Only S w wr
  grow : ∀ d, S' d → S d ∨ w.heap.size ≤ d
  out : Buf wr O m oc os1
  new : ∀ d, At O d → w.heap.size ≤ d ∧ ¬ S' d
  eo : os1 ++ pOut K lr zr = os
  el : pLine lr zr = l2
  ec : cr + pCut K lr zr = cut2
  nl : lr.length + bn ≤ 1000000
  nm : m + K * bn ≤ 900000
  nc : cr + bn ≤ 1000000
  mine : S b

theorem Mid.fin {w : World} {S : Nat → Prop} {b K : Nat} {os l2 : List Int} {cut2 : Nat} {wr w2 : World} {B : Option Addr} {bn bc : Nat} {O : Option Addr} {m oc : Nat} {zr lr os1 : List Int} {cr : Nat} {S' S2 : Nat → Prop} (M : Mid w S b K os l2 cut2 wr B bn bc O m oc zr lr os1 cr S')
    (hz : ∀ z ∈ zr, z ≠ 10) (h : Rc b K (lr ++ zr) (some (.int .i64 cr)) w2 S2) (ho : Only S' wr w2) (hs : ∀ d, S2 d → S' d ∨ wr.heap.size ≤ d) : Gives (Rc b K l2 (some (.int .i64 cut2))) S os w (.returned (.slice O m oc)) w2 := by
  have hp := p_none K zr lr hz
  have e1 := M.eo; have e2 := M.el; have e3 := M.ec
  rw [hp.1, List.append_nil] at e1
  rw [hp.2.1] at e2
  rw [hp.2.2, Nat.add_zero] at e3
  subst e1 e2 e3
  refine ⟨O, m, oc, S2, rfl, M.out.only ho (fun g o s he hg => (M.new g ⟨o, s, he⟩).2 hg), fun g o s he => ⟨(M.new g ⟨o, s, he⟩).1, fun h2 => ?_⟩, h, M.only.trans ho (fun d hd hl => (M.grow d hd).elim id (fun h => by omega)), fun d hd => ?_⟩
  · rcases hs g h2 with h3 | h3
    · exact (M.new g ⟨o, s, he⟩).2 h3
    · have := M.out.at g o s he; omega
  · rcases hs d hd with h3 | h3
    · exact M.grow d h3
    · right; have := M.only.size; omega

theorem Mid.step {w : World} {S : Nat → Prop} {b K : Nat} {os l2 : List Int} {cut2 : Nat} {wr w2 w3 : World} {g o bn bc : Nat} {O O3 : Option Addr} {m oc m3 oc3 : Nat} {zr lr os1 : List Int} {cr : Nat} {S' S2 : Nat → Prop} (M : Mid w S b K os l2 cut2 wr (some ⟨g, o, none⟩) bn bc O m oc zr lr os1 cr S')
    (k : Nat) (hk : k < zr.length) (hz : zr = zr.take k ++ 10 :: zr.drop (k + 1)) (hn : ∀ z ∈ zr.take k, z ≠ 10) (ho : Only S' wr w2) (hs : ∀ d, S2 d → S' d ∨ wr.heap.size ≤ d) (cr3 : Nat) (hc3 : cr + over K (lr ++ zr.take k) = cr3)
    (h3 : Rc b K [] (some (.int .i64 cr3)) w3 S2) (hm : S' b) (hB : Buf w3 O3 m3 oc3 (os1 ++ rcd K (lr ++ zr.take k))) (hO3 : ∀ d, At O3 d → At O d ∨ w2.heap.size ≤ d) (ho3 : Only (fun d => d = b ∨ At O d) w2 w3) (hl2 : ∀ d, S2 d → d < w2.heap.size)
    (B' : Option Addr) (hB' : B' = some ⟨g, o + (k + 1), none⟩ ∨ (bc = k + 1 ∧ B' = some ⟨g, o, none⟩)) : Mid w S b K os l2 cut2 w3 B' (bn - (k + 1)) (bc - (k + 1)) O3 m3 oc3 (zr.drop (k + 1)) [] (os1 ++ rcd K (lr ++ zr.take k)) cr3 S2 := by
  have hbn := M.src.1
  have hp := p_some K (zr.take k) (zr.drop (k + 1)) lr hn
  rw [← hz] at hp
  have hg := M.away g o rfl (by omega)
  have hgS' : ¬ S' g := fun h => (M.grow g h).elim hg.1 (fun h => by have := hg.2; omega)
  have hgO : ¬ At O g := fun h => by have := (M.new g h).1; have := hg.2; omega
  have hgb : g ≠ b := fun h => hg.1 (by rw [h]; exact M.mine)
  have s2 := M.src.only ho (fun g' o' he _ => by injection he with he; injection he with e1; rw [← e1]; exact hgS')
  have s3 := s2.only ho3 (fun g' o' he _ => by injection he with he; injection he with e1; rw [← e1]; rintro (h | h); exact hgb h; exact hgO h)
  have hm3 : m3 = m + K := by have h1 := hB.1; have h2 := M.out.1; rw [List.length_append, rcd_len] at h1; omega
  have hmul : K * bn = K * (bn - (k + 1)) + K * (k + 1) := by rw [← Nat.mul_add]; congr 1; omega
  have hK := h3.pos
  have hKk : K ≤ K * (k + 1) := Nat.le_mul_of_pos_right K (by omega)
  have hov := over_le K (lr ++ zr.take k)
  refine ⟨s3.behind (k + 1) (by omega) B' hB', ?_, ?_, M.are.drop _, h3, ?_, ?_, hB, ?_, ?_, ?_, ?_, ?_, ?_, ?_, M.mine⟩
  · intro h; rcases hB' with h1 | ⟨_, h1⟩ <;> · rw [h1] at h; cases h
  · intro g' o' he _
    have : g' = g := by rcases hB' with h1 | ⟨_, h1⟩ <;> · rw [h1] at he; injection he with he; injection he with e1; exact e1.symm
    rw [this]; exact hg
  · refine (M.only.trans ho (fun d hd hl => (M.grow d hd).elim id (fun h => by omega))).trans ho3 (fun d hd hl => ?_)
    rcases hd with rfl | hd
    · exact M.mine
    · have := (M.new d hd).1; omega
  · intro d hd
    rcases hs d hd with h | h
    · exact M.grow d h
    · right; have := M.only.size; omega
  · intro d hd
    rcases hO3 d hd with h | h
    · refine ⟨(M.new d h).1, fun h2 => ?_⟩
      rcases hs d h2 with h4 | h4
      · exact (M.new d h).2 h4
      · obtain ⟨o', s', he⟩ := h
        have := M.out.at d o' s' he
        omega
    · exact ⟨by have := M.only.size; have := ho.size; omega, fun h2 => by have := hl2 d h2; omega⟩
  · rw [List.append_assoc, ← hp.1]; exact M.eo
  · rw [← hp.2.1]; exact M.el
  · rw [← hc3, Nat.add_assoc, ← hp.2.2]; exact M.ec
  · have := M.nl; simp; omega
  · have := M.nm; omega
  · have := M.nc; omega

set_option maxHeartbeats 4000000 in
theorem putp_any (b K : Nat) (l : List Int) (cut : Nat) (S : Nat → Prop) (A : Option Addr) (n c : Nat) (zs os l2 : List Int) (cut2 : Nat) (w : World) (h : Rc b K l (some (.int .i64 cut)) w S) (hB : Bytes w A n c zs) (hN : A = none → n = 0 ∧ c = 0) (hA : ∀ g o, A = some ⟨g, o, none⟩ → 0 < n → ¬ S g) (hare : Are zs) (hl : l.length + n ≤ 1000000) (hK : K * n ≤ 900000) (hcut : cut + n ≤ 1000000)
    (ho : pOut K l zs = os) (hl2 : pLine l zs = l2) (hc2 : cut + pCut K l zs = cut2) :
    Calls Try.prog 73 #[.pointer (some ⟨b, 0, none⟩), .slice A n c] w (Gives (Rc b K l2 (some (.int .i64 cut2))) S os w) := by
  have M0 := Lib.hid (show Mid w S b K os l2 cut2 w A n c none 0 0 zs l [] cut S from ⟨hB, hN, fun g o he hp => ⟨hA g o he hp, hB.at g o he hp⟩, hare, h, Only.refl _ _, fun d hd => .inl hd, Buf.nil w, (fun d ⟨_, _, he⟩ => by cases he), ho, hl2, hc2, hl, by omega, hcut, h.mine⟩)
  clear h hB hN hA hare hl hK hcut ho hl2 hc2
  go_enter Try.func73, Try.ntmps73
  go_wp2
  go_loopw [1, 5] (fun vb vo wr => ∃ (B : Option Addr) (bn bc : Nat) (O : Option Addr) (m oc : Nat) (zr lr os1 : List Int) (cr : Nat) (S' : Nat → Prop), vb = .slice B bn bc ∧ vo = .slice O m oc ∧ Hid (Mid w S b K os l2 cut2 wr B bn bc O m oc zr lr os1 cr S')) (fun vb _ _ => slen vb)
  case atStart => exact ⟨A, n, c, none, 0, 0, zs, l, [], cut, S, rfl, rfl, M0.out⟩
  case round =>
    clear M0
    obtain ⟨B, bn, bc, O, m, oc, zr, lr, os1, cr, S', rfl, rfl, M⟩ := hrel
    rcases index_is zr M.out.are with ⟨hi, hz⟩ | ⟨k, hi, hk, hz, hn⟩
    · go_wp2_with fail
      refine (index_any B bn bc zr wr M.out.src (-1) hi).mono ?_
      rintro e w1 ⟨rfl, rfl⟩
      have HZ := Lib.hid hz
      clear hz hi
      go_wp2_with fail
      refine (hold_any b K lr _ S' B bn bc zr wr M.out.obj M.out.src M.out.nil (fun g o he hp hg => (M.out.away g o he hp).1 (by rw [hg]; exact M.out.mine)) M.out.nl).mono ?_
      rintro e w2 ⟨v, S2, rfl, q1, q2, q3⟩
      have G := Lib.hid (M.out.fin HZ.out q1 q2 q3)
      clear q1 q2 q3
      go_wp2
      go_ret
      exact G.out
    · have hbn := M.out.src.1
      obtain ⟨g, o, rfl, _, _⟩ := M.out.src.2.2.2 (by omega)
      have hnc := M.out.src.2.1
      have hcm : bc ≤ 9223372036854775807 := by have := M.out.src.2.2.1; unfold maxLen at this; omega
      have HZ := Lib.hid hz; have HN := Lib.hid hn
      clear hz hn
      have hkb : k < bn := by omega
      have k0 : (0 : Int) ≤ (k : Int) := by omega
      have k1 : (k : Int) ≤ (bc : Int) := by omega
      have k2 : ¬ (k : Int) < 0 := by omega
      go_wp2_with fail
      refine (index_any (some ⟨g, o, none⟩) bn bc zr wr M.out.src k hi).mono ?_
      rintro e w1 ⟨rfl, rfl⟩
      clear hi
      go_wp2
      go_still_tail 6, (by kernel_rfl)
      change wpList _ _ _ _ _ wr.drew
      generalize hWd : wr.drew = Wd at *
      have KD := Lib.hid (show Below wr.heap.size wr Wd by rw [← hWd]; exact (Below.refl _ _).drew)
      clear hWd
      have BD := Lib.hid ((M.out.src.on KD.out).firsts k (by omega))
      have RD := Lib.hid (M.out.obj.on KD.out)
      have hlk : lr.length + k ≤ 1000000 := by have := M.out.nl; omega
      go_wp2_with fail
      refine (hold_any b K lr _ S' (some ⟨g, o, none⟩) k bc (zr.take k) Wd RD.out BD.out (fun h => by cases h) (fun g' o' he hp hg => (M.out.away g' o' he (by omega)).1 (by rw [hg]; exact M.out.mine)) hlk).mono ?_
      rintro e w2 ⟨v, S2, rfl, q1, q2, q3⟩
      have Q1 := Lib.hid q1
      have O2 := Lib.hid (show Only S' wr w2 from (Only.of_below KD.out).trans q2 (fun d h _ => h))
      have G2 := Lib.hid (show ∀ d, S2 d → S' d ∨ wr.heap.size ≤ d from fun d hd => (q3 d hd).imp id (fun h => Nat.le_trans KD.out.size h))
      clear q1 q2 q3
      have B2 := Lib.hid (M.out.out.only O2.out (fun g o s he hg => (M.out.new g ⟨o, s, he⟩).2 hg))
      have A2 := Lib.hid (show ∀ d, S2 d → ¬ At O d from fun d hd ha => by
        rcases G2.out d hd with h | h
        · exact (M.out.new d ha).2 h
        · obtain ⟨o', s', he⟩ := ha
          have := M.out.out.at d o' s' he
          omega)
      obtain ⟨l3, hl3⟩ : ∃ l3, lr ++ zr.take k = l3 := ⟨_, rfl⟩
      obtain ⟨cr3, hc3⟩ : ∃ cr3, cr + over K l3 = cr3 := ⟨_, rfl⟩
      obtain ⟨os3, ho3⟩ : ∃ os3, os1 ++ rcd K l3 = os3 := ⟨_, rfl⟩
      have HC3 := Lib.hid hc3; have HO3 := Lib.hid ho3; have HL3 := Lib.hid hl3
      rw [hl3] at Q1
      clear hc3 ho3 hl3
      have hmK : m + K ≤ 1000000 := by have := M.out.obj.pos; have := M.out.nm; omega
      have hcr : cr ≤ 1000000 := by have := M.out.nc; omega
      have hl31 : l3.length ≤ 1000000 := by rw [← HL3.out]; simp; omega
      go_wp2_with fail
      refine (endl_any b K l3 cr cr3 S2 O m oc os1 os3 w2 Q1.out B2.out A2.out hmK hcr hl31 HC3.out HO3.out).mono ?_
      rintro e w3 ⟨O3, m3, oc3, rfl, q1, q2, q3, q4⟩
      have ST := Lib.hid (fun (B' : Option Addr) (hB' : B' = some ⟨g, o + (k + 1), none⟩ ∨ (bc = k + 1 ∧ B' = some ⟨g, o, none⟩)) => M.out.step k hk HZ.out HN.out O2.out G2.out cr3 (by rw [HL3.out]; exact HC3.out) q3 M.out.obj.mine (by rw [HL3.out, HO3.out]; exact q1) q2 q4 Q1.out.lt B' hB')
      clear q1 q2 q3 q4 Q1 B2 A2 RD BD
      have i1 : (0 : Int) ≤ (k : Int) + 1 := by omega
      have i2 : (k : Int) + 1 ≤ (bn : Int) := by omega
      have i3 : ((k : Int) + 1).toNat = k + 1 := by omega
      by_cases hbk : bc = k + 1
      · have hbn2 : bn = k + 1 := by omega
        have FI := Lib.hid (ST.out (some ⟨g, o, none⟩) (.inr ⟨hbk, rfl⟩))
        clear ST
        go_wp2
        go_roundw
        case rel => exact ⟨_, _, _, O3, m3, oc3, _, _, _, cr3, S2, rfl, rfl, by have := FI.out; rwa [show bn - (k + 1) = 0 by omega, show bc - (k + 1) = 0 by omega] at this⟩
        case measure => simp [slen]; omega
      · have FI := Lib.hid (ST.out (some ⟨g, o + (k + 1), none⟩) (.inl rfl))
        clear ST
        go_wp2
        go_roundw
        case rel => exact ⟨_, _, _, O3, m3, oc3, _, _, _, cr3, S2, rfl, rfl, FI.out⟩
        case measure => simp [slen]; omega

end Go.Proofs.Ytghihmmapignmaa
