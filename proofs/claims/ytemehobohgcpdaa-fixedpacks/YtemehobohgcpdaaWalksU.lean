/- Contract of the reference's Put of the Packer. -/
import Derived.Test.YtemehobohgcpdaaWalksT
import Derived.WalkKit
import Derived.WalkSpells
import Derived.WalkLawsBesides
import Derived.Lib.Hide
import Derived.BigQuiet
import Derived.Deep.RegionLaw
namespace Go.Proofs.Ytemehobohgcpdaa
open Go.RowKit

/-- Where the reference's Put stands. -/
structure RMid (w : World) (S : Nat → Prop) (b K : Nat) (cut : Nat) (l zs : List Int) (wr : World) (O : Option Addr) (m oc : Nat) (j : Nat) (l1 os1 : List Int) (cr : Nat) (S' : Nat → Prop) : Prop where
  obj : Rp b K cr l1 wr S'
  only : Only S w wr
  grow : ∀ d, S' d → S d ∨ w.heap.size ≤ d
  out : Buf wr O m oc os1
  new : ∀ d, At O d → w.heap.size ≤ d ∧ ¬ S' d
  eo : os1 = pOut K l (zs.take j)
  el : l1 = pLine l (zs.take j)
  ec : cr = cut + pCut K l (zs.take j)

theorem RMid.go {w : World} {S : Nat → Prop} {b K cut : Nat} {l zs : List Int} {wr w2 : World} {O : Option Addr} {m oc j : Nat} {l1 os1 : List Int} {cr : Nat} {S' S2 : Nat → Prop} (M : RMid w S b K cut l zs wr O m oc j l1 os1 cr S') (hj : j < zs.length) (hz : ¬ zs.getD j 0 = 10)
    (h : Rp b K cr (l1 ++ [zs.getD j 0]) w2 S2) (ho : Only S' wr w2) (hs : ∀ d, S2 d → S' d ∨ wr.heap.size ≤ d) : RMid w S b K cut l zs w2 O m oc (j + 1) (l1 ++ [zs.getD j 0]) os1 cr S2 := by
  refine ⟨h, M.only.trans ho (fun d hd hl => (M.grow d hd).elim id (fun h => by omega)), fun d hd => ?_, M.out.only ho (fun g o s he hg => (M.new g ⟨o, s, he⟩).2 hg), fun d hd => ⟨(M.new d hd).1, fun h2 => ?_⟩, ?_, ?_, ?_⟩
  · rcases hs d hd with h3 | h3
    · exact M.grow d h3
    · right; have := M.only.size; omega
  · rcases hs d h2 with h3 | h3
    · exact (M.new d hd).2 h3
    · obtain ⟨o, s, he⟩ := hd; have := M.out.at d o s he; omega
  · rw [take_snoc j hj, pOut_one, if_neg hz]; exact M.eo
  · rw [take_snoc j hj, pLine_one, if_neg hz, M.el]
  · rw [take_snoc j hj, pCut_one, if_neg hz]; exact M.ec
theorem RMid.full {w : World} {S : Nat → Prop} {b K cut : Nat} {l zs : List Int} {wr w2 w3 : World} {O O3 : Option Addr} {m oc j m3 oc3 : Nat} {l1 os1 : List Int} {cr cr2 : Nat} {S' S2 : Nat → Prop} (M : RMid w S b K cut l zs wr O m oc j l1 os1 cr S') (hj : j < zs.length) (hz : zs.getD j 0 = 10)
    (hc : cr + over K l1 = cr2) (ho : Only S' wr w2) (hs : ∀ d, S2 d → S' d ∨ wr.heap.size ≤ d) (h2 : Rp b K cr2 [] w2 S2) (hB : Buf w3 O3 m3 oc3 (os1 ++ rcd K l1)) (q2 : Only (fun d => ∃ o s, O = some ⟨d, o, s⟩) w2 w3) (q3 : O3 = O ∨ O3 = some ⟨w2.heap.size, 0, none⟩) :
    RMid w S b K cut l zs w3 O3 m3 oc3 (j + 1) [] (os1 ++ rcd K l1) cr2 S2 := by
  have hS2 : ∀ d, S2 d → ¬ At O d := fun d hd ha => by
    rcases hs d hd with h | h
    · exact (M.new d ha).2 h
    · obtain ⟨o', s', he⟩ := ha; have := M.out.at d o' s' he; omega
  refine ⟨h2.only q2 (fun d hd ht => hS2 d hd ht), ?_, fun d hd => ?_, hB, fun d hd => ?_, ?_, ?_, ?_⟩
  · exact (M.only.trans ho (fun d hd hl => (M.grow d hd).elim id (fun h => by omega))).trans q2 (fun d hd hl => by have := (M.new d hd).1; omega)
  · rcases hs d hd with h3 | h3
    · exact M.grow d h3
    · right; have := M.only.size; omega
  · rcases q3 with rfl | rfl
    · exact ⟨(M.new d hd).1, fun h => hS2 d h hd⟩
    · obtain ⟨o, s, he⟩ := hd
      injection he with he; injection he with he
      exact ⟨by have := M.only.size; have := ho.size; omega, fun h => by have := h2.lt d h; omega⟩
  · rw [take_snoc j hj, pOut_one, if_pos hz, ← M.el, ← M.eo]
  · rw [take_snoc j hj, pLine_one, if_pos hz]
  · rw [take_snoc j hj, pCut_one, if_pos hz, ← M.el, ← hc, M.ec]; omega

theorem rhold_step {b K : Nat} {ct : Int} {l ys : List Int} {S : Nat → Prop} {W w5 : World} {A A5 : Option Addr} {m c n5 c5 : Nat} (h : Rp b K ct l W S) (c2 : W.cell? ⟨b, 2, none⟩ = some (.slice A m c)) (hA : ∀ g o s, A = some ⟨g, o, s⟩ → S g ∧ g ≠ b)
    (q1 : Buf w5 A5 n5 c5 ys) (q2 : Only (fun d => ∃ o s, A = some ⟨d, o, s⟩) W w5) (q3 : A5 = A ∨ A5 = some ⟨W.heap.size, 0, none⟩) :
    w5.cell? ⟨b, 2, none⟩ = some (.slice A m c) ∧ w5.frozen? ⟨b, 2, none⟩ = false ∧ ∃ S', Rp b K ct ys (w5.setCell ⟨b, 2, none⟩ (.slice A5 n5 c5)) S' ∧ Only S W (w5.setCell ⟨b, 2, none⟩ (.slice A5 n5 c5)) ∧ ∀ d, S' d → S d ∨ W.heap.size ≤ d := by
  have hb := h.lt b h.mine
  have hn : ¬ ∃ o s, A = some ⟨b, o, s⟩ := fun ⟨o, s, he⟩ => (hA b o s he).2 rfl
  have d2 := (q2.cell (p := ⟨b, 2, none⟩) hb hn).trans c2
  have g2 := (q2.frozen (p := ⟨b, 2, none⟩) hb hn).trans h.f2
  have ho1 : Only (fun d => d = b) w5 (w5.setCell ⟨b, 2, none⟩ (.slice A5 n5 c5)) := (Only.refl (fun d => d = b) w5).setCell ⟨b, 2, none⟩ (fun _ => rfl) _
  have ho : Only S W (w5.setCell ⟨b, 2, none⟩ (.slice A5 n5 c5)) := (q2.mono (fun d ⟨o, s, he⟩ => (hA d o s he).1)).trans ho1 (fun d hd _ => by rw [hd]; exact h.mine)
  have h5 : ∀ g o s, A5 = some ⟨g, o, s⟩ → g ≠ b := by
    intro g o s he
    rcases q3 with rfl | rfl
    · exact (hA g o s he).2
    · injection he with he; injection he with he; omega
  refine ⟨d2, g2, fun d => S d ∨ ∃ o s, A5 = some ⟨d, o, s⟩, ⟨.inl h.mine, ?_, ?_, ?_, ⟨A5, n5, c5, World.cell?_setCell_same _ _ _ d2, q1.only ho1 h5, fun g o s he => ⟨.inr ⟨o, s, he⟩, h5 g o s he⟩⟩, ?_, ?_⟩, ho, ?_⟩
  · rintro d (hd | ⟨o, s, he⟩)
    · exact Nat.lt_of_lt_of_le (h.lt d hd) ho.size
    · exact Nat.lt_of_lt_of_le (q1.at d o s he) ho1.size
  · rw [World.cell?_setCell_other _ _ _ _ (by simp)]; exact (q2.cell (p := ⟨b, 0, none⟩) hb hn).trans h.cbs
  · rw [World.cell?_setCell_other _ _ _ _ (by simp)]; exact (q2.cell (p := ⟨b, 1, none⟩) hb hn).trans h.cut
  · simpa using (q2.frozen (p := ⟨b, 1, none⟩) hb hn).trans h.f1
  · simpa using g2
  · rintro d (hd | ⟨o, s, he⟩)
    · exact .inl hd
    · rcases q3 with rfl | rfl
      · exact .inl (hA d o s he).1
      · right; injection he with he; injection he with he; omega

set_option maxHeartbeats 4000000 in
theorem rputp_any (b K : Nat) (l : List Int) (cut : Nat) (S : Nat → Prop) (A : Option Addr) (n c : Nat) (zs os l2 : List Int) (cut2 : Nat) (w : World) (h : Rp b K cut l w S) (hK1 : 1 ≤ K ∧ K ≤ 4096) (hB : Bytes w A n c zs) (hA : ∀ g o, A = some ⟨g, o, none⟩ → 0 < n → ¬ S g) (hl : l.length + n ≤ 1000000) (hK : K * n ≤ 900000) (hcut : cut + n ≤ 1000000)
    (ho : pOut K l zs = os) (hl2 : pLine l zs = l2) (hc2 : cut + pCut K l zs = cut2) :
    Calls Try.prog 19 #[.pointer (some ⟨b, 0, none⟩), .slice A n c] w (Gives (Rp b K cut2 l2) S os w) := by
  have M0 := Lib.hid (show RMid w S b K cut l zs w none 0 0 0 l [] cut S from ⟨h, Only.refl _ _, fun d hd => .inl hd, Buf.nil w, (fun d ⟨_, _, he⟩ => by cases he), rfl, rfl, rfl⟩)
  have HB := Lib.hid hB; have HA := Lib.hid hA; have HM := Lib.hid h.mine; have HO := Lib.hid ho; have HL := Lib.hid hl2; have HC := Lib.hid hc2; have HK := Lib.hid hK
  have hzn := Lib.hid hB.1
  clear h hB hA ho hl2 hc2 hK
  go_enter Try.func19, Try.ntmps19
  go_wp2
  go_loopw [5, 6] (fun vo i wr => ∃ (j : Nat) (O : Option Addr) (m oc : Nat) (l1 os1 : List Int) (cr : Nat) (S' : Nat → Prop), j ≤ n ∧ i = .int .i64 j ∧ vo = .slice O m oc ∧ Hid (RMid w S b K cut l zs wr O m oc j l1 os1 cr S')) (fun _ i _ => n - (intOf i).toNat)
  case atStart => exact ⟨0, none, 0, 0, l, [], cut, S, Nat.zero_le _, rfl, rfl, M0.out⟩
  case round =>
    clear M0
    obtain ⟨j, O, m, oc, l1, os1, cr, S', hj, rfl, rfl, M⟩ := hrel
    have htl : (zs.take j).length ≤ n := by rw [List.length_take, hzn.out]; omega
    have hl1 : l1.length ≤ l.length + j := by have := pLine_le (zs.take j) l; rw [← M.out.el, List.length_take] at this; omega
    have hcr : cr ≤ 1000000 := by have := pCut_le K (zs.take j) l; have := M.out.ec; omega
    by_cases hlt : j < n
    · obtain ⟨g, o, rfl, hg, hcell⟩ := HB.out.2.2.2 (by omega)
      have hgS := HA.out g o rfl (by omega)
      have cz := (M.out.only.cell (p := ⟨g, o + j, none⟩) hg hgS).trans (hcell j hlt)
      have HJ := Lib.hid (show j < zs.length by rw [hzn.out]; exact hlt)
      have hml : m ≤ K * j := by
        have h1 := M.out.out.1
        have h2 := pOut_le K (zs.take j) l
        rw [← M.out.eo, h1, List.length_take, Nat.min_eq_left (by rw [hzn.out]; omega)] at h2
        exact h2
      have hmK : m + K ≤ 1000000 := by
        have h3 : K * j + K ≤ K * n := by rw [← Nat.mul_succ]; exact Nat.mul_le_mul_left K hlt
        have := HK.out
        omega
      clear hcell hg hgS hml htl
      by_cases hz : zs.getD j 0 = 10
      · rw [hz] at cz
        obtain ⟨cr2, hcr2⟩ : ∃ cr2, cr + over K l1 = cr2 := ⟨_, rfl⟩
        obtain ⟨rc, hrc⟩ : ∃ rc, rcd K l1 = rc := ⟨_, rfl⟩
        have HZ := Lib.hid hz; have HC2 := Lib.hid hcr2; have HRC := Lib.hid hrc
        have hrl : rc.length = K := by rw [← hrc, rcd_len]
        clear hz hcr2 hrc
        go_wp2_with fail
        refine (rrec_any b K l1 cr cr2 S' rc wr M.out.obj hK1 hcr (by omega) HC2.out HRC.out).mono ?_
        rintro e w2 ⟨A2, m2, cc2, S2, rfl, q1, q2, q3, q4, q5⟩
        obtain rfl : m2 = K := by have := q1.1; omega
        have Q1 := Lib.hid q1; have Q3 := Lib.hid q3; have Q4 := Lib.hid q4; have Q5 := Lib.hid q5
        have B2 := Lib.hid (M.out.out.only q4 (fun g o s he hg => (M.out.new g ⟨o, s, he⟩).2 hg))
        clear q1 q2 q3 q4 q5
        go_wp2_with (at_builtin; refine append_buf rfl _ _ rfl B2.out rfl Q1.out.bytes.1 Q1.out.bytes.2 rfl hmK ?_; intro A5 c5 w5 q1 q2 q3; have MF := Lib.hid (M.out.full HJ.out HZ.out HC2.out Q4.out Q5.out Q3.out (by rw [HRC.out]; exact q1) q2 q3); clear q1 q2 q3)
        go_roundw
        case rel => exact ⟨j + 1, A5, _, c5, [], _, cr2, S2, by omega, by go_num, rfl, MF.out⟩
        case measure => simp [intOf]; omega
      · obtain ⟨A0, n0, c0, e2, hB0, hA0⟩ := M.out.obj.line
        have f2 := M.out.obj.f2
        have hn0 : l1.length = n0 := hB0.1
        have K1 := Lib.hid (show Below wr.heap.size wr (wr.drew.alloc (.cells #[.int .u8 (zs.getD j 0)] 5)) from ((Below.refl _ _).drew).alloc (Nat.le_refl _) _)
        have HB0 := Lib.hid (hB0.on K1.out); have HA0 := Lib.hid hA0
        have hbw := M.out.obj.lt b M.out.obj.mine
        have R1 := Lib.hid (M.out.obj.on K1.out)
        have T1 := Lib.hid (one_new wr.drew (zs.getD j 0))
        have HZ := Lib.hid hz
        have FIN := Lib.hid (show ∀ (A5 : Option Addr) (n5 c5 : Nat) (w5 : World), Buf w5 A5 n5 c5 (l1 ++ [zs.getD j 0]) → Only (fun d => ∃ o s, A0 = some ⟨d, o, s⟩) (wr.drew.alloc (.cells #[.int .u8 (zs.getD j 0)] 5)) w5 → (A5 = A0 ∨ A5 = some ⟨(wr.drew.alloc (.cells #[.int .u8 (zs.getD j 0)] 5)).heap.size, 0, none⟩) →
            w5.cell? ⟨b, 2, none⟩ = some (.slice A0 n0 c0) ∧ w5.frozen? ⟨b, 2, none⟩ = false ∧ ∃ S2, Hid (RMid w S b K cut l zs (w5.setCell ⟨b, 2, none⟩ (.slice A5 n5 c5)) O m oc (j + 1) (l1 ++ [zs.getD j 0]) os1 cr S2) from fun A5 n5 c5 w5 q1 q2 q3 => by
          obtain ⟨x1, x2, S2, X, Y, Z⟩ := rhold_step R1.out ((K1.out.cell (p := ⟨b, 2, none⟩) hbw).trans e2) HA0.out q1 q2 q3
          exact ⟨x1, x2, S2, M.out.go HJ.out HZ.out X ((Only.of_below K1.out).trans Y (fun d h _ => h)) (fun d hd => (Z d hd).imp id (fun h => Nat.le_trans K1.out.size h))⟩)
        generalize zs.getD j 0 = z at *
        have hz2 : (z == 10) = false := by simpa using hz
        have e2d : wr.drew.cell? ⟨b, 2, none⟩ = some (.slice A0 n0 c0) := e2
        have e2a : (wr.drew.alloc (.cells #[.int .u8 z] 5)).cell? ⟨b, 2, none⟩ = some (.slice A0 n0 c0) := (K1.out.cell (p := ⟨b, 2, none⟩) hbw).trans e2
        have czd : wr.drew.cell? ⟨g, o + j, none⟩ = some (.int .u8 z) := cz
        have j0 : (0 : Int) ≤ (j : Int) := by omega
        have j1 : (j : Int) < (n : Int) := by omega
        have hl5 : n0 + 1 ≤ 1000000 := by omega
        clear hB0 hA0 HZ R1 hn0
        go_wp2
        go_region_law (refine step_append_buf rfl (.tmp 26) (.tmp 31) rfl HB0.out (by simp [Act.eval]) T1.out (fun h => by cases h) (by simp [Act.eval]) hl5 ?_; intro A5 c5 w5 q1 q2 q3; obtain ⟨x1, x2, S2, X⟩ := FIN.out A5 _ c5 w5 q1 q2 q3; clear q1 q2 q3)
        all_goals
          go_wp2
          go_roundw
          case rel => exact ⟨j + 1, O, m, oc, _, os1, cr, S2, by omega, by go_num, rfl, X⟩
          case measure => simp [intOf]; omega
    · have hjn : j = n := by omega
      have HT := Lib.hid (show zs.take j = zs by rw [hjn, ← hzn.out]; exact List.take_length)
      go_wp2
      go_ret
      have e1 := M.out.eo; have e2 := M.out.el; have e3 := M.out.ec
      rw [HT.out, HO.out] at e1
      rw [HT.out, HL.out] at e2
      rw [HT.out, HC.out] at e3
      subst e1 e2 e3
      exact ⟨O, m, oc, S', rfl, M.out.out, fun g o s he => M.out.new g ⟨o, s, he⟩, M.out.obj, M.out.only, M.out.grow⟩

end Go.Proofs.Ytemehobohgcpdaa
