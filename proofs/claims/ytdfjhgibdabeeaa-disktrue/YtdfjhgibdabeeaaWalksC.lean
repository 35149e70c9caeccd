/- Contract of disk.sectorsOf. -/
import Derived.Test.YtdfjhgibdabeeaaWalksB
import Derived.WalkKit
import Derived.WalkSpells
import Derived.WalkLawsBesides
import Derived.Lib.Hide
import Derived.OwnWalk
import Derived.StillTailTactics
import Derived.Deep.DeepCutAuto
import Derived.Deep.RegionHeld3
namespace Go.Proofs.Ytdfjhgibdabeeaa
open Go.RowKit

theorem info58 : (Try.prog.info? 58).map (fun i => (i.zero, i.size, i.bytes)) = some (some (.agg #[.bool false, .int .i64 0]), 2, 16) := by kernel_rfl

theorem secs_new (w : World) (m : Nat) : Secs (w.alloc (.cells (madeCells #[.bool false, .int .i64 0] (m * 2)) 58)) (some ⟨w.heap.size, 0, none⟩) m (fun _ => false) (fun _ => 0) := by
  have hb := heap_alloc_new w (.cells (madeCells #[.bool false, .int .i64 0] (m * 2)) 58)
  refine ⟨(fun h => by cases h), fun _ => ⟨w.heap.size, rfl, by simp, fun j hj => ⟨?_, ?_, frozen_of_row _ _ _ _ 58 hb, frozen_of_row _ _ _ _ 58 hb⟩⟩⟩
  · rw [cell_of_row _ _ _ _ 58 (0, 0) hb, madeCells, Array.getElem?_map, Array.getElem?_range, if_pos (by omega)]
    simp
  · rw [cell_of_row _ _ _ _ 58 (0, 0) hb, madeCells, Array.getElem?_map, Array.getElem?_range, if_pos (by omega)]
    simp [Nat.add_mod]

/-- make([]sector, M). -/
theorem make_secs {w : World} {ops : Array Oper} {rest : List Oper} {o : Oper} {a : Act} {Q : Exit → Act → World → Prop} (hgd : o.guard = none) (l c : Operand) (ho : o.op = .makeSlice 50 l c) (C : Int) (m : Nat) (hl : a.eval l = .int .i64 C) (hc : a.eval c = .int .i64 C) (hC : C = (m : Int)) (hm : m ≤ 1000000)
    (hn : ∀ g w', w.heap.size = g → Secs w' (some ⟨g, 0, none⟩) m (fun _ => false) (fun _ => 0) → Below w.heap.size w w' → wpList Try.prog ops Q rest (a.put o.dst (.slice (some ⟨g, 0, none⟩) m m)) w') :
    wpList Try.prog ops Q (o :: rest) a w := by
  obtain ⟨i0, hi, hz0, hz1, hz2⟩ := info_parts info58
  subst hC
  have hrun := run_make (P := Try.prog) w 50 58 i0 (.agg #[.bool false, .int .i64 0]) Try.underlying50 hi hz0 .i64 .i64 (m : Int) (m : Int) (by omega) (by omega) (by rw [hz2]; omega) (by omega)
  simp only [Int.toNat_natCast, hz1] at hrun
  refine wpList_plain hgd fun K hK => ?_
  unfold Oper.wp
  simp [execOp, ho, hl, hc, hrun, Result.andThen]
  exact hK _ _ (hn _ _ rfl (secs_new w m) ((Below.refl _ _).alloc (Nat.le_refl _) _))

def SecsPost (m : Nat) (B : Nat → Bool) (L : Nat → Int) (w : World) (e : Ending) (w' : World) : Prop :=
  ∃ A, e = .returned (.slice A m m) ∧ Secs w' A m B L ∧ New w A ∧ Below w.heap.size w w'

def lefts (D : Dev) (j k : Nat) : Int := if isBad (D.bad.take j) k then 0 else times D.soft k
theorem updB_bad (D : Dev) (j k : Nat) (hj : j < D.bad.length) (hk : D.bad.getD j 0 = (k : Int)) : ∀ i, isBad (D.bad.take (j + 1)) i = updB (isBad (D.bad.take j)) k true i ∧ lefts D (j + 1) i = upd (lefts D j) k 0 i := by
  intro i
  have h := isBad_snoc D.bad j i hj
  rw [hk] at h
  by_cases hik : i = k
  · subst hik; simp [updB, upd, lefts, h]
  · have hne : ((k : Int) == (i : Int)) = false := by simp; omega
    simp [updB, upd, lefts, h, hik, hne]; try omega
theorem same_bad (D : Dev) (j m : Nat) (hj : j < D.bad.length) (hk : (m : Int) ≤ D.bad.getD j 0) : ∀ i, i < m → isBad (D.bad.take (j + 1)) i = isBad (D.bad.take j) i ∧ lefts D (j + 1) i = lefts D j i := by
  intro i hi
  have h := isBad_snoc D.bad j i hj
  have hne : (D.bad.getD j 0 == (i : Int)) = false := by generalize D.bad.getD j 0 = z at hk; simp; omega
  rw [hne] at h
  simp [lefts, h]

set_option maxRecDepth 100000 in
set_option maxHeartbeats 4000000 in
theorem sectors_any (x : Hd) (D : Dev) (w : World) (h : DevIn w x D) (hm : D.may = true) (hf : D.few = true) : Calls Try.prog 22 #[x.val] w (SecsPost D.m (isBad D.bad) (leftOf D fun _ => 0) w) := by
  simp [Dev.few] at hf
  simp [Dev.may] at hm
  obtain ⟨⟨_, hmb⟩, hms⟩ := hm
  obtain ⟨⟨⟨f1, f2⟩, f3⟩, f4⟩ := hf
  have K0 := Lib.hid (show Below w.heap.size w (w.alloc (.cells x.cells 30)) from (Below.refl _ _).alloc (Nat.le_refl _) _)
  have B0 := Lib.hid (box_of_row (Row.new w 30 x.cells))
  have HB := Lib.hid h.bad; have HS := Lib.hid h.soft
  have hM := Lib.hid (show (D.data.length + 7) / 8 = D.m from rfl)
  have hMs : D.m ≤ 60 := by have := hM.out; omega
  have hdl := h.data.len; have hbl := h.bad.len; have hsl := h.soft.len
  have HMS := Lib.hid (times_neg D.soft (List.all_eq_true.2 (fun p hp => hms p.1 p.2 hp)))
  have HMT := Lib.hid (fun j k => times_le (D.soft.take j) k (all_take (List.all_eq_true.2 (fun p hp => hms p.1 p.2 hp)) j))
  have HMB := Lib.hid (bad_neg D.bad (List.any_eq_false.2 (fun z hz => by simpa using hmb z hz)))
  clear h hmb hms
  rw [hdl] at hM f1
  rw [hbl] at f2
  rw [hsl] at f3
  have HSL := Lib.hid hsl; have HBL := Lib.hid hbl
  clear hdl hsl hbl
  generalize D.m = m at *
  obtain ⟨da, dn, dc, ba, bn, bc, sa, sn, sc, ha, hn, hc⟩ := x
  simp only at HB HS f1 f2 f3 hM HSL HBL
  replace K0 : Hid (Below w.heap.size w (w.alloc (.cells #[.slice da dn dc, .slice ba bn bc, .slice sa sn sc, .slice ha hn hc] 30))) := K0
  replace B0 : Hid (Box (w.alloc (.cells #[.slice da dn dc, .slice ba bn bc, .slice sa sn sc, .slice ha hn hc] 30)) w.heap.size ⟨da, dn, dc, ba, bn, bc, sa, sn, sc, ha, hn, hc⟩) := B0
  show Calls Try.prog 22 #[.agg #[.slice da dn dc, .slice ba bn bc, .slice sa sn sc, .slice ha hn hc]] w _
  go_enter Try.func22, Try.ntmps22
  go_wp2_with (at_make; refine make_secs rfl _ _ rfl _ m rfl rfl (by have := hM.out; omega) (by omega) ?_; intro g w1 hg q1 q2; have Q1 := Lib.hid q1; have Q2 := Lib.hid (K0.out.trans (q2.mono K0.out.size)); have B1 := Lib.hid (B0.out.on q2); have HG := Lib.hid (show w.heap.size < g by rw [← hg]; simp); obtain ⟨_, d0, d1, d2, d3⟩ := B0.out.on q2; simp only at d0 d1 d2 d3; clear q1 q2 hg)
  clear K0 B0
  go_loopw [18] (fun i wr => ∃ j : Nat, j ≤ sn ∧ i = .int .i64 j ∧ Hid (Secs wr (some ⟨g, 0, none⟩) m (fun _ => false) (times (D.soft.take j))) ∧ Hid (Below w.heap.size w wr) ∧ Hid (Box wr w.heap.size ⟨da, dn, dc, ba, bn, bc, sa, sn, sc, ha, hn, hc⟩)) (fun i _ => sn - (intOf i).toNat)
  case atStart => exact ⟨0, Nat.zero_le _, rfl, Q1.out, Q2.out, B1.out⟩
  case round =>
    clear d0 d1 d2 d3 Q1 Q2 B1
    obtain ⟨j, hj, rfl, S1, K1, B1⟩ := hrel
    by_cases hlt : j < sn
    · obtain ⟨b, o, rfl, hb, hc⟩ := HS.out.cells (by omega)
      obtain ⟨c0, c1⟩ := hc j hlt
      replace c0 := (K1.out.cell (p := ⟨b, o + j * 2, none⟩) hb).trans c0
      replace c1 := (K1.out.cell (p := ⟨b, o + j * 2 + 1, none⟩) hb).trans c1
      have HX := Lib.hid (fun k => times_snoc D.soft j k (by have := HSL.out; omega))
      obtain ⟨p0, p1, p2⟩ := HMS.out j (by have := HSL.out; omega)
      clear hc
      have hji : (j : Int) < (sn : Int) := by omega
      generalize D.soft.getD j (0, 0) = z at *
      obtain ⟨p, q⟩ := z
      simp only at c0 c1 p0 p1 p2 HX
      obtain ⟨k, rfl⟩ : ∃ k : Nat, p = (k : Int) := ⟨p.toNat, by omega⟩
      by_cases hkm : k < m
      · obtain ⟨W, hW⟩ : ∃ W, wr.alloc (.cells #[.int .i64 (k : Int), .int .i64 q] 26) = W := ⟨_, rfl⟩
        have KA : Below wr.heap.size wr W := by rw [← hW]; exact (Below.refl _ _).alloc (Nat.le_refl _) _
        have R1 : Row W wr.heap.size 26 #[.int .i64 (k : Int), .int .i64 q] := by rw [← hW]; exact Row.new _ _ _
        have SA := S1.out.on KA
        have X := Lib.hid ((SA.on (Below.refl _ _).drew).setL k hkm (times (D.soft.take j) k + q))
        have Y := Lib.hid SA
        have KB := Lib.hid (K1.out.trans (KA.mono K1.out.size)); have BB := Lib.hid (B1.out.on KA)
        obtain ⟨g', he, hg, hcs⟩ := SA.cells (by omega)
        injection he with he; injection he with he; subst he
        obtain ⟨_, s1, _, s3⟩ := hcs k hkm
        have r0 := R1.at 0; have r1 := R1.at 1
        have ht := HMT.out j k
        have hl : (D.soft.take j).length ≤ 60 := by have := HSL.out; simp; omega
        have HW := Lib.hid hW
        have HT := Lib.hid (HX.out k)
        have hg0 := HG.out
        clear SA hcs R1 KA hW
        generalize times (D.soft.take j) k = t at *
        have hwr : IntKind.i64.wrap (t + q) = t + q := IntWalk.i64_in _ (by omega)
        have hk0 : (0 : Int) ≤ (k : Int) := by omega
        have hk1 : (k : Int) < (m : Int) := by omega
        go_upto_region 6 with fail
        rw [HW.out]
        go_still_tail 11, (by kernel_rfl)
        change wpList _ _ _ _ _ W.drew
        go_wp2
        go_roundw
        case rel =>
          refine ⟨j + 1, by omega, by go_num, X.out.1.eqs (fun _ _ => rfl) (fun i hi => ?_), KB.out.drew.trans (X.out.2.below KB.out.size (fun d hd => by omega)), (BB.out.on (Below.refl _ _).drew).only X.out.2 (fun hd => by omega)⟩
          by_cases hik : i = k
          · subst hik; rw [upd_same, HT.out, if_pos rfl]
          · rw [upd_other _ _ _ _ hik, HX.out i, if_neg (by omega), Int.add_zero]
        case measure => simp [intOf]; omega
      · go_wp2
        go_roundw
        case rel =>
          have KA : Below wr.heap.size wr (wr.alloc (.cells #[.int .i64 (k : Int), .int .i64 q] 26)) := (Below.refl _ _).alloc (Nat.le_refl _) _
          exact ⟨j + 1, by omega, by go_num, (S1.out.on KA).eqs (fun _ _ => rfl) (fun i hi => by rw [HX.out i, if_neg (by omega), Int.add_zero]), K1.out.trans (KA.mono K1.out.size), B1.out.on KA⟩
        case measure => simp [intOf]; omega
    · have hjn : j = sn := by omega
      have S2 := Lib.hid (show Secs wr (some ⟨g, 0, none⟩) m (isBad (D.bad.take 0)) (lefts D 0) from S1.out.eqs (fun _ _ => rfl) (fun i _ => by rw [hjn, ← HSL.out, List.take_length]; rfl))
      have hbm : bn ≤ 9223372036854775807 := by omega
      clear S1 HMS HMT
      obtain ⟨_, d0, d1, d2, d3⟩ := B1.out
      simp only at d0 d1 d2 d3
      go_wp2
      go_loopw [42] (fun i wr => ∃ j : Nat, j ≤ bn ∧ i = .int .i64 j ∧ Hid (Secs wr (some ⟨g, 0, none⟩) m (isBad (D.bad.take j)) (lefts D j)) ∧ Hid (Below w.heap.size w wr)) (fun i _ => bn - (intOf i).toNat)
      case atStart => exact ⟨0, Nat.zero_le _, rfl, S2.out, K1.out⟩
      case round =>
        clear d0 d1 d2 d3 S2 K1 B1
        obtain ⟨j, hj, rfl, S3, K3⟩ := hrel
        by_cases hlt : j < bn
        · obtain ⟨b, o, rfl, hb, hc⟩ := HB.out.cells (by omega)
          have c0 := (K3.out.cell (p := ⟨b, o + j, none⟩) hb).trans (hc j hlt)
          have hjl : j < D.bad.length := by have := HBL.out; omega
          have p0 := HMB.out j hjl
          have HU := Lib.hid (updB_bad D j); have HV := Lib.hid (same_bad D j m hjl)
          clear hc
          have hji : (j : Int) < (bn : Int) := by omega
          generalize D.bad.getD j 0 = z at *
          obtain ⟨k, rfl⟩ : ∃ k : Nat, z = (k : Int) := ⟨z.toNat, by omega⟩
          by_cases hkm : k < m
          · have X := Lib.hid (S3.out.setB k hkm true 0)
            obtain ⟨g', he, hg, hcs⟩ := S3.out.cells (by omega)
            injection he with he; injection he with he; subst he
            obtain ⟨s0, s1, s2, s3⟩ := hcs k hkm
            have hg0 := HG.out
            clear hcs
            have hk0 : (0 : Int) ≤ (k : Int) := by omega
            have hk1 : (k : Int) < (m : Int) := by omega
            go_wp2
            go_roundw
            case rel =>
              refine ⟨j + 1, by omega, by go_num, X.out.1.eqs (fun i hi => ?_) (fun i hi => ?_), K3.out.trans (X.out.2.below K3.out.size (fun d hd => by omega))⟩
              · exact (HU.out k hjl rfl i).1
              · exact (HU.out k hjl rfl i).2
            case measure => simp [intOf]; omega
          · go_wp2
            go_roundw
            case rel => exact ⟨j + 1, by omega, by go_num, S3.out.eqs (fun i hi => (HV.out (by omega) i hi).1) (fun i hi => (HV.out (by omega) i hi).2), K3.out⟩
            case measure => simp [intOf]; omega
        · have hjn : j = bn := by omega
          go_wp2
          go_ret
          refine ⟨some ⟨g, 0, none⟩, rfl, S3.out.eqs (fun i _ => ?_) (fun i _ => ?_), fun g' o he => ?_, K3.out⟩
          · rw [hjn, ← HBL.out, List.take_length]
          · rw [hjn, ← HBL.out, lefts, leftOf, List.take_length, Int.sub_zero]
          · injection he with he; injection he with he; have := HG.out; omega

end Go.Proofs.Ytdfjhgibdabeeaa
