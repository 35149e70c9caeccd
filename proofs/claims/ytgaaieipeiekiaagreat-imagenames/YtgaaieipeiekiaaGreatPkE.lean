/- Contract of extent's Write. / Contracts of the reference's find, At, MayContent. / Contracts of the reference's TruncateContent, PunchContent. / Contracts of the reference's TruncateContent, PunchContent. / A block that is put where it belongs, if it is not there (the reference's need). -/
import Derived.Test.YtgaaieipeiekiaaGreatPkD
import Derived.WalkKit
import Derived.WalkSpells
import Derived.WalkLawsBesides
import Derived.Lib.Hide
import Derived.BigQuiet
import Derived.Deep.RegionLaw
import Derived.Deep.RegionWith
import Derived.Test.YtgaaieipeiekiaaGreatPkB
import Derived.Test.YtgaaieipeiekiaaGreatPkC
namespace Go.Proofs.YtgaaieipeiekiaaGreat
open Go.RowKit
set_option maxRecDepth 100000

/-- Bytes copied into a block of a slice of blocks. -/
theorem step_copyx {ops : Array Oper} {o : Oper} {a : Act} {w : World} {K : Act → World → Prop} {Q : Exit → Act → World → Prop} {E : Prop} (hgd : o.guard = none) (d s : Operand)
    (ho : o.op = .call { callee := .builtin .copy, args := #[d, s], argTypes := #[40, 40] }) (B g o' n c : Nat) (M : List Ex) (j r : Nat) (hj : j < n) (hm : Mut B w (some ⟨g, o', none⟩) n c M) (off dLen dCap : Nat) (hoff : off = o' + j * 9 + 1 + r) (ad : Addr) (sLen sCap : Nat) (hd : a.eval d = .slice (some ⟨g, off, none⟩) dLen dCap) (hs : a.eval s = .slice (some ad) sLen sCap)
    (cs : List Int) (hn : cs.length = Nat.min sLen dLen) (hsrc : ∀ j v, (by8 cs)[j]? = some v → w.cell? (ad.add j) = some v) (hr : r + cs.length ≤ 8) (hb : ∀ x ∈ cs, 0 ≤ x ∧ x ≤ 255)
    (h : ∀ w', Mut B w' (some ⟨g, o', none⟩) n c (M.set j ⟨(M.getD j default).no, splice (M.getD j default).bs r cs⟩) → Only (fun k => k = g) w w' → K (a.put o.dst (goInt cs.length)) w') : if Region.wanted o (yielded ops a.tmps) = true then Oper.wp Tryz.prog o a w K Q else E := by
  have hw : Region.wanted o (yielded ops a.tmps) = true := by simp [Region.wanted, hgd]
  rw [if_pos hw]
  subst hoff
  have hok := hm.exts.get j hj
  have hrun := run_copy_cells (P := Tryz.prog) w 40 40 o.type 5 g (o' + j * 9 + 1 + r) dLen dCap ad sLen sCap (by8 cs) Tryz.underlying40 (by kernel_rfl) (by rw [by8_len]; exact hn) hsrc
    (fun i hi => by rw [by8_len] at hi; rw [Nat.add_assoc (o' + j * 9 + 1), hm.exts.byte j hj (r + i) (by omega)]; rfl) (fun i hi => (hm.own g o' rfl).2.2 _) (by8_one cs)
  rw [by8_len] at hrun
  unfold Oper.wp
  simp [execOp, ho, resolve, invoke, builtin, hd, hs, hrun, Result.andThen]
  have hp := hm.put j (1 + r) (by8 cs) ⟨(M.getD j default).no, splice (M.getD j default).bs r cs⟩ hj (by rw [by8_len]; omega) (ok_splice hok r cs hr hb) (splice_bytes r cs)
  rw [show o' + j * 9 + (1 + r) = o' + j * 9 + 1 + r by omega] at hp
  exact h _ hp (only_setCells _ _ _ _)

theorem Duo.only {S : Nat → Prop} {w W W' : World} {s : Int} {A : Option Addr} {n c : Nat} (h : Duo w W s A n c) (k : Only S W W') (hS : ∀ d, S d → w.heap.size + 2 ≤ d) : Duo w W' s A n c :=
  ⟨h.b0.only k (fun hd => by have := hS _ hd; omega), h.b1.only k (fun hd => by have := hS _ hd; omega), h.below.trans (k.below h.below.size (fun d hd => by have := hS d hd; omega)), Nat.le_trans h.size k.size⟩
theorem alo_len (L : List Ex) (p k : Int) : (alo L p k).length ≤ 2 * L.length + ((p + k - 1) / 8 - p / 8 + 1).toNat := by
  unfold alo fil
  rw [List.length_append, List.length_append, blk_len, List.length_take, List.length_drop]
  omega
def wsz (s p : Int) (len : Nat) : Int := if len = 0 then s else max s (p + (len : Int))
def WR (L : List Ex) (p : Int) (bs : List Int) (M : List Ex) : Prop := Up M ∧ ∀ k, look M k = if bs = [] then look L k else wlook L p bs k

set_option maxRecDepth 100000 in
set_option maxHeartbeats 8000000 in
theorem write_any (s : Int) (A : Option Addr) (n c : Nat) (L : List Ex) (p : Int) (BA : Option Addr) (nb cb : Nat) (bs : List Int) (w : World) (h : Exts w A n c L) (hn : n ≤ 10000) (hb : Nums .u8 w BA nb cb bs) (hb8 : ∀ x ∈ bs, 0 ≤ x ∧ x ≤ 255) (z : Bool) (hz : ((eo p (nb : Int)).isSome && decide (nb ≤ 4096) && may s L) = z) :
    Calls Tryz.prog 108 #[ct s A n c, .int .i64 p, .slice BA nb cb] w (CtPost z (if z = true then wsz s p nb else 0) (fun M => if z = true then WR L p bs M else M = []) w) := by
  have D0 := Lib.hid (duo_new w s A n c)
  have H := Lib.hid h; have HB := Lib.hid hb; have HB8 := Lib.hid hb8
  have HZ := Lib.hid hz
  have hnbm : nb ≤ 9223372036854775807 := by have := hb.le; have := hb.mx; unfold maxLen at this; omega
  clear h hz hb hb8
  show Calls Tryz.prog 108 #[.agg #[.int .i64 s, .slice A n c], .int .i64 p, .slice BA nb cb] w _
  go_enter Tryz.func108, Tryz.ntmps108
  go_wp2_with fail
  obtain ⟨d, hd⟩ : ∃ d, eo p (nb : Int) = d := ⟨_, rfl⟩
  have HD := Lib.hid hd
  clear hd
  refine (end_any p (nb : Int) _ d HD.out).mono ?_
  rintro e w1 ⟨rfl, k1⟩
  have D1 := Lib.hid (D0.out.on k1)
  clear k1 D0
  have c0 := D1.out.b0.c0; have c1 := D1.out.b0.c1; have d0 := D1.out.b1.c0; have d1 := D1.out.b1.c1; have f0 := D1.out.b1.f0; have f1 := D1.out.b1.f1
  cases d with
  | none =>
    have hzy : false = z := by rw [← HZ.out, HD.out]; rfl
    subst hzy
    simp only [Option.getD_none, Option.isSome_none]
    go_wp2
    refine res_box2 rfl (w.heap.size + 1) 0 none 0 0 rfl D1.out.none.1 rfl ?_
    exact ⟨none, 0, 0, [], rfl, rfl, D1.out.none.2.1, D1.out.none.2.2⟩
  | some t =>
    obtain ⟨p0, k0, rfl, t1⟩ := eo_some HD.out
    simp only [Option.getD_some, Option.isSome_some]
    by_cases q2 : nb ≤ 4096
    · have q2i : (nb : Int) ≤ 4096 := by omega
      go_wp2_with fail
      obtain ⟨y, hy⟩ : ∃ y, may s L = y := ⟨_, rfl⟩
      have HY := Lib.hid hy
      have HZY := Lib.hid (show y = z by rw [← HZ.out, HD.out, hy]; simp [q2])
      clear hy
      refine (may_any s A n c L _ (H.out.on D1.out.below) y HY.out).mono ?_
      rintro e w2 ⟨rfl, k2⟩
      have D2 := Lib.hid (D1.out.on k2)
      clear k2 c0 c1 d0 d1 f0 f1 D1
      have c0 := D2.out.b0.c0; have c1 := D2.out.b0.c1; have d0 := D2.out.b1.c0; have d1 := D2.out.b1.c1; have f0 := D2.out.b1.f0; have f1 := D2.out.b1.f1
      have hzy := HZY.out
      subst hzy
      cases y with
      | false =>
        go_wp2
        refine res_box2 rfl (w.heap.size + 1) 0 none 0 0 rfl D2.out.none.1 rfl ?_
        exact ⟨none, 0, 0, [], rfl, rfl, D2.out.none.2.1, D2.out.none.2.2⟩
      | true =>
        have HG := Lib.hid ((may_iff s L).1 HY.out)
        have hs0 := HG.out.s0; have hs1 := HG.out.s1
        rcases Nat.eq_zero_or_pos nb with hb0 | hb0
        · have hbn : (nb : Int) = 0 := by omega
          have HE := Lib.hid (show bs = [] from List.eq_nil_of_length_eq_zero (HB.out.len.trans hb0))
          have HV := Lib.hid (show wsz s p nb = s by simp [wsz, hb0])
          replace hb0 := Lib.hid hb0
          go_wp2
          have DD := Lib.hid (D2.out.on (Below.refl _ _).drew)
          go_region_with (go_at_call 62; refine (clone_any A n c L _ (H.out.on DD.out.below) (by omega)).mono ?_; rintro e w3 ⟨A', c', rfl, hm, k3⟩; have D3 := Lib.hid (DD.out.on k3); have HM := Lib.hid hm; have g0 := D3.out.b0.c0; have g1 := D3.out.b0.c1; have i0 := D3.out.b1.c0; have i1 := D3.out.b1.c1; have j0 := D3.out.b1.f0; have j1 := D3.out.b1.f1; clear k3 hm)
          all_goals
            go_wp2
            have X := D3.out.done s HM.out DD.out.size
            refine res_box2 rfl (w.heap.size + 1) s A' _ c' rfl X.1 rfl ?_
            exact ⟨A', _, c', L, by rw [HV.out]; rfl, ⟨HG.out.up, fun k => by rw [if_pos HE.out]⟩, X.2.1, X.2.2⟩
        · have hbn : ¬ (nb : Int) = 0 := by omega
          obtain ⟨M0, hM0⟩ : ∃ M0, alo L p (nb : Int) = M0 := ⟨_, rfl⟩
          have hMu : Up M0 := by rw [← hM0]; exact up_fil HG.out.up (by omega) (by omega)
          have hMl : ∀ k, look M0 k = glook L p bs 0 k := fun k => by
            rw [glook_zero H.out.ok, HB.out.len, ← hM0]; exact fil_look HG.out.up (by omega) (by omega) k
          have CF := Lib.hid (filled_any A n c L p (p + (nb : Int)) w2 (H.out.on D2.out.below) HG.out.up hn p0 (by omega) t1 (p / 8) ((p + (nb : Int) - 1) / 8) ((p + (nb : Int) - 1) / 8 - p / 8 + 1).toNat rfl rfl (by omega) (by omega) M0 hM0)
          have HMs := Lib.hid (show M0.length ≤ 30000 by have h1 := alo_len L p (nb : Int); rw [hM0, H.out.len] at h1; omega)
          have HMU := Lib.hid hMu; have HML := Lib.hid hMl
          clear hM0 hMu hMl
          go_wp2_with fail
          refine CF.out.mono ?_
          rintro e w3 ⟨A', c', rfl, hm, k3⟩
          have D3 := Lib.hid (D2.out.on k3); have HM3 := Lib.hid hm
          clear k3 hm c0 c1 d0 d1 f0 f1 CF
          obtain ⟨a, ha⟩ : ∃ a, idx M0 (p / 8) = a := ⟨_, rfl⟩
          obtain ⟨y, hy⟩ : ∃ y, (look M0 (p / 8)).isSome = y := ⟨_, rfl⟩
          have HA := Lib.hid ha; have HY2 := Lib.hid hy
          clear ha hy
          obtain ⟨ml, hml⟩ : ∃ ml, M0.length = ml := ⟨_, rfl⟩
          rw [hml] at HM3
          simp only [hml]
          have HMLe := Lib.hid hml
          clear hml
          have HPR := Lib.hid (show ∀ M : List Ex, (∀ d : Nat, (∀ k, look M k = glook L p bs d k) → Up M → ∀ i : Nat, p / 8 + (i : Int) ≤ (p + (nb : Int) - 1) / 8 → idx M (p / 8) + i < M.length ∧ (M.getD (idx M (p / 8) + i) default).no = p / 8 + (i : Int)) from fun M d hl hu i hi => by
            refine run_pos hu (m := ((p + (nb : Int) - 1) / 8 - p / 8 + 1).toNat) (fun q hq => ?_) i (by omega)
            rw [hl, glook, if_pos (by rw [HB.out.len]; omega)]
            simp)
          go_wp2_with fail
          refine (find_any A' ml c' M0 (p / 8) _ HM3.out.exts HMU.out (by have := HMs.out; have := HMLe.out; omega) a y HA.out HY2.out).mono ?_
          rintro e w4 ⟨rfl, k4⟩
          have D4 := Lib.hid (D3.out.on k4); have HM4 := Lib.hid (HM3.out.on k4)
          clear k4 D3 HM3
          have c0 := D4.out.b0.c0; have c1 := D4.out.b0.c1; have d0 := D4.out.b1.c0; have d1 := D4.out.b1.c1; have f0 := D4.out.b1.f0; have f1 := D4.out.b1.f1
          go_wp2_with fail
          have HPO := Lib.hid (show Plain.partsOf 8 p (nb : Int) = Plain.partsFrom 8 nb p (nb : Int) by rw [Plain.partsOf, if_pos ⟨(Plain.span_iff _ _).2 ⟨p0, by omega, by omega, by omega⟩, by omega, by omega⟩, Int.toNat_natCast])
          refine (parts_any p (nb : Int) 8 w4 (by omega)).mono ?_
          rintro e w5 ⟨v, rfl, o5, k5⟩
          rw [HPO.out] at o5
          obtain ⟨PA, PC, rfl, hps, hpb⟩ := own_pairs o5
          obtain ⟨g, o, rfl, hgl, _⟩ := HM4.out.exts.cells (by
            have h1 := HPR.out M0 0 HML.out HMU.out 0 (by omega)
            rw [HMLe.out] at h1; omega)
          obtain ⟨hg1, hg2, _⟩ := HM4.out.own g o rfl
          have HPB := Lib.hid (show ∀ g' o', PA = some ⟨g', o', none⟩ → ¬ g' = g from fun g' o' he => by have := hpb g' o' he; omega)
          have HPS := Lib.hid hps
          have D5 := Lib.hid (D4.out.on k5); have HM5 := Lib.hid (HM4.out.on k5)
          have HG1 := Lib.hid hg1; have HD2 := Lib.hid D2.out.size
          clear o5 hps k5 D4 HM4 c0 c1 d0 d1 f0 f1 hpb hgl hg1 hg2
          obtain ⟨ps, hps⟩ : ∃ ps, Plain.partsFrom 8 nb p (nb : Int) = ps := ⟨_, rfl⟩
          rw [hps] at HPS
          have HPF := Lib.hid hps
          have hpl := HPS.out.mx
          obtain ⟨kk, hkk⟩ : ∃ kk, ps.length = kk := ⟨_, rfl⟩
          rw [hkk] at HPS hpl
          have HKK := Lib.hid hkk
          simp only [hps, hkk]
          clear hkk hps HPO
          have hkm : kk ≤ 9223372036854775807 := by unfold maxLen at hpl; omega
          have c0 := D5.out.b0.c0; have c1 := D5.out.b0.c1
          go_wp2
          go_loopw [62] (fun i wr => ∃ (j d F : Nat) (M : List Ex), j ≤ kk ∧ i = .int .i64 j ∧ d ≤ nb ∧ nb - d ≤ F ∧ Hid (ps.drop j = Plain.partsFrom 8 F (p + (d : Int)) ((nb : Int) - (d : Int))) ∧ Hid (Mut w2.heap.size wr (some ⟨g, o, none⟩) ml c' M) ∧ Hid (Up M) ∧ Hid (∀ k, look M k = glook L p bs d k) ∧ Hid (M.map (·.no) = M0.map (·.no)) ∧ Hid (d < nb → (p + (d : Int)) / 8 = p / 8 + (j : Int)) ∧ Hid (Duo w wr s A n c) ∧ Hid (Pairs wr PA kk ps)) (fun i _ => kk - (intOf i).toNat)
          case atStart => exact ⟨0, 0, nb, M0, Nat.zero_le _, rfl, Nat.zero_le _, by omega, by unfold Hid; rw [← HPF.out]; simp, HM5.out, HMU.out, HML.out, rfl, fun _ => by simp, D5.out, HPS.out⟩
          case round =>
            clear HM5 D5 HPS c0 c1
            obtain ⟨j, d, F, M, hj, rfl, hd, hF, HD0, M6, U6, G6, N6, I6, D6, P6⟩ := hrel
            have c0 := D6.out.b0.c0; have c1 := D6.out.b0.c1; have hbl := D6.out.b0.lt
            by_cases hlt : j < kk
            · obtain ⟨pb, po, rfl, hpbl, hpc⟩ := P6.out.cells (by omega)
              obtain ⟨hd0, hpa, hdr⟩ := parts_at (by rw [HKK.out]; exact hlt) HD0.out (by omega) (by omega)
              obtain ⟨e0, e1⟩ := hpc j hlt
              rw [hpa] at e0 e1
              simp only at e0 e1
              have HDR := Lib.hid hdr
              clear hpc hdr hpa
              have hdn : d < nb := by omega
              have hblk := I6.out hdn
              obtain ⟨P, hP⟩ : ∃ P, p + (d : Int) = P := ⟨_, rfl⟩
              rw [hP] at hblk
              obtain ⟨r, hr⟩ : ∃ r : Nat, P % 8 = (r : Int) := ⟨(P % 8).toNat, by omega⟩
              obtain ⟨t, ht⟩ : ∃ t : Nat, Plain.partLen 8 P ((nb : Int) - (d : Int)) = (t : Int) := by
                refine ⟨(Plain.partLen 8 P ((nb : Int) - (d : Int))).toNat, ?_⟩
                have := Plain.partLen_bounds 8 P ((nb : Int) - (d : Int)) (by omega) (by omega) hd0
                omega
              have htt : (t : Int) = if (nb : Int) - (d : Int) < 8 - (r : Int) then (nb : Int) - (d : Int) else 8 - (r : Int) := by rw [← ht, Plain.partLen, hr]
              have ht1 : t = min (nb - d) (8 - r) := by split at htt <;> omega
              rw [hP] at e0 e1 HDR
              rw [ht] at e1 HDR
              have hP0 : 0 ≤ P := by omega
              have hr8 : r < 8 := by omega
              have hPd : P - p = (d : Int) := by omega
              have hPm : P ≤ 1099511627776 := by omega
              have hpos := HPR.out M d G6.out U6.out j (by omega)
              have hidx : idx M (p / 8) = a := by rw [← HA.out]; exact idx_nos M M0 _ N6.out
              rw [hidx] at hpos
              have hMl : M.length = ml := by rw [← HMLe.out]; have := congrArg List.length N6.out; simpa using this
              rw [hMl] at hpos
              obtain ⟨hx1, hx2⟩ := hpos
              obtain ⟨x, hxe⟩ : ∃ x, a + j = x := ⟨_, rfl⟩
              rw [hxe] at hx1 hx2
              have hlk : look M (P / 8) = some (M.getD x default).bs := by
                have hm : M.getD x default ∈ M := by rw [getD_eq (by omega)]; exact List.getElem_mem _
                have := look_mem U6.out hm
                rwa [hx2, ← hblk] at this
              have hgl := G6.out (P / 8)
              rw [hlk, glook, if_pos (by rw [HB.out.len]; omega)] at hgl
              have hbs : (M.getD x default).bs = wbytes L p (bs.take d) (P / 8) := by injection hgl
              obtain ⟨sb, so, rfl, hsbl, hsc⟩ := HB.out.cells (by omega)
              obtain ⟨cs, hcs⟩ : ∃ cs, (bs.drop d).take t = cs := ⟨_, rfl⟩
              have hcl : cs.length = t := by rw [← hcs]; simp; rw [HB.out.len]; omega
              have HSP := Lib.hid (show splice (M.getD x default).bs r cs = wbytes L p (bs.take (d + t)) (P / 8) by
                rw [hbs, ← hcs]
                exact wbytes_same L p bs d t r (P / 8) (by rw [HB.out.len]; omega) (by rw [hP]) (by rw [hP]; exact hr) (by omega))
              have HC8 := Lib.hid (show ∀ x ∈ cs, 0 ≤ x ∧ x ≤ 255 from fun x hx => HB8.out x (List.mem_of_mem_drop (List.mem_of_mem_take (by rw [← hcs] at hx; exact hx))))
              have HSRC := Lib.hid (show ∀ W, Below w.heap.size w W → ∀ q v, (by8 cs)[q]? = some v → W.cell? ((⟨sb, so + d, none⟩ : Addr).add q) = some v from fun W hW q v hv => by
                have hq : q < t := by have := (List.getElem?_eq_some_iff.1 hv).1; rw [by8_len, hcl] at this; exact this
                rw [Addr.add_mid, Nat.add_assoc, hW.cell (p := ⟨sb, so + (d + q), none⟩) hsbl, hsc (d + q) (by omega), ← hv]
                unfold by8
                rw [List.getElem?_map, ← hcs, List.getElem?_take_of_lt hq, List.getElem?_drop, List.getElem?_eq_getElem (by rw [HB.out.len]; omega), List.getD_eq_getElem?_getD, List.getElem?_eq_getElem (by rw [HB.out.len]; omega)]; rfl)
              have HNX := Lib.hid (show ∀ k, look (M.set x ⟨(M.getD x default).no, splice (M.getD x default).bs r cs⟩) k = glook L p bs (d + t) k from fun k => by
                rw [look_set U6.out x ⟨(M.getD x default).no, splice (M.getD x default).bs r cs⟩ (by omega) rfl k]
                show (if (M.getD x default).no = k then some (splice (M.getD x default).bs r cs) else look M k) = _
                rw [HSP.out, hx2, ← hblk]
                by_cases hk : P / 8 = k
                · rw [if_pos hk, glook, if_pos (by rw [HB.out.len]; omega), hk]
                · rw [if_neg hk, G6.out]
                  unfold glook
                  by_cases hkr : p / 8 ≤ k ∧ k ≤ (p + (bs.length : Int) - 1) / 8
                  · rw [if_pos hkr, if_pos hkr, wbytes_other L p bs d t (P / 8) k (by rw [HB.out.len]; omega) (by rw [hP]) (by rw [hP]; omega) (fun h => hk h.symm)]
                  · rw [if_neg hkr, if_neg hkr])
              have HNU := Lib.hid (up_set U6.out x ⟨(M.getD x default).no, splice (M.getD x default).bs r cs⟩ rfl)
              have HNN := Lib.hid (show (M.set x ⟨(M.getD x default).no, splice (M.getD x default).bs r cs⟩).map (·.no) = M0.map (·.no) by rw [set_nos M x ⟨(M.getD x default).no, splice (M.getD x default).bs r cs⟩ rfl]; exact N6.out)
              have HIX := Lib.hid (show d + t < nb → (p + ((d + t : Nat) : Int)) / 8 = p / 8 + ((j + 1 : Nat) : Int) from fun h => by omega)
              have hcap := HB.out.le
              have KA := Lib.hid (show Below wr.heap.size wr (wr.alloc (.cells #[.int .i64 P, .int .i64 (t : Int)] 154)) from (Below.refl _ _).alloc (Nat.le_refl _) _)
              have hsl8 : ∀ w', (Instr.sliceAt 73 (.pointer (some ⟨g, o + x * 9 + 1, none⟩)) (some (.int .i64 (r : Int))) none none).run Tryz.prog w' = .ok (.slice (some ⟨g, o + x * 9 + 1 + r, none⟩) (8 - r) (8 - r)) w' := fun w' => by have := cut8_l g (o + x * 9 + 1) r (by omega) w'; rwa [if_neg (by omega)] at this
              have htm : P.tmod 8 = (r : Int) := by rw [Int.tmod_eq_emod_of_nonneg hP0]; exact hr
              have hwd : IntKind.i64.wrap (d : Int) = (d : Int) := IntWalk.i64_in _ (by omega)
              have hwr : IntKind.i64.wrap (r : Int) = (r : Int) := IntWalk.i64_in _ (by omega)
              have haj : (a : Int) + (j : Int) = (x : Int) := by omega
              have hwaj : IntKind.i64.wrap (x : Int) = (x : Int) := IntWalk.i64_in _ (by have := HMs.out; have := HMLe.out; omega)
              have haj0 : (0 : Int) ≤ (x : Int) := by omega
              have haj1 : (x : Int) < (ml : Int) := by omega
              have hdd0 : (0 : Int) ≤ (d : Int) := by omega
              have hdd1 : (d : Int) ≤ (nb : Int) := by omega
              have hrr0 : (0 : Int) ≤ (r : Int) := by omega
              have hrr1 : (r : Int) ≤ 8 := by omega
              have HDPP := Lib.hid hP; have HT := Lib.hid ht1; have HX1 := Lib.hid hx1; have HCL := Lib.hid hcl
              have HTt := Lib.hid (show t = min (nb - d) (8 - r) from ht1)
              have hjk : (j : Int) < (kk : Int) := by omega
              have hjk0 : (0 : Int) ≤ (j : Int) := by omega
              have HXE := Lib.hid hxe
              clear hxe hP ht htt ht1 hx2 hlk hgl hbs hcs hcl hidx hMl hblk hsc
              obtain ⟨Mn, hMn⟩ : ∃ Mn, M.set x ⟨(M.getD x default).no, splice (M.getD x default).bs r cs⟩ = Mn := ⟨_, rfl⟩
              rw [hMn] at HNX HNU HNN
              have HMn := Lib.hid hMn
              clear hMn
              obtain ⟨W, hW⟩ : ∃ W, wr.alloc (.cells #[.int .i64 P, .int .i64 (t : Int)] 154) = W := ⟨_, rfl⟩
              have RW := Lib.hid (show Row W wr.heap.size 154 #[.int .i64 P, .int .i64 (t : Int)] by rw [← hW]; exact Row.new wr 154 _)
              rw [hW] at KA
              have MW := Lib.hid ((M6.out.on KA.out).on (Below.refl _ _).drew)
              have DW := Lib.hid (D6.out.on KA.out); have PW := Lib.hid (P6.out.on KA.out)
              have HWW := Lib.hid hW
              clear hW
              go_wp2
              rw [HWW.out]
              have h0 := RW.out.at 0; have h1 := RW.out.at 1
              simp only [List.getElem?_toArray, List.getElem?_cons_zero, List.getElem?_cons_succ] at h0 h1
              go_region_law (refine step_copyx rfl _ _ rfl w2.heap.size g o ml c' M x r HX1.out MW.out (o + x * 9 + 1 + r) (8 - r) (8 - r) rfl ⟨sb, so + d, none⟩ (nb - d) (cb - d) (by simp [Act.eval, Act.put] <;> omega) (by simp [Act.eval, Act.put] <;> omega) cs (by rw [HCL.out, HTt.out]) (HSRC.out _ (DW.out.below.drew)) (by rw [HCL.out]; have := HTt.out; omega) HC8.out ?_; intro w6 m6 o6; rw [HMn.out] at m6; have M7 := Lib.hid m6; have O7 := Lib.hid ((Only.refl (fun k => k = g) W).drew.trans o6 (fun _ h _ => h)); clear m6 o6)
              all_goals
                have D7 := Lib.hid (DW.out.only O7.out (fun k hk => by have := HG1.out; have := HD2.out; omega))
                have P7 := Lib.hid (PW.out.only O7.out HPB.out)
                go_wp2
                go_roundw
                case rel => exact ⟨j + 1, d + t, F - 1, Mn, by omega, by go_num, by have := HTt.out; omega, by have := HTt.out; omega, by unfold Hid; rw [HDR.out, ← HDPP.out]; congr 1 <;> omega, M7.out, HNU.out, HNX.out, HNN.out, HIX.out, D7.out, P7.out⟩
                case measure => simp [intOf]; omega
            · have hmd := parts_end (by rw [HKK.out]; omega) HD0.out (by omega) (by omega)
              obtain rfl : d = nb := by omega
              have HW := Lib.hid (show WR L p bs M from ⟨U6.out, fun k => by
                rw [if_neg (fun h => by rw [h] at HB; have := HB.out.len; simp at this; omega), G6.out, ← HB.out.len, glook_full]⟩)
              have d0 := D6.out.b1.c0; have d1 := D6.out.b1.c1; have f0 := D6.out.b1.f0; have f1 := D6.out.b1.f1
              by_cases g1 : s < p + (d : Int)
              · have HV := Lib.hid (show wsz s p d = p + (d : Int) by rw [wsz, if_neg (by omega)]; omega)
                go_wp2
                all_goals
                  have X := D6.out.done (p + (d : Int)) M6.out HD2.out
                  refine res_box2 rfl (w.heap.size + 1) (p + (d : Int)) _ ml c' rfl X.1 rfl ?_
                  exact ⟨_, ml, c', M, by rw [HV.out]; rfl, HW.out, X.2.1, X.2.2⟩
              · have g2 : p + (d : Int) ≤ s := by omega
                have HV := Lib.hid (show wsz s p d = s by rw [wsz, if_neg (by omega)]; omega)
                go_wp2
                all_goals
                  have X := D6.out.done s M6.out HD2.out
                  refine res_box2 rfl (w.heap.size + 1) s _ ml c' rfl X.1 rfl ?_
                  exact ⟨_, ml, c', M, by rw [HV.out]; rfl, HW.out, X.2.1, X.2.2⟩
    · have hzy : false = z := by rw [← HZ.out]; simp [q2]
      subst hzy
      have q2i : ¬ (nb : Int) ≤ 4096 := by omega
      go_wp2
      refine res_box2 rfl (w.heap.size + 1) 0 none 0 0 rfl D1.out.none.1 rfl ?_
      exact ⟨none, 0, 0, [], rfl, rfl, D1.out.none.2.1, D1.out.none.2.2⟩
end Go.Proofs.YtgaaieipeiekiaaGreat

namespace Go.Proofs.YtgaaieipeiekiaaGreat
open Go.RowKit
set_option maxRecDepth 100000

def xfnd (L : List Ex) (k : Int) : Int := if (look L k).isSome = true then (idx L k : Int) else -1
theorem fnd_yes {L : List Ex} (hu : Up L) {k : Int} {j : Nat} (hj : j < L.length) (h : (L.getD j default).no = k) : xfnd L k = (j : Int) ∧ look L k = some (L.getD j default).bs := by
  have hm : L.getD j default ∈ L := by rw [List.getD_eq_getElem?_getD, List.getElem?_eq_getElem hj]; exact List.getElem_mem _
  have h1 := look_mem hu hm
  rw [h] at h1
  have h2 : idx L k = j := idx_unique (by omega) (fun i hi => by have := up_lt hu i j hi hj; omega) (fun _ => by omega)
  exact ⟨by rw [xfnd, h1, h2]; rfl, h1⟩
theorem fnd_no {L : List Ex} {k : Int} (h : ∀ j, j < L.length → (L.getD j default).no ≠ k) : xfnd L k = -1 ∧ look L k = none := by
  have h1 : look L k = none := look_none fun e he hk => by
    obtain ⟨j, hj, rfl⟩ := List.mem_iff_getElem.1 he
    have := h j hj
    rw [List.getD_eq_getElem?_getD, List.getElem?_eq_getElem hj] at this
    exact this hk
  exact ⟨by rw [xfnd, h1]; rfl, h1⟩

set_option maxHeartbeats 4000000 in
theorem rmay_any (s : Int) (A : Option Addr) (n c : Nat) (L : List Ex) (w : World) (h : Exts w A n c L) (z : Bool) (hz : may s L = z) : Calls Tryz.prog 42 #[ct s A n c] w (TruthPost z w) := by
  have HZ := Lib.hid hz
  have K0 := Lib.hid (show Below w.heap.size w (w.alloc (.cells #[.int .i64 s, .slice A n c] 32)) from (Below.refl _ _).alloc (Nat.le_refl _) _)
  have H := Lib.hid h
  have hm := h.max
  clear h hz
  show Calls Tryz.prog 42 #[.agg #[.int .i64 s, .slice A n c]] w _
  go_enter Tryz.func42, Tryz.ntmps42
  by_cases s0 : 0 ≤ s
  · by_cases s1 : s ≤ 1099511627776
    · have HG := Lib.hid (show may s L = goodFrom s (-1) L by simp [may, s0, s1])
      go_wp2
      go_loop [3] (fun i => ∃ (j : Nat) (l : Int), j ≤ n ∧ i = .int .i64 j ∧ -1 ≤ l ∧ Hid (j = 0 → l = -1) ∧ Hid (0 < j → l = (L.getD (j - 1) default).no) ∧ Hid (may s L = goodFrom s l (L.drop j))) (fun i => n - (intOf i).toNat)
      case atStart => exact ⟨0, -1, Nat.zero_le _, rfl, by omega, fun _ => rfl, fun h => absurd h (by omega), HG.out⟩
      case round =>
        obtain ⟨j, l, hj, rfl, hl, HL0, HL1, HM⟩ := hrel
        by_cases hlt : j < n
        · obtain ⟨b, o, rfl, hb, _⟩ := H.out.cells (by omega)
          have cn := (H.out.on K0.out).no j hlt
          have HS := Lib.hid (good_step s l L j (by rw [H.out.len]; exact hlt))
          have hji : (j : Int) < (n : Int) := by omega
          have HB := Lib.hid (show ∀ k, k < 8 → (w.alloc (.cells #[.int .i64 s, .slice (some ⟨b, o, none⟩) n c] 32)).cell? ⟨b, o + j * 9 + 1 + k, none⟩ = some (.int .u8 ((L.getD j default).bs.getD k 0)) from fun k hk => (H.out.on K0.out).byte j hlt k hk)
          obtain ⟨e, he⟩ : ∃ e, L.getD j default = e := ⟨_, rfl⟩
          rw [he] at cn HS HB
          obtain ⟨no, hno⟩ : ∃ no, e.no = no := ⟨_, rfl⟩
          rw [hno] at cn HS
          have HNO := Lib.hid hno; have HE := Lib.hid he
          clear hno he
          by_cases n0 : l < no
          · by_cases n1 : no < 137438953472
            · have n00 : 0 ≤ no := by omega
              rcases Nat.eq_zero_or_pos j with hj0 | hj0
              · have hj1 : ¬ (0 : Int) < (j : Int) := by omega
                replace hj0 := Lib.hid hj0
                go_wp2
                go_loop [5] (fun i => ∃ k : Nat, k ≤ 8 ∧ i = .int .i64 k ∧ Hid (∀ q, q < k → s ≤ no * 8 + (q : Int) → e.bs.getD q 0 = 0)) (fun i => 8 - (intOf i).toNat)
                case atStart => exact ⟨0, by omega, rfl, fun q h => absurd h (by omega)⟩
                case round =>
                  obtain ⟨k, hk, rfl, HK⟩ := hrel
                  by_cases hk8 : k < 8
                  · have cb := HB.out k hk8
                    have hkk : (k : Int) < 8 := by omega
                    have HK1 := Lib.hid (show (s ≤ no * 8 + (k : Int) → e.bs.getD k 0 = 0) → ∀ q, q < k + 1 → s ≤ no * 8 + (q : Int) → e.bs.getD q 0 = 0 from fun h q hq => by
                      by_cases hqk : q = k
                      · subst hqk; exact h
                      · exact HK.out q (by omega))
                    have HNb := Lib.hid (show s ≤ no * 8 + (k : Int) → e.bs.getD k 0 ≠ 0 → bareB e s = false from fun h1 h2 => by
                      rw [← Bool.not_eq_true]
                      intro hb
                      exact h2 (bare_at hb k hk8 (by rw [HNO.out]; exact h1)))
                    generalize e.bs.getD k 0 = x at *
                    by_cases g1 : s ≤ no * 8 + (k : Int)
                    · by_cases g2 : x = 0
                      · go_wp2
                        go_round
                        case rel => exact ⟨k + 1, by omega, by go_num, HK1.out (fun _ => g2)⟩
                        case measure => simp [intOf]; omega
                      · have HF := Lib.hid (show may s L = false by rw [HM.out, HS.out, HNb.out g1 g2]; simp)
                        go_wp2
                        go_ret
                        exact ⟨ret_bool (by rw [← HZ.out, HF.out]), K0.out⟩
                    · go_wp2
                      go_round
                      case rel => exact ⟨k + 1, by omega, by go_num, HK1.out (fun h => absurd h g1)⟩
                      case measure => simp [intOf]; omega
                  · obtain rfl : k = 8 := by omega
                    have HBT := Lib.hid (show bareB e s = true from bare_of (fun q hq hs => HK.out q hq (by rw [← HNO.out]; exact hs)))
                    go_wp2
                    go_round
                    case rel => exact ⟨j + 1, no, by omega, by go_num, by omega, fun h => absurd h (by omega), fun _ => by rw [show j + 1 - 1 = j by omega, HE.out, HNO.out], by unfold Hid; rw [HM.out, HS.out, HBT.out]; simp [n0, n1]⟩
                    case measure => simp [intOf]; omega
              · have cp := (H.out.on K0.out).no (j - 1) (by omega)
                rw [← HL1.out hj0] at cp
                have hj1 : (0 : Int) < (j : Int) := by omega
                have hj2 : ((j : Int) - 1) = ((j - 1 : Nat) : Int) := by omega
                have hl2 : ¬ no ≤ l := by omega
                go_wp2
                go_loop [5] (fun i => ∃ k : Nat, k ≤ 8 ∧ i = .int .i64 k ∧ Hid (∀ q, q < k → s ≤ no * 8 + (q : Int) → e.bs.getD q 0 = 0)) (fun i => 8 - (intOf i).toNat)
                case atStart => exact ⟨0, by omega, rfl, fun q h => absurd h (by omega)⟩
                case round =>
                  obtain ⟨k, hk, rfl, HK⟩ := hrel
                  by_cases hk8 : k < 8
                  · have cb := HB.out k hk8
                    have hkk : (k : Int) < 8 := by omega
                    have HK1 := Lib.hid (show (s ≤ no * 8 + (k : Int) → e.bs.getD k 0 = 0) → ∀ q, q < k + 1 → s ≤ no * 8 + (q : Int) → e.bs.getD q 0 = 0 from fun h q hq => by
                      by_cases hqk : q = k
                      · subst hqk; exact h
                      · exact HK.out q (by omega))
                    have HNb := Lib.hid (show s ≤ no * 8 + (k : Int) → e.bs.getD k 0 ≠ 0 → bareB e s = false from fun h1 h2 => by
                      rw [← Bool.not_eq_true]
                      intro hb
                      exact h2 (bare_at hb k hk8 (by rw [HNO.out]; exact h1)))
                    generalize e.bs.getD k 0 = x at *
                    by_cases g1 : s ≤ no * 8 + (k : Int)
                    · by_cases g2 : x = 0
                      · go_wp2
                        go_round
                        case rel => exact ⟨k + 1, by omega, by go_num, HK1.out (fun _ => g2)⟩
                        case measure => simp [intOf]; omega
                      · have HF := Lib.hid (show may s L = false by rw [HM.out, HS.out, HNb.out g1 g2]; simp)
                        go_wp2
                        go_ret
                        exact ⟨ret_bool (by rw [← HZ.out, HF.out]), K0.out⟩
                    · go_wp2
                      go_round
                      case rel => exact ⟨k + 1, by omega, by go_num, HK1.out (fun h => absurd h g1)⟩
                      case measure => simp [intOf]; omega
                  · obtain rfl : k = 8 := by omega
                    have HBT := Lib.hid (show bareB e s = true from bare_of (fun q hq hs => HK.out q hq (by rw [← HNO.out]; exact hs)))
                    go_wp2
                    go_round
                    case rel => exact ⟨j + 1, no, by omega, by go_num, by omega, fun h => absurd h (by omega), fun _ => by rw [show j + 1 - 1 = j by omega, HE.out, HNO.out], by unfold Hid; rw [HM.out, HS.out, HBT.out]; simp [n0, n1]⟩
                    case measure => simp [intOf]; omega
            · have HF := Lib.hid (show may s L = false by rw [HM.out, HS.out]; simp [n1])
              have n00 : 0 ≤ no := by omega
              go_wp2
              go_ret
              exact ⟨ret_bool (by rw [← HZ.out, HF.out]), K0.out⟩
          · have HF := Lib.hid (show may s L = false by rw [HM.out, HS.out]; simp [n0])
            by_cases n00 : 0 ≤ no
            · by_cases n1 : no < 137438953472
              · have hj0 : 0 < j := by
                  rcases Nat.eq_zero_or_pos j with hj0 | hj0
                  · have := HL0.out hj0; omega
                  · exact hj0
                have cp := (H.out.on K0.out).no (j - 1) (by omega)
                rw [← HL1.out hj0] at cp
                have hj1 : (0 : Int) < (j : Int) := by omega
                have hj2 : ((j : Int) - 1) = ((j - 1 : Nat) : Int) := by omega
                go_wp2
                go_ret
                exact ⟨ret_bool (by rw [← HZ.out, HF.out]), K0.out⟩
              · go_wp2
                go_ret
                exact ⟨ret_bool (by rw [← HZ.out, HF.out]), K0.out⟩
            · go_wp2
              go_ret
              exact ⟨ret_bool (by rw [← HZ.out, HF.out]), K0.out⟩
        · obtain rfl : j = n := by omega
          have HT := Lib.hid (show may s L = true by rw [HM.out, List.drop_of_length_le (by rw [H.out.len]; omega)]; rfl)
          go_wp2
          go_ret
          exact ⟨ret_bool (by rw [← HZ.out, HT.out]), K0.out⟩
    · have HF := Lib.hid (show may s L = false by simp [may, s1])
      go_wp2
      go_ret
      exact ⟨ret_bool (by rw [← HZ.out, HF.out]), K0.out⟩
  · have HF := Lib.hid (show may s L = false by simp [may, s0])
    go_wp2
    go_ret
    exact ⟨ret_bool (by rw [← HZ.out, HF.out]), K0.out⟩
end Go.Proofs.YtgaaieipeiekiaaGreat

namespace Go.Proofs.YtgaaieipeiekiaaGreat
open Go.RowKit
set_option maxRecDepth 100000

/-- A block some of whose bytes are 0 by now: the first k were asked. -/
def cutk (e : Ex) (p q : Int) (k : Nat) : Ex := ⟨e.no, (List.range 8).map fun (i : Nat) => if i < k ∧ p ≤ e.no * 8 + (i : Int) ∧ e.no * 8 + (i : Int) < q then 0 else e.bs.getD i 0⟩
theorem cutk_ok {e : Ex} (h : e.ok) (p q : Int) (k : Nat) : (cutk e p q k).ok := by
  refine ⟨by simp [cutk], fun x hx => ?_⟩
  simp [cutk] at hx
  obtain ⟨i, _, rfl⟩ := hx
  split
  · exact ⟨by decide, by decide⟩
  · have := Ex.at_ok h i
    simpa using this
theorem cutk_zero {e : Ex} (h : e.ok) (p q : Int) : cutk e p q 0 = e := by
  unfold cutk
  cases e with
  | mk no bs =>
    congr 1
    apply List.ext_getElem?
    intro i
    have h8 : bs.length = 8 := h.1
    by_cases hi : i < 8
    · rw [List.getElem?_map, List.getElem?_range hi, Option.map_some, if_neg (by omega), List.getD_eq_getElem?_getD, List.getElem?_eq_getElem (show i < bs.length by omega)]; rfl
    · rw [List.getElem?_eq_none (by simp; omega), List.getElem?_eq_none (show bs.length ≤ i by omega)]
theorem cutk_full (e : Ex) (p q : Int) : cutk e p q 8 = cutx e p q := by
  unfold cutk cutx
  congr 1
  apply List.map_congr_left
  intro i hi
  have : i < 8 := by simpa using hi
  simp [this]
theorem cutk_no (e : Ex) (p q : Int) (k : Nat) (h : ¬ (p ≤ e.no * 8 + (k : Int) ∧ e.no * 8 + (k : Int) < q)) : cutk e p q (k + 1) = cutk e p q k := by
  unfold cutk
  congr 1
  apply List.map_congr_left
  intro i _
  by_cases hik : i = k
  · subst hik
    rw [if_neg (fun hh => h hh.2), if_neg (fun hh => h hh.2)]
  · by_cases h1 : i < k
    · simp [h1, Nat.lt_succ_of_lt h1]
    · rw [if_neg (by omega), if_neg (by omega)]
theorem cutk_yes (e : Ex) (p q : Int) (k : Nat) (hk : k < 8) (h : p ≤ e.no * 8 + (k : Int) ∧ e.no * 8 + (k : Int) < q) : ecl (cutk e p q (k + 1)) = splice (ecl (cutk e p q k)) (1 + k) [.int .u8 0] := by
  have h1 : cutk e p q (k + 1) = ⟨(cutk e p q k).no, splice (cutk e p q k).bs k [0]⟩ := by
    unfold cutk
    congr 1
    apply List.ext_getElem?
    intro i
    by_cases hi : i < 8
    · rw [List.getElem?_map, List.getElem?_range hi, Option.map_some]
      unfold splice
      by_cases k1 : i < k
      · rw [List.getElem?_append_left (by simp; omega), List.getElem?_take_of_lt k1, List.getElem?_map, List.getElem?_range hi, Option.map_some]
        simp [k1, Nat.lt_succ_of_lt k1]
      · by_cases k2 : i = k
        · subst k2
          rw [if_pos ⟨by omega, h⟩, List.getElem?_append_right (by simp; omega)]
          simp [Nat.min_eq_left (show i ≤ 8 by omega)]
        · rw [if_neg (by omega), List.getElem?_append_right (by simp; omega), List.getElem?_append_right (by simp; omega), List.getElem?_drop]
          simp only [List.length_take, List.length_map, List.length_range, List.length_singleton]
          rw [show k + 1 + (i - min k 8 - 1) = i by omega, List.getElem?_map, List.getElem?_range hi, Option.map_some, if_neg (by omega)]
    · rw [List.getElem?_eq_none (by simp; omega), List.getElem?_eq_none (by rw [length_splice _ _ _ (by simp; omega)]; simp; omega)]
  rw [h1, splice_bytes]
  rfl
/-- A variable that holds a block: one of its bytes made 0. -/
theorem XRow.zero {w : World} {b : Nat} {e e' : Ex} (h : XRow w b e) (k : Nat) (hk : k < 8) (he : ecl e' = splice (ecl e) (1 + k) [.int .u8 0]) (ho : e'.ok) : XRow (w.setCell ⟨b, 1 + k, none⟩ (.int .u8 0)) b e' ∧ Only (fun d => d = b) w (w.setCell ⟨b, 1 + k, none⟩ (.int .u8 0)) := by
  refine ⟨⟨?_, ho⟩, (Only.refl (fun d => d = b) w).setCell ⟨b, 1 + k, none⟩ (fun _ => rfl) _⟩
  have := h.1.setv (1 + k) (.int .u8 0)
  have hx : (ecl e).toArray.setIfInBounds (1 + k) (.int .u8 0) = (ecl e').toArray := by
    apply Array.ext_getElem?
    intro i
    have hl := ecl_len h.2
    rw [he]
    simp only [List.setIfInBounds_toArray, List.getElem?_toArray]
    unfold splice
    by_cases i1 : i < 1 + k
    · rw [List.getElem?_set_ne (by omega), List.getElem?_append_left (by simp; omega), List.getElem?_take_of_lt i1]
    · by_cases i2 : i = 1 + k
      · subst i2
        rw [List.getElem?_set_self (by omega), List.getElem?_append_right (by simp; omega)]
        simp [Nat.min_eq_left (show 1 + k ≤ (ecl e).length by omega)]
      · rw [List.getElem?_set_ne (by omega), List.getElem?_append_right (by simp; omega), List.getElem?_append_right (by simp; omega), List.getElem?_drop]
        congr 1
        simp
        omega
  rw [← hx]
  exact this
end Go.Proofs.YtgaaieipeiekiaaGreat

namespace Go.Proofs.YtgaaieipeiekiaaGreat
open Go.RowKit
set_option maxRecDepth 100000

theorem whole_trunc {no t : Int} (h1 : no < 137438953472) : whole no t 1099511627776 = decide (t ≤ no * 8) := by
  rw [Bool.eq_iff_iff, whole]
  simp only [Bool.and_eq_true, decide_eq_true_eq]
  omega
theorem Own.past {b : Nat} {w : World} {v : Value} {L : List Ex} (h : Own (b + 1) w v L) (k : Nat) (x : Value) : Own (b + 1) (w.setCell ⟨b, k, none⟩ x) v L := by
  refine ⟨h.row.kept (row := some b) ⟨rfl, rfl, rfl, by simp [World.setCell], fun i _ hn => Below.heap_setCell _ _ _ _ (fun he => hn (congrArg some he))⟩ ?_, h.ok⟩
  rcases hv : v.ownBlock with _ | g
  · exact .inl rfl
  · refine .inr (fun he => ?_)
    injection he with he
    have := h.row.lt g hv
    omega
theorem Box.set1 {w : World} {b : Nat} {s : Int} {A : Option Addr} {n c : Nat} (h : Box w b s A n c) (A' : Option Addr) (n' c' : Nat) : Box (w.setCell ⟨b, 1, none⟩ (.slice A' n' c')) b s A' n' c' := Row.setv h 1 (.slice A' n' c')
theorem below_set1 {B b : Nat} {w w' : World} (h : Below B w w') (hb : B ≤ b) (k : Nat) (x : Value) : Below B w (w'.setCell ⟨b, k, none⟩ x) :=
  ⟨h.os, h.tape, h.output, by simpa [World.setCell] using h.size, fun d hd => (Below.heap_setCell _ _ _ _ (fun he => absurd (show d = b from he) (by omega))).trans (h.block d hd)⟩
theorem wo_take (L : List Ex) (p q : Int) (j : Nat) (hj : j < L.length) : wo (L.take (j + 1)) p q = wo (L.take j) p q ++ (if whole (L.getD j default).no p q = true then [] else [cutx (L.getD j default) p q]) := by
  rw [← wo_snoc]; congr 1
  rw [List.take_add_one, List.getD_eq_getElem?_getD, List.getElem?_eq_getElem hj]; rfl
theorem wo_take_len (L : List Ex) (p q : Int) (j : Nat) : (wo (L.take j) p q).length ≤ j := by
  have : (wo (L.take j) p q).length ≤ (L.take j).length := by unfold wo; rw [List.length_map]; exact List.length_filter_le _ _
  rw [List.length_take] at this; omega
/-- The result of what grew. -/
theorem duo_grew {w w1 W : World} {s : Int} {A : Option Addr} {n c : Nat} (h : Duo w w1 s A n c) (hb : Below w1.heap.size w1 W) (t : Int) {A' : Option Addr} {n' c' : Nat} {L : List Ex} (hm : Mut (w1.heap.size + 1) W A' n' c' L) :
    Box ((W.setCell ⟨w.heap.size + 1, 0, none⟩ (.int .i64 t)).setCell ⟨w.heap.size + 1, 1, none⟩ (.slice A' n' c')) (w.heap.size + 1) t A' n' c' ∧ Mut w.heap.size ((W.setCell ⟨w.heap.size + 1, 0, none⟩ (.int .i64 t)).setCell ⟨w.heap.size + 1, 1, none⟩ (.slice A' n' c')) A' n' c' L ∧ Below w.heap.size w ((W.setCell ⟨w.heap.size + 1, 0, none⟩ (.int .i64 t)).setCell ⟨w.heap.size + 1, 1, none⟩ (.slice A' n' c')) :=
  (h.on hb).done t hm (by have := h.size; omega)

set_option maxRecDepth 100000 in
set_option maxHeartbeats 4000000 in
theorem rtrunc_any (s : Int) (A : Option Addr) (n c : Nat) (L : List Ex) (t : Int) (w : World) (h : Exts w A n c L) (hn : n ≤ 100000) (z : Bool) (hz : (decide (0 ≤ t) && decide (t ≤ 1099511627776) && may s L) = z) :
    Calls Tryz.prog 71 #[ct s A n c, .int .i64 t] w (CtPost z (if z = true then t else 0) (fun M => M = if z = true then wo L t 1099511627776 else []) w) := by
  have D0 := Lib.hid (duo_new w s A n c)
  have H := Lib.hid h
  have HZ := Lib.hid hz
  have hmx := h.max
  clear h hz
  show Calls Tryz.prog 71 #[.agg #[.int .i64 s, .slice A n c], .int .i64 t] w _
  go_enter Tryz.func71, Tryz.ntmps71
  go_wp2_with fail
  obtain ⟨y, hy⟩ : ∃ y, may s L = y := ⟨_, rfl⟩
  have HY := Lib.hid hy
  clear hy
  refine (rmay_any s A n c L _ (H.out.on D0.out.below) y HY.out).mono ?_
  rintro e w1 ⟨rfl, k1⟩
  have D1 := Lib.hid (D0.out.on k1)
  clear k1 D0
  have c0 := D1.out.b0.c0; have c1 := D1.out.b0.c1; have d0 := D1.out.b1.c0; have d1 := D1.out.b1.c1; have f0 := D1.out.b1.f0; have f1 := D1.out.b1.f1
  cases y with
  | false =>
    have hzy : false = z := by rw [← HZ.out, HY.out]; simp
    subst hzy
    go_wp2
    refine res_box2 rfl (w.heap.size + 1) 0 none 0 0 rfl D1.out.none.1 rfl ?_
    exact ⟨none, 0, 0, [], rfl, rfl, D1.out.none.2.1, D1.out.none.2.2⟩
  | true =>
    by_cases t0 : 0 ≤ t
    · by_cases t1 : t ≤ 1099511627776
      · have hzy : true = z := by rw [← HZ.out, HY.out]; simp [t0, t1]
        subst hzy
        have HG := Lib.hid ((may_iff s L).1 HY.out)
        obtain ⟨hb0, hb1⟩ : w.heap.size < w1.heap.size ∧ w.heap.size + 1 < w1.heap.size := by have := D1.out.size; omega
        have KA := Lib.hid (show Below w1.heap.size w1 (w1.alloc (.cells #[.int .i64 t, .slice none 0 0] 32)) from (Below.refl _ _).alloc (Nat.le_refl _) _)
        have BA := Lib.hid (box_new w1 t none 0 0)
        go_wp2
        go_loopw [7] (fun i wr => ∃ (j c' : Nat) (A' : Option Addr), j ≤ n ∧ i = .int .i64 j ∧ Hid (Box wr w1.heap.size t A' (wo (L.take j) t 1099511627776).length c') ∧ Hid (Own (w1.heap.size + 1) wr (.slice A' (wo (L.take j) t 1099511627776).length c') (wo (L.take j) t 1099511627776)) ∧ Hid (Below w1.heap.size w1 wr)) (fun i _ => n - (intOf i).toNat)
        case atStart => exact ⟨0, 0, none, Nat.zero_le _, rfl, BA.out, own_nil _ _, KA.out⟩
        case round =>
          clear KA BA c0 c1 d0 d1 f0 f1
          obtain ⟨j, c', A', hj, rfl, BO, OO, K2⟩ := hrel
          have D2 := Lib.hid (D1.out.on K2.out)
          have c0 := D2.out.b0.c0; have c1 := D2.out.b0.c1; have d0 := D2.out.b1.c0; have d1 := D2.out.b1.c1; have f0 := D2.out.b1.f0; have f1 := D2.out.b1.f1
          have o0 := BO.out.c0; have o1 := BO.out.c1
          by_cases hlt : j < n
          · obtain ⟨b, o, rfl, hb, hc⟩ := H.out.cells (by omega)
            have hjl : j < L.length := by rw [H.out.len]; exact hlt
            have HX := Lib.hid (show wr.rangeAt b (o + j * 9) (ecl (L.getD j default)) from fun i v hv => (D2.out.below.cell (p := ⟨b, o + j * 9 + i, none⟩) hb).trans (hc j hlt i v hv))
            have HE := Lib.hid (H.out.get j hlt)
            have HT := Lib.hid (wo_take L t 1099511627776 j hjl)
            have hrg := HG.out.rng (L.getD j default) (by rw [getD_eq hjl]; exact List.getElem_mem _)
            have HL := Lib.hid (wo_take_len L t 1099511627776 j)
            have hji : (j : Int) < (n : Int) := by omega
            clear hc
            generalize L.getD j default = e at *
            obtain ⟨no, hno⟩ : ∃ no, e.no = no := ⟨_, rfl⟩
            rw [hno] at hrg HT
            obtain ⟨n0, n1⟩ := hrg
            rw [whole_trunc n1] at HT
            have HN := Lib.hid hno
            clear hno
            by_cases g : t ≤ no * 8
            · have HI := Lib.hid (show wo (L.take (j + 1)) t 1099511627776 = wo (L.take j) t 1099511627776 by rw [HT.out]; simp [g])
              go_wp2_with (first | (refine st_loadx rfl _ rfl b (o + j * 9) rfl e HX.out HE.out ?_) | (refine st_allocx rfl rfl ?_; intro b1 w3 hb1 x1 k3; have X1 := Lib.hid x1; have K3 := Lib.hid k3; clear x1 k3) | (refine st_storev rfl _ _ rfl b1 rfl e rfl HE.out _ X1.out ?_; intro w4 x2 o2 s2; have X2 := Lib.hid x2; have K4 := Lib.hid (K3.out.trans (o2.below K3.out.size (fun d hd => by omega))); clear x2 o2 s2; have e0 := X2.out.no; rw [HN.out] at e0))
              go_roundw
              case rel => exact ⟨j + 1, c', A', by omega, by go_num, by rw [HI.out]; exact BO.out.on K4.out, by rw [HI.out]; exact OO.out.on K4.out, K2.out.trans (K4.out.mono K2.out.size)⟩
              case measure => simp [intOf]; omega
            · have HI := Lib.hid (show wo (L.take (j + 1)) t 1099511627776 = wo (L.take j) t 1099511627776 ++ [cutx e t 1099511627776] by rw [HT.out]; simp [g])
              go_wp2_with (first | (refine st_loadx rfl _ rfl b (o + j * 9) rfl e HX.out HE.out ?_) | (refine st_allocx rfl rfl ?_; intro b1 w3 hb1 x1 k3; have X1 := Lib.hid x1; have K3 := Lib.hid k3; clear x1 k3) | (refine st_storev rfl _ _ rfl b1 rfl e rfl HE.out _ X1.out ?_; intro w4 x2 o2 s2; have X2 := Lib.hid x2; have K4 := Lib.hid (K3.out.trans (o2.below K3.out.size (fun d hd => by omega))); clear x2 o2 s2; have e0 := X2.out.no; rw [HN.out] at e0))
              have HB1 := Lib.hid hb1
              obtain ⟨wp, hwp⟩ : ∃ W, W = wr := ⟨_, rfl⟩
              subst hwp
              go_loopw [9] (fun i wr => ∃ k : Nat, k ≤ 8 ∧ i = .int .i64 k ∧ Hid (XRow wr b1 (cutk e t 1099511627776 k)) ∧ Hid (Below wp.heap.size wp wr)) (fun i _ => 8 - (intOf i).toNat)
              case atStart => exact ⟨0, by omega, rfl, by rw [cutk_zero HE.out]; exact X2.out, K4.out⟩
              case round =>
                clear X2 K4 e0
                obtain ⟨k, hk, rfl, X5, K5⟩ := hrel
                have e0 : wr.cell? ⟨b1, 0, none⟩ = some (.int .i64 no) := by rw [← HN.out]; exact X5.out.no
                have hki : (k : Int) ≤ 8 := by omega
                have e1 := BO.out.on K5.out
                have o0' := e1.c0; have o1' := e1.c1; have o1f := e1.f1
                clear o0 o1 c0 c1 d0 d1 f0 f1
                have D5 := Lib.hid (D2.out.on K5.out)
                have c0 := D5.out.b0.c0; have c1 := D5.out.b0.c1; have d0 := D5.out.b1.c0; have d1 := D5.out.b1.c1; have f0 := D5.out.b1.f0; have f1 := D5.out.b1.f1
                by_cases hk8 : k < 8
                · have cb := X5.out.byte k hk8
                  have fb := X5.out.free (1 + k)
                  have hkI : (k : Int) < 8 := by omega
                  by_cases gk : t ≤ no * 8 + (k : Int)
                  · have XX := Lib.hid (X5.out.zero k hk8 (cutk_yes e t 1099511627776 k hk8 (by rw [HN.out]; omega)) (cutk_ok HE.out t 1099511627776 (k + 1)))
                    go_wp2
                    go_roundw
                    case rel => exact ⟨k + 1, by omega, by go_num, XX.out.1, K5.out.trans (XX.out.2.below K5.out.size (fun d hd => by have := HB1.out; omega))⟩
                    case measure => simp [intOf]; omega
                  · have XX := Lib.hid (show XRow wr b1 (cutk e t 1099511627776 (k + 1)) by rw [cutk_no e t 1099511627776 k (by rw [HN.out]; omega)]; exact X5.out)
                    go_wp2
                    go_roundw
                    case rel => exact ⟨k + 1, by omega, by go_num, XX.out, K5.out⟩
                    case measure => simp [intOf]; omega
                · obtain rfl : k = 8 := by omega
                  have X6 := Lib.hid (show XRow wr b1 (cutx e t 1099511627776) by rw [← cutk_full]; exact X5.out)
                  have O6 := Lib.hid (OO.out.on K5.out)
                  clear X5
                  have HS6 := Lib.hid (show wp.heap.size ≤ wr.heap.size from K5.out.size)
                  have HS2 := Lib.hid (show w1.heap.size + 1 ≤ wp.heap.size from by have := BO.out.lt; omega)
                  go_wp2_with (first | (refine st_loadx rfl _ rfl b1 0 rfl (cutx e t 1099511627776) X6.out.range (cutx_ok HE.out t 1099511627776) ?_) | (refine st_one rfl _ rfl (cutx e t 1099511627776) rfl (cutx_ok HE.out t 1099511627776) ?_; intro b6 w6 hb6 r6 k6; have E6 := Lib.hid (exts_one r6 (cutx_ok HE.out t 1099511627776)); have K6 := Lib.hid (K5.out.trans (k6.mono K5.out.size)); clear r6 k6) | (at_builtin; refine st_cat rfl _ _ rfl (w1.heap.size + 1) (.slice A' (wo (L.take j) t 1099511627776).length c') (wo (L.take j) t 1099511627776) rfl (OO.out.on K6.out) _ _ _ [cutx e t 1099511627776] rfl E6.out (by have := HL.out; omega) (Nat.le_trans HS2.out K6.out.size) ?_; intro v' w7 q7 k7; rw [← HI.out] at q7; obtain ⟨A7, c7, hv, _, _⟩ := q7.exts; subst hv; have Q7 := Lib.hid q7; have B7 := Lib.hid (show Box w7 w1.heap.size t A' (wo (L.take j) t 1099511627776).length c' from (k7.block w1.heap.size (by omega)).trans (BO.out.on K6.out)); have K7 := Lib.hid ((K2.out.trans (K6.out.mono K2.out.size)).trans (k7.mono (Nat.le_succ _))); have z0 := B7.out.c0; have z1 := B7.out.c1; have z2 := B7.out.f1; clear q7 k7))
                  go_roundw
                  case rel => exact ⟨j + 1, c7, A7, by omega, by go_num, B7.out.set1 _ _ _, Q7.out.past 1 _, below_set1 K7.out (Nat.le_refl _) 1 _⟩
                  case measure => simp [intOf]; omega
          · obtain rfl : j = n := by omega
            have HF := Lib.hid (show wo (L.take j) t 1099511627776 = wo L t 1099511627776 by rw [List.take_of_length_le (Nat.le_of_eq H.out.len)])
            obtain ⟨A9, c9, hv, hm⟩ := OO.out.mut
            have BO9 := BO.out
            rw [HF.out] at hv hm BO9 o1
            injection hv with hv1 hv2 hv3
            subst hv1 hv3
            have HM := Lib.hid hm; have HB9 := Lib.hid BO9
            clear hm BO9 hv2
            go_wp2
            have X := duo_grew D1.out K2.out t HM.out
            refine res_box2 rfl (w.heap.size + 1) t A' _ c' rfl X.1 rfl ?_
            exact ⟨A', _, c', wo L t 1099511627776, rfl, rfl, X.2.1, X.2.2⟩
      · have hzy : false = z := by rw [← HZ.out]; simp [t1]
        subst hzy
        go_wp2
        refine res_box2 rfl (w.heap.size + 1) 0 none 0 0 rfl D1.out.none.1 rfl ?_
        exact ⟨none, 0, 0, [], rfl, rfl, D1.out.none.2.1, D1.out.none.2.2⟩
    · have hzy : false = z := by rw [← HZ.out]; simp [t0]
      subst hzy
      go_wp2
      refine res_box2 rfl (w.heap.size + 1) 0 none 0 0 rfl D1.out.none.1 rfl ?_
      exact ⟨none, 0, 0, [], rfl, rfl, D1.out.none.2.1, D1.out.none.2.2⟩
end Go.Proofs.YtgaaieipeiekiaaGreat

namespace Go.Proofs.YtgaaieipeiekiaaGreat

def xins (L : List Ex) (no : Int) : List Ex := if (look L no).isSome = true then L else L.take (idx L no) ++ ([⟨no, nul8⟩] ++ L.drop (idx L no))
theorem ins_look {L : List Ex} (hu : Up L) (no m : Int) : look (xins L no) m = if m = no then some ((look L no).getD nul8) else look L m := by
  unfold xins
  cases h : look L no with
  | some bs =>
    rw [if_pos (show (some bs).isSome = true from rfl)]
    by_cases g : m = no
    · subst g; rw [h, if_pos rfl]; rfl
    · rw [if_neg g]
  | none =>
    rw [if_neg (by simp), look_append, look_append, look_take hu, look_drop hu]
    simp only [look, Option.getD_none]
    by_cases g : m = no
    · subst g
      rw [if_neg (Int.lt_irrefl _), if_pos rfl, if_pos rfl]
    · have g' : ¬ no = m := fun x => g x.symm
      by_cases g2 : m < no
      · simp only [if_neg g', if_neg g, if_pos g2]
        cases look L m <;> rfl
      · simp only [if_neg g', if_neg g, if_neg g2]
theorem up_ins {L : List Ex} (hu : Up L) (no : Int) : Up (xins L no) := by
  unfold xins
  split
  next => exact hu
  next h =>
    have hn : look L no = none := by
      cases hl : look L no with
      | none => rfl
      | some _ => rw [hl] at h; exact absurd rfl h
    refine List.pairwise_append.2 ⟨up_take hu _, List.pairwise_append.2 ⟨List.pairwise_singleton _ _, up_drop hu _, fun a ha b hb => ?_⟩, fun a ha b hb => ?_⟩
    · rw [List.mem_singleton] at ha
      subst ha
      have h1 := drop_no hu hb
      have h2 : b.no ≠ no := by
        intro he
        have := look_mem hu (List.mem_of_mem_drop hb)
        rw [he, hn] at this
        cases this
      show no < b.no
      omega
    · have h1 := take_no ha
      rcases List.mem_append.1 hb with hb | hb
      · rw [List.mem_singleton] at hb
        subst hb
        exact h1
      · have h2 := drop_no hu hb
        omega
theorem ins_len (L : List Ex) (no : Int) : (xins L no).length ≤ L.length + 1 := by
  unfold xins
  split
  next => omega
  next => simp; omega
theorem ins_ok {L : List Ex} (h : ∀ e ∈ L, e.ok) (no : Int) : ∀ e ∈ xins L no, e.ok := by
  unfold xins
  intro e he
  split at he
  next => exact h e he
  next =>
    rcases List.mem_append.1 he with he | he
    · exact h e (List.mem_of_mem_take he)
    · rcases List.mem_append.1 he with he | he
      · rw [List.mem_singleton] at he
        subst he
        exact ok_nul no
      · exact h e (List.mem_of_mem_drop he)
end Go.Proofs.YtgaaieipeiekiaaGreat
