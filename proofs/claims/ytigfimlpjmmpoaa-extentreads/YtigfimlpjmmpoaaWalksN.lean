/- Contract of extent's Write. -/
import Derived.Test.YtigfimlpjmmpoaaWalksM
import Derived.Test.YtigfimlpjmmpoaaWalksJ
import Derived.Test.YtigfimlpjmmpoaaSpecE
import Derived.WalkKit
import Derived.WalkSpells
import Derived.WalkLawsBesides
import Derived.Lib.Hide
import Derived.BigQuiet
import Derived.Deep.RegionLaw
import Derived.Deep.RegionWith
namespace Go.Proofs.Ytigfimlpjmmpoaa
open Go.RowKit

/-- Bytes copied into a block of a slice of blocks. -/
theorem step_copyx {ops : Array Oper} {o : Oper} {a : Act} {w : World} {K : Act → World → Prop} {Q : Exit → Act → World → Prop} {E : Prop} (hgd : o.guard = none) (d s : Operand)
    (ho : o.op = .call { callee := .builtin .copy, args := #[d, s], argTypes := #[27, 27] }) (B g o' n c : Nat) (M : List Ex) (j r : Nat) (hj : j < n) (hm : Mut B w (some ⟨g, o', none⟩) n c M) (off dLen dCap : Nat) (hoff : off = o' + j * 9 + 1 + r) (ad : Addr) (sLen sCap : Nat) (hd : a.eval d = .slice (some ⟨g, off, none⟩) dLen dCap) (hs : a.eval s = .slice (some ad) sLen sCap)
    (cs : List Int) (hn : cs.length = Nat.min sLen dLen) (hsrc : ∀ j v, (by8 cs)[j]? = some v → w.cell? (ad.add j) = some v) (hr : r + cs.length ≤ 8) (hb : ∀ x ∈ cs, 0 ≤ x ∧ x ≤ 255)
    (h : ∀ w', Mut B w' (some ⟨g, o', none⟩) n c (M.set j ⟨(M.getD j default).no, splice (M.getD j default).bs r cs⟩) → Only (fun k => k = g) w w' → K (a.put o.dst (goInt cs.length)) w') : if Region.wanted o (yielded ops a.tmps) = true then Oper.wp Try.prog o a w K Q else E := by
  have hw : Region.wanted o (yielded ops a.tmps) = true := by simp [Region.wanted, hgd]
  rw [if_pos hw]
  subst hoff
  have hok := hm.exts.get j hj
  have hrun := run_copy_cells (P := Try.prog) w 27 27 o.type 5 g (o' + j * 9 + 1 + r) dLen dCap ad sLen sCap (by8 cs) Try.underlying27 (by kernel_rfl) (by rw [by8_len]; exact hn) hsrc
    (fun i hi => by rw [by8_len] at hi; rw [Nat.add_assoc (o' + j * 9 + 1), hm.exts.byte j hj (r + i) (by omega)]; rfl) (fun i hi => (hm.own g o' rfl).2.2 _) (by8_one cs)
  rw [by8_len] at hrun
  unfold Oper.wp
  simp [execOp, ho, resolve, invoke, builtin, hd, hs, hrun, Result.andThen]
  have hp := hm.put j (1 + r) (by8 cs) ⟨(M.getD j default).no, splice (M.getD j default).bs r cs⟩ hj (by rw [by8_len]; omega) (ok_splice hok r cs hr hb) (splice_bytes r cs)
  rw [show o' + j * 9 + (1 + r) = o' + j * 9 + 1 + r by omega] at hp
  exact h _ hp (only_setCells _ _ _ _)

theorem Duo.only {S : Nat → Prop} {w W W' : World} {s : Int} {A : Option Addr} {n c : Nat} (h : Duo w W s A n c) (k : Only S W W') (hS : ∀ d, S d → w.heap.size + 2 ≤ d) : Duo w W' s A n c :=
  ⟨h.b0.only k (fun hd => by have := hS _ hd; omega), h.b1.only k (fun hd => by have := hS _ hd; omega), h.below.trans (k.below h.below.size (fun d hd => by have := hS d hd; omega)), Nat.le_trans h.size k.size⟩
theorem alo_len (L : List Ex) (p k : Int) : (alo L p k).length ≤ 2 * L.length + ((p + k - 1) / 8 - p / 8 + 1).toNat := by
  unfold alo fil
  rw [List.length_append, List.length_append, blk_len, List.length_take, List.length_drop]
  omega
def wsz (s p : Int) (len : Nat) : Int := if len = 0 then s else max s (p + (len : Int))
def WR (L : List Ex) (p : Int) (bs : List Int) (M : List Ex) : Prop := Up M ∧ ∀ k, look M k = if bs = [] then look L k else wlook L p bs k

set_option maxRecDepth 100000 in
set_option maxHeartbeats 8000000 in
theorem write_any (s : Int) (A : Option Addr) (n c : Nat) (L : List Ex) (p : Int) (BA : Option Addr) (nb cb : Nat) (bs : List Int) (w : World) (h : Exts w A n c L) (hn : n ≤ 10000) (hb : Nums .u8 w BA nb cb bs) (hb8 : ∀ x ∈ bs, 0 ≤ x ∧ x ≤ 255) (z : Bool) (hz : ((eo p (nb : Int)).isSome && decide (nb ≤ 4096) && may s L) = z) :
    Calls Try.prog 12 #[ct s A n c, .int .i64 p, .slice BA nb cb] w (CtPost z (if z = true then wsz s p nb else 0) (fun M => if z = true then WR L p bs M else M = []) w) := by
  have D0 := Lib.hid (duo_new w s A n c)
  have H := Lib.hid h; have HB := Lib.hid hb; have HB8 := Lib.hid hb8
  have HZ := Lib.hid hz
  have hnbm : nb ≤ 9223372036854775807 := by have := hb.le; have := hb.mx; unfold maxLen at this; omega
  clear h hz hb hb8
  show Calls Try.prog 12 #[.agg #[.int .i64 s, .slice A n c], .int .i64 p, .slice BA nb cb] w _
  go_enter Try.func12, Try.ntmps12
  go_wp2_with fail
  obtain ⟨d, hd⟩ : ∃ d, eo p (nb : Int) = d := ⟨_, rfl⟩
  have HD := Lib.hid hd
  clear hd
  refine (end_any p (nb : Int) _ d HD.out).mono ?_
  rintro e w1 ⟨rfl, k1⟩
  have D1 := Lib.hid (D0.out.on k1)
  clear k1 D0
  have c0 := D1.out.b0.c0; have c1 := D1.out.b0.c1; have d0 := D1.out.b1.c0; have d1 := D1.out.b1.c1; have f0 := D1.out.b1.f0; have f1 := D1.out.b1.f1
  cases d with
  | none =>
    have hzy : false = z := by rw [← HZ.out, HD.out]; rfl
    subst hzy
    simp only [Option.getD_none, Option.isSome_none]
    go_wp2
    refine res_box2 rfl (w.heap.size + 1) 0 none 0 0 rfl D1.out.none.1 rfl ?_
    exact ⟨none, 0, 0, [], rfl, rfl, D1.out.none.2.1, D1.out.none.2.2⟩
  | some t =>
    obtain ⟨p0, k0, rfl, t1⟩ := eo_some HD.out
    simp only [Option.getD_some, Option.isSome_some]
    by_cases q2 : nb ≤ 4096
    · have q2i : (nb : Int) ≤ 4096 := by omega
      go_wp2_with fail
      obtain ⟨y, hy⟩ : ∃ y, may s L = y := ⟨_, rfl⟩
      have HY := Lib.hid hy
      have HZY := Lib.hid (show y = z by rw [← HZ.out, HD.out, hy]; simp [q2])
      clear hy
      refine (may_any s A n c L _ (H.out.on D1.out.below) y HY.out).mono ?_
      rintro e w2 ⟨rfl, k2⟩
      have D2 := Lib.hid (D1.out.on k2)
      clear k2 c0 c1 d0 d1 f0 f1 D1
      have c0 := D2.out.b0.c0; have c1 := D2.out.b0.c1; have d0 := D2.out.b1.c0; have d1 := D2.out.b1.c1; have f0 := D2.out.b1.f0; have f1 := D2.out.b1.f1
      have hzy := HZY.out
      subst hzy
      cases y with
      | false =>
        go_wp2
        refine res_box2 rfl (w.heap.size + 1) 0 none 0 0 rfl D2.out.none.1 rfl ?_
        exact ⟨none, 0, 0, [], rfl, rfl, D2.out.none.2.1, D2.out.none.2.2⟩
      | true =>
        have HG := Lib.hid ((may_iff s L).1 HY.out)
        have hs0 := HG.out.s0; have hs1 := HG.out.s1
        rcases Nat.eq_zero_or_pos nb with hb0 | hb0
        · have hbn : (nb : Int) = 0 := by omega
          have HE := Lib.hid (show bs = [] from List.eq_nil_of_length_eq_zero (HB.out.len.trans hb0))
          have HV := Lib.hid (show wsz s p nb = s by simp [wsz, hb0])
          replace hb0 := Lib.hid hb0
          go_wp2
          have DD := Lib.hid (D2.out.on (Below.refl _ _).drew)
          go_region_with (go_at_call 33; refine (clone_any A n c L _ (H.out.on DD.out.below) (by omega)).mono ?_; rintro e w3 ⟨A', c', rfl, hm, k3⟩; have D3 := Lib.hid (DD.out.on k3); have HM := Lib.hid hm; have g0 := D3.out.b0.c0; have g1 := D3.out.b0.c1; have i0 := D3.out.b1.c0; have i1 := D3.out.b1.c1; have j0 := D3.out.b1.f0; have j1 := D3.out.b1.f1; clear k3 hm)
          all_goals
            go_wp2
            have X := D3.out.done s HM.out DD.out.size
            refine res_box2 rfl (w.heap.size + 1) s A' _ c' rfl X.1 rfl ?_
            exact ⟨A', _, c', L, by rw [HV.out]; rfl, ⟨HG.out.up, fun k => by rw [if_pos HE.out]⟩, X.2.1, X.2.2⟩
        · have hbn : ¬ (nb : Int) = 0 := by omega
          obtain ⟨M0, hM0⟩ : ∃ M0, alo L p (nb : Int) = M0 := ⟨_, rfl⟩
          have hMu : Up M0 := by rw [← hM0]; exact up_fil HG.out.up (by omega) (by omega)
          have hMl : ∀ k, look M0 k = glook L p bs 0 k := fun k => by
            rw [glook_zero H.out.ok, HB.out.len, ← hM0]; exact fil_look HG.out.up (by omega) (by omega) k
          have CF := Lib.hid (filled_any A n c L p (p + (nb : Int)) w2 (H.out.on D2.out.below) HG.out.up hn p0 (by omega) t1 (p / 8) ((p + (nb : Int) - 1) / 8) ((p + (nb : Int) - 1) / 8 - p / 8 + 1).toNat rfl rfl (by omega) (by omega) M0 hM0)
          have HMs := Lib.hid (show M0.length ≤ 30000 by have h1 := alo_len L p (nb : Int); rw [hM0, H.out.len] at h1; omega)
          have HMU := Lib.hid hMu; have HML := Lib.hid hMl
          clear hM0 hMu hMl
          go_wp2_with fail
          refine CF.out.mono ?_
          rintro e w3 ⟨A', c', rfl, hm, k3⟩
          have D3 := Lib.hid (D2.out.on k3); have HM3 := Lib.hid hm
          clear k3 hm c0 c1 d0 d1 f0 f1 CF
          obtain ⟨a, ha⟩ : ∃ a, idx M0 (p / 8) = a := ⟨_, rfl⟩
          obtain ⟨y, hy⟩ : ∃ y, (look M0 (p / 8)).isSome = y := ⟨_, rfl⟩
          have HA := Lib.hid ha; have HY2 := Lib.hid hy
          clear ha hy
          obtain ⟨ml, hml⟩ : ∃ ml, M0.length = ml := ⟨_, rfl⟩
          rw [hml] at HM3
          simp only [hml]
          have HMLe := Lib.hid hml
          clear hml
          have HPR := Lib.hid (show ∀ M : List Ex, (∀ d : Nat, (∀ k, look M k = glook L p bs d k) → Up M → ∀ i : Nat, p / 8 + (i : Int) ≤ (p + (nb : Int) - 1) / 8 → idx M (p / 8) + i < M.length ∧ (M.getD (idx M (p / 8) + i) default).no = p / 8 + (i : Int)) from fun M d hl hu i hi => by
            refine run_pos hu (m := ((p + (nb : Int) - 1) / 8 - p / 8 + 1).toNat) (fun q hq => ?_) i (by omega)
            rw [hl, glook, if_pos (by rw [HB.out.len]; omega)]
            simp)
          go_wp2_with fail
          refine (find_any A' ml c' M0 (p / 8) _ HM3.out.exts HMU.out (by have := HMs.out; have := HMLe.out; omega) a y HA.out HY2.out).mono ?_
          rintro e w4 ⟨rfl, k4⟩
          have D4 := Lib.hid (D3.out.on k4); have HM4 := Lib.hid (HM3.out.on k4)
          clear k4 D3 HM3
          have c0 := D4.out.b0.c0; have c1 := D4.out.b0.c1; have d0 := D4.out.b1.c0; have d1 := D4.out.b1.c1; have f0 := D4.out.b1.f0; have f1 := D4.out.b1.f1
          go_wp2_with fail
          have HPO := Lib.hid (show Plain.partsOf 8 p (nb : Int) = Plain.partsFrom 8 nb p (nb : Int) by rw [Plain.partsOf, if_pos ⟨(Plain.span_iff _ _).2 ⟨p0, by omega, by omega, by omega⟩, by omega, by omega⟩, Int.toNat_natCast])
          refine (parts_any p (nb : Int) 8 w4 (by omega)).mono ?_
          rintro e w5 ⟨v, rfl, o5, k5⟩
          rw [HPO.out] at o5
          obtain ⟨PA, PC, rfl, hps, hpb⟩ := own_pairs o5
          obtain ⟨g, o, rfl, hgl, _⟩ := HM4.out.exts.cells (by
            have h1 := HPR.out M0 0 HML.out HMU.out 0 (by omega)
            rw [HMLe.out] at h1; omega)
          obtain ⟨hg1, hg2, _⟩ := HM4.out.own g o rfl
          have HPB := Lib.hid (show ∀ g' o', PA = some ⟨g', o', none⟩ → ¬ g' = g from fun g' o' he => by have := hpb g' o' he; omega)
          have HPS := Lib.hid hps
          have D5 := Lib.hid (D4.out.on k5); have HM5 := Lib.hid (HM4.out.on k5)
          have HG1 := Lib.hid hg1; have HD2 := Lib.hid D2.out.size
          clear o5 hps k5 D4 HM4 c0 c1 d0 d1 f0 f1 hpb hgl hg1 hg2
          obtain ⟨ps, hps⟩ : ∃ ps, Plain.partsFrom 8 nb p (nb : Int) = ps := ⟨_, rfl⟩
          rw [hps] at HPS
          have HPF := Lib.hid hps
          have hpl := HPS.out.mx
          obtain ⟨kk, hkk⟩ : ∃ kk, ps.length = kk := ⟨_, rfl⟩
          rw [hkk] at HPS hpl
          have HKK := Lib.hid hkk
          simp only [hps, hkk]
          clear hkk hps HPO
          have hkm : kk ≤ 9223372036854775807 := by unfold maxLen at hpl; omega
          have c0 := D5.out.b0.c0; have c1 := D5.out.b0.c1
          go_wp2
          go_loopw [62] (fun i wr => ∃ (j d F : Nat) (M : List Ex), j ≤ kk ∧ i = .int .i64 j ∧ d ≤ nb ∧ nb - d ≤ F ∧ Hid (ps.drop j = Plain.partsFrom 8 F (p + (d : Int)) ((nb : Int) - (d : Int))) ∧ Hid (Mut w2.heap.size wr (some ⟨g, o, none⟩) ml c' M) ∧ Hid (Up M) ∧ Hid (∀ k, look M k = glook L p bs d k) ∧ Hid (M.map (·.no) = M0.map (·.no)) ∧ Hid (d < nb → (p + (d : Int)) / 8 = p / 8 + (j : Int)) ∧ Hid (Duo w wr s A n c) ∧ Hid (Pairs wr PA kk ps)) (fun i _ => kk - (intOf i).toNat)
          case atStart => exact ⟨0, 0, nb, M0, Nat.zero_le _, rfl, Nat.zero_le _, by omega, by unfold Hid; rw [← HPF.out]; simp, HM5.out, HMU.out, HML.out, rfl, fun _ => by simp, D5.out, HPS.out⟩
          case round =>
            clear HM5 D5 HPS c0 c1
            obtain ⟨j, d, F, M, hj, rfl, hd, hF, HD0, M6, U6, G6, N6, I6, D6, P6⟩ := hrel
            have c0 := D6.out.b0.c0; have c1 := D6.out.b0.c1; have hbl := D6.out.b0.lt
            by_cases hlt : j < kk
            · obtain ⟨pb, po, rfl, hpbl, hpc⟩ := P6.out.cells (by omega)
              obtain ⟨hd0, hpa, hdr⟩ := parts_at (by rw [HKK.out]; exact hlt) HD0.out (by omega) (by omega)
              obtain ⟨e0, e1⟩ := hpc j hlt
              rw [hpa] at e0 e1
              simp only at e0 e1
              have HDR := Lib.hid hdr
              clear hpc hdr hpa
              have hdn : d < nb := by omega
              have hblk := I6.out hdn
              obtain ⟨P, hP⟩ : ∃ P, p + (d : Int) = P := ⟨_, rfl⟩
              rw [hP] at hblk
              obtain ⟨r, hr⟩ : ∃ r : Nat, P % 8 = (r : Int) := ⟨(P % 8).toNat, by omega⟩
              obtain ⟨t, ht⟩ : ∃ t : Nat, Plain.partLen 8 P ((nb : Int) - (d : Int)) = (t : Int) := by
                refine ⟨(Plain.partLen 8 P ((nb : Int) - (d : Int))).toNat, ?_⟩
                have := Plain.partLen_bounds 8 P ((nb : Int) - (d : Int)) (by omega) (by omega) hd0
                omega
              have htt : (t : Int) = if (nb : Int) - (d : Int) < 8 - (r : Int) then (nb : Int) - (d : Int) else 8 - (r : Int) := by rw [← ht, Plain.partLen, hr]
              have ht1 : t = min (nb - d) (8 - r) := by split at htt <;> omega
              rw [hP] at e0 e1 HDR
              rw [ht] at e1 HDR
              have hP0 : 0 ≤ P := by omega
              have hr8 : r < 8 := by omega
              have hPd : P - p = (d : Int) := by omega
              have hPm : P ≤ 1099511627776 := by omega
              have hpos := HPR.out M d G6.out U6.out j (by omega)
              have hidx : idx M (p / 8) = a := by rw [← HA.out]; exact idx_nos M M0 _ N6.out
              rw [hidx] at hpos
              have hMl : M.length = ml := by rw [← HMLe.out]; have := congrArg List.length N6.out; simpa using this
              rw [hMl] at hpos
              obtain ⟨hx1, hx2⟩ := hpos
              obtain ⟨x, hxe⟩ : ∃ x, a + j = x := ⟨_, rfl⟩
              rw [hxe] at hx1 hx2
              have hlk : look M (P / 8) = some (M.getD x default).bs := by
                have hm : M.getD x default ∈ M := by rw [getD_eq (by omega)]; exact List.getElem_mem _
                have := look_mem U6.out hm
                rwa [hx2, ← hblk] at this
              have hgl := G6.out (P / 8)
              rw [hlk, glook, if_pos (by rw [HB.out.len]; omega)] at hgl
              have hbs : (M.getD x default).bs = wbytes L p (bs.take d) (P / 8) := by injection hgl
              obtain ⟨sb, so, rfl, hsbl, hsc⟩ := HB.out.cells (by omega)
              obtain ⟨cs, hcs⟩ : ∃ cs, (bs.drop d).take t = cs := ⟨_, rfl⟩
              have hcl : cs.length = t := by rw [← hcs]; simp; rw [HB.out.len]; omega
              have HSP := Lib.hid (show splice (M.getD x default).bs r cs = wbytes L p (bs.take (d + t)) (P / 8) by
                rw [hbs, ← hcs]
                exact wbytes_same L p bs d t r (P / 8) (by rw [HB.out.len]; omega) (by rw [hP]) (by rw [hP]; exact hr) (by omega))
              have HC8 := Lib.hid (show ∀ x ∈ cs, 0 ≤ x ∧ x ≤ 255 from fun x hx => HB8.out x (List.mem_of_mem_drop (List.mem_of_mem_take (by rw [← hcs] at hx; exact hx))))
              have HSRC := Lib.hid (show ∀ W, Below w.heap.size w W → ∀ q v, (by8 cs)[q]? = some v → W.cell? ((⟨sb, so + d, none⟩ : Addr).add q) = some v from fun W hW q v hv => by
                have hq : q < t := by have := (List.getElem?_eq_some_iff.1 hv).1; rw [by8_len, hcl] at this; exact this
                rw [Addr.add_mid, Nat.add_assoc, hW.cell (p := ⟨sb, so + (d + q), none⟩) hsbl, hsc (d + q) (by omega), ← hv]
                unfold by8
                rw [List.getElem?_map, ← hcs, List.getElem?_take_of_lt hq, List.getElem?_drop, List.getElem?_eq_getElem (by rw [HB.out.len]; omega), List.getD_eq_getElem?_getD, List.getElem?_eq_getElem (by rw [HB.out.len]; omega)]; rfl)
              have HNX := Lib.hid (show ∀ k, look (M.set x ⟨(M.getD x default).no, splice (M.getD x default).bs r cs⟩) k = glook L p bs (d + t) k from fun k => by
                rw [look_set U6.out x ⟨(M.getD x default).no, splice (M.getD x default).bs r cs⟩ (by omega) rfl k]
                show (if (M.getD x default).no = k then some (splice (M.getD x default).bs r cs) else look M k) = _
                rw [HSP.out, hx2, ← hblk]
                by_cases hk : P / 8 = k
                · rw [if_pos hk, glook, if_pos (by rw [HB.out.len]; omega), hk]
                · rw [if_neg hk, G6.out]
                  unfold glook
                  by_cases hkr : p / 8 ≤ k ∧ k ≤ (p + (bs.length : Int) - 1) / 8
                  · rw [if_pos hkr, if_pos hkr, wbytes_other L p bs d t (P / 8) k (by rw [HB.out.len]; omega) (by rw [hP]) (by rw [hP]; omega) (fun h => hk h.symm)]
                  · rw [if_neg hkr, if_neg hkr])
              have HNU := Lib.hid (up_set U6.out x ⟨(M.getD x default).no, splice (M.getD x default).bs r cs⟩ rfl)
              have HNN := Lib.hid (show (M.set x ⟨(M.getD x default).no, splice (M.getD x default).bs r cs⟩).map (·.no) = M0.map (·.no) by rw [set_nos M x ⟨(M.getD x default).no, splice (M.getD x default).bs r cs⟩ rfl]; exact N6.out)
              have HIX := Lib.hid (show d + t < nb → (p + ((d + t : Nat) : Int)) / 8 = p / 8 + ((j + 1 : Nat) : Int) from fun h => by omega)
              have hcap := HB.out.le
              have KA := Lib.hid (show Below wr.heap.size wr (wr.alloc (.cells #[.int .i64 P, .int .i64 (t : Int)] 56)) from (Below.refl _ _).alloc (Nat.le_refl _) _)
              have hsl8 : ∀ w', (Instr.sliceAt 30 (.pointer (some ⟨g, o + x * 9 + 1, none⟩)) (some (.int .i64 (r : Int))) none none).run Try.prog w' = .ok (.slice (some ⟨g, o + x * 9 + 1 + r, none⟩) (8 - r) (8 - r)) w' := fun w' => by have := cut8_l g (o + x * 9 + 1) r (by omega) w'; rwa [if_neg (by omega)] at this
              have htm : P.tmod 8 = (r : Int) := by rw [Int.tmod_eq_emod_of_nonneg hP0]; exact hr
              have hwd : IntKind.i64.wrap (d : Int) = (d : Int) := IntWalk.i64_in _ (by omega)
              have hwr : IntKind.i64.wrap (r : Int) = (r : Int) := IntWalk.i64_in _ (by omega)
              have haj : (a : Int) + (j : Int) = (x : Int) := by omega
              have hwaj : IntKind.i64.wrap (x : Int) = (x : Int) := IntWalk.i64_in _ (by have := HMs.out; have := HMLe.out; omega)
              have haj0 : (0 : Int) ≤ (x : Int) := by omega
              have haj1 : (x : Int) < (ml : Int) := by omega
              have hdd0 : (0 : Int) ≤ (d : Int) := by omega
              have hdd1 : (d : Int) ≤ (nb : Int) := by omega
              have hrr0 : (0 : Int) ≤ (r : Int) := by omega
              have hrr1 : (r : Int) ≤ 8 := by omega
              have HDPP := Lib.hid hP; have HT := Lib.hid ht1; have HX1 := Lib.hid hx1; have HCL := Lib.hid hcl
              have HTt := Lib.hid (show t = min (nb - d) (8 - r) from ht1)
              have hjk : (j : Int) < (kk : Int) := by omega
              have hjk0 : (0 : Int) ≤ (j : Int) := by omega
              have HXE := Lib.hid hxe
              clear hxe hP ht htt ht1 hx2 hlk hgl hbs hcs hcl hidx hMl hblk hsc
              obtain ⟨Mn, hMn⟩ : ∃ Mn, M.set x ⟨(M.getD x default).no, splice (M.getD x default).bs r cs⟩ = Mn := ⟨_, rfl⟩
              rw [hMn] at HNX HNU HNN
              have HMn := Lib.hid hMn
              clear hMn
              obtain ⟨W, hW⟩ : ∃ W, wr.alloc (.cells #[.int .i64 P, .int .i64 (t : Int)] 56) = W := ⟨_, rfl⟩
              have RW := Lib.hid (show Row W wr.heap.size 56 #[.int .i64 P, .int .i64 (t : Int)] by rw [← hW]; exact Row.new wr 56 _)
              rw [hW] at KA
              have MW := Lib.hid ((M6.out.on KA.out).on (Below.refl _ _).drew)
              have DW := Lib.hid (D6.out.on KA.out); have PW := Lib.hid (P6.out.on KA.out)
              have HWW := Lib.hid hW
              clear hW
              go_wp2
              rw [HWW.out]
              have h0 := RW.out.at 0; have h1 := RW.out.at 1
              simp only [List.getElem?_toArray, List.getElem?_cons_zero, List.getElem?_cons_succ] at h0 h1
              go_region_law (refine step_copyx rfl _ _ rfl w2.heap.size g o ml c' M x r HX1.out MW.out (o + x * 9 + 1 + r) (8 - r) (8 - r) rfl ⟨sb, so + d, none⟩ (nb - d) (cb - d) (by simp [Act.eval, Act.put] <;> omega) (by simp [Act.eval, Act.put] <;> omega) cs (by rw [HCL.out, HTt.out]) (HSRC.out _ (DW.out.below.drew)) (by rw [HCL.out]; have := HTt.out; omega) HC8.out ?_; intro w6 m6 o6; rw [HMn.out] at m6; have M7 := Lib.hid m6; have O7 := Lib.hid ((Only.refl (fun k => k = g) W).drew.trans o6 (fun _ h _ => h)); clear m6 o6)
              all_goals
                have D7 := Lib.hid (DW.out.only O7.out (fun k hk => by have := HG1.out; have := HD2.out; omega))
                have P7 := Lib.hid (PW.out.only O7.out HPB.out)
                go_wp2
                go_roundw
                case rel => exact ⟨j + 1, d + t, F - 1, Mn, by omega, by go_num, by have := HTt.out; omega, by have := HTt.out; omega, by unfold Hid; rw [HDR.out, ← HDPP.out]; congr 1 <;> omega, M7.out, HNU.out, HNX.out, HNN.out, HIX.out, D7.out, P7.out⟩
                case measure => simp [intOf]; omega
            · have hmd := parts_end (by rw [HKK.out]; omega) HD0.out (by omega) (by omega)
              obtain rfl : d = nb := by omega
              have HW := Lib.hid (show WR L p bs M from ⟨U6.out, fun k => by
                rw [if_neg (fun h => by rw [h] at HB; have := HB.out.len; simp at this; omega), G6.out, ← HB.out.len, glook_full]⟩)
              have d0 := D6.out.b1.c0; have d1 := D6.out.b1.c1; have f0 := D6.out.b1.f0; have f1 := D6.out.b1.f1
              by_cases g1 : s < p + (d : Int)
              · have HV := Lib.hid (show wsz s p d = p + (d : Int) by rw [wsz, if_neg (by omega)]; omega)
                go_wp2
                all_goals
                  have X := D6.out.done (p + (d : Int)) M6.out HD2.out
                  refine res_box2 rfl (w.heap.size + 1) (p + (d : Int)) _ ml c' rfl X.1 rfl ?_
                  exact ⟨_, ml, c', M, by rw [HV.out]; rfl, HW.out, X.2.1, X.2.2⟩
              · have g2 : p + (d : Int) ≤ s := by omega
                have HV := Lib.hid (show wsz s p d = s by rw [wsz, if_neg (by omega)]; omega)
                go_wp2
                all_goals
                  have X := D6.out.done s M6.out HD2.out
                  refine res_box2 rfl (w.heap.size + 1) s _ ml c' rfl X.1 rfl ?_
                  exact ⟨_, ml, c', M, by rw [HV.out]; rfl, HW.out, X.2.1, X.2.2⟩
    · have hzy : false = z := by rw [← HZ.out]; simp [q2]
      subst hzy
      have q2i : ¬ (nb : Int) ≤ 4096 := by omega
      go_wp2
      refine res_box2 rfl (w.heap.size + 1) 0 none 0 0 rfl D1.out.none.1 rfl ?_
      exact ⟨none, 0, 0, [], rfl, rfl, D1.out.none.2.1, D1.out.none.2.2⟩
end Go.Proofs.Ytigfimlpjmmpoaa
