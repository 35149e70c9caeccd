/- Contract of extent's Write. / Elements of structs in memory, of any kind: slices of them that are read, rows of one's own. / Lists that rise by a key, without any Go: found, taken, put in. -/
import Derived.Test.YtgaaieipeiekiaaPkD
import Derived.Test.YtgaaieipeiekiaaPkC
import Derived.WalkKit
import Derived.WalkSpells
import Derived.WalkLawsBesides
import Derived.Lib.Hide
import Derived.BigQuiet
import Derived.Deep.RegionLaw
import Derived.Deep.RegionWith
namespace Go.Proofs.Ytgaaieipeiekiaa
open Go.RowKit
set_option maxRecDepth 100000

/-- Bytes copied into a block of a slice of blocks. -/
theorem step_copyx {ops : Array Oper} {o : Oper} {a : Act} {w : World} {K : Act → World → Prop} {Q : Exit → Act → World → Prop} {E : Prop} (hgd : o.guard = none) (d s : Operand)
    (ho : o.op = .call { callee := .builtin .copy, args := #[d, s], argTypes := #[27, 27] }) (B g o' n c : Nat) (M : List Ex) (j r : Nat) (hj : j < n) (hm : Mut B w (some ⟨g, o', none⟩) n c M) (off dLen dCap : Nat) (hoff : off = o' + j * 9 + 1 + r) (ad : Addr) (sLen sCap : Nat) (hd : a.eval d = .slice (some ⟨g, off, none⟩) dLen dCap) (hs : a.eval s = .slice (some ad) sLen sCap)
    (cs : List Int) (hn : cs.length = Nat.min sLen dLen) (hsrc : ∀ j v, (by8 cs)[j]? = some v → w.cell? (ad.add j) = some v) (hr : r + cs.length ≤ 8) (hb : ∀ x ∈ cs, 0 ≤ x ∧ x ≤ 255)
    (h : ∀ w', Mut B w' (some ⟨g, o', none⟩) n c (M.set j ⟨(M.getD j default).no, splice (M.getD j default).bs r cs⟩) → Only (fun k => k = g) w w' → K (a.put o.dst (goInt cs.length)) w') : if Region.wanted o (yielded ops a.tmps) = true then Oper.wp Try.prog o a w K Q else E := by
  have hw : Region.wanted o (yielded ops a.tmps) = true := by simp [Region.wanted, hgd]
  rw [if_pos hw]
  subst hoff
  have hok := hm.exts.get j hj
  have hrun := run_copy_cells (P := Try.prog) w 27 27 o.type 5 g (o' + j * 9 + 1 + r) dLen dCap ad sLen sCap (by8 cs) Try.underlying27 (by kernel_rfl) (by rw [by8_len]; exact hn) hsrc
    (fun i hi => by rw [by8_len] at hi; rw [Nat.add_assoc (o' + j * 9 + 1), hm.exts.byte j hj (r + i) (by omega)]; rfl) (fun i hi => (hm.own g o' rfl).2.2 _) (by8_one cs)
  rw [by8_len] at hrun
  unfold Oper.wp
  simp [execOp, ho, resolve, invoke, builtin, hd, hs, hrun, Result.andThen]
  have hp := hm.put j (1 + r) (by8 cs) ⟨(M.getD j default).no, splice (M.getD j default).bs r cs⟩ hj (by rw [by8_len]; omega) (ok_splice hok r cs hr hb) (splice_bytes r cs)
  rw [show o' + j * 9 + (1 + r) = o' + j * 9 + 1 + r by omega] at hp
  exact h _ hp (only_setCells _ _ _ _)

theorem Duo.only {S : Nat → Prop} {w W W' : World} {s : Int} {A : Option Addr} {n c : Nat} (h : Duo w W s A n c) (k : Only S W W') (hS : ∀ d, S d → w.heap.size + 2 ≤ d) : Duo w W' s A n c :=
  ⟨h.b0.only k (fun hd => by have := hS _ hd; omega), h.b1.only k (fun hd => by have := hS _ hd; omega), h.below.trans (k.below h.below.size (fun d hd => by have := hS d hd; omega)), Nat.le_trans h.size k.size⟩
theorem alo_len (L : List Ex) (p k : Int) : (alo L p k).length ≤ 2 * L.length + ((p + k - 1) / 8 - p / 8 + 1).toNat := by
  unfold alo fil
  rw [List.length_append, List.length_append, blk_len, List.length_take, List.length_drop]
  omega
def wsz (s p : Int) (len : Nat) : Int := if len = 0 then s else max s (p + (len : Int))
def WR (L : List Ex) (p : Int) (bs : List Int) (M : List Ex) : Prop := Up M ∧ ∀ k, look M k = if bs = [] then look L k else wlook L p bs k

set_option maxRecDepth 100000 in
set_option maxHeartbeats 8000000 in
theorem write_any (s : Int) (A : Option Addr) (n c : Nat) (L : List Ex) (p : Int) (BA : Option Addr) (nb cb : Nat) (bs : List Int) (w : World) (h : Exts w A n c L) (hn : n ≤ 10000) (hb : Nums .u8 w BA nb cb bs) (hb8 : ∀ x ∈ bs, 0 ≤ x ∧ x ≤ 255) (z : Bool) (hz : ((eo p (nb : Int)).isSome && decide (nb ≤ 4096) && may s L) = z) :
    Calls Try.prog 70 #[ct s A n c, .int .i64 p, .slice BA nb cb] w (CtPost z (if z = true then wsz s p nb else 0) (fun M => if z = true then WR L p bs M else M = []) w) := by
  have D0 := Lib.hid (duo_new w s A n c)
  have H := Lib.hid h; have HB := Lib.hid hb; have HB8 := Lib.hid hb8
  have HZ := Lib.hid hz
  have hnbm : nb ≤ 9223372036854775807 := by have := hb.le; have := hb.mx; unfold maxLen at this; omega
  clear h hz hb hb8
  show Calls Try.prog 70 #[.agg #[.int .i64 s, .slice A n c], .int .i64 p, .slice BA nb cb] w _
  go_enter Try.func70, Try.ntmps70
  go_wp2_with fail
  obtain ⟨d, hd⟩ : ∃ d, eo p (nb : Int) = d := ⟨_, rfl⟩
  have HD := Lib.hid hd
  clear hd
  refine (end_any p (nb : Int) _ d HD.out).mono ?_
  rintro e w1 ⟨rfl, k1⟩
  have D1 := Lib.hid (D0.out.on k1)
  clear k1 D0
  have c0 := D1.out.b0.c0; have c1 := D1.out.b0.c1; have d0 := D1.out.b1.c0; have d1 := D1.out.b1.c1; have f0 := D1.out.b1.f0; have f1 := D1.out.b1.f1
  cases d with
  | none =>
    have hzy : false = z := by rw [← HZ.out, HD.out]; rfl
    subst hzy
    simp only [Option.getD_none, Option.isSome_none]
    go_wp2
    refine res_box2 rfl (w.heap.size + 1) 0 none 0 0 rfl D1.out.none.1 rfl ?_
    exact ⟨none, 0, 0, [], rfl, rfl, D1.out.none.2.1, D1.out.none.2.2⟩
  | some t =>
    obtain ⟨p0, k0, rfl, t1⟩ := eo_some HD.out
    simp only [Option.getD_some, Option.isSome_some]
    by_cases q2 : nb ≤ 4096
    · have q2i : (nb : Int) ≤ 4096 := by omega
      go_wp2_with fail
      obtain ⟨y, hy⟩ : ∃ y, may s L = y := ⟨_, rfl⟩
      have HY := Lib.hid hy
      have HZY := Lib.hid (show y = z by rw [← HZ.out, HD.out, hy]; simp [q2])
      clear hy
      refine (may_any s A n c L _ (H.out.on D1.out.below) y HY.out).mono ?_
      rintro e w2 ⟨rfl, k2⟩
      have D2 := Lib.hid (D1.out.on k2)
      clear k2 c0 c1 d0 d1 f0 f1 D1
      have c0 := D2.out.b0.c0; have c1 := D2.out.b0.c1; have d0 := D2.out.b1.c0; have d1 := D2.out.b1.c1; have f0 := D2.out.b1.f0; have f1 := D2.out.b1.f1
      have hzy := HZY.out
      subst hzy
      cases y with
      | false =>
        go_wp2
        refine res_box2 rfl (w.heap.size + 1) 0 none 0 0 rfl D2.out.none.1 rfl ?_
        exact ⟨none, 0, 0, [], rfl, rfl, D2.out.none.2.1, D2.out.none.2.2⟩
      | true =>
        have HG := Lib.hid ((may_iff s L).1 HY.out)
        have hs0 := HG.out.s0; have hs1 := HG.out.s1
        rcases Nat.eq_zero_or_pos nb with hb0 | hb0
        · have hbn : (nb : Int) = 0 := by omega
          have HE := Lib.hid (show bs = [] from List.eq_nil_of_length_eq_zero (HB.out.len.trans hb0))
          have HV := Lib.hid (show wsz s p nb = s by simp [wsz, hb0])
          replace hb0 := Lib.hid hb0
          go_wp2
          have DD := Lib.hid (D2.out.on (Below.refl _ _).drew)
          go_region_with (go_at_call 45; refine (clone_any A n c L _ (H.out.on DD.out.below) (by omega)).mono ?_; rintro e w3 ⟨A', c', rfl, hm, k3⟩; have D3 := Lib.hid (DD.out.on k3); have HM := Lib.hid hm; have g0 := D3.out.b0.c0; have g1 := D3.out.b0.c1; have i0 := D3.out.b1.c0; have i1 := D3.out.b1.c1; have j0 := D3.out.b1.f0; have j1 := D3.out.b1.f1; clear k3 hm)
          all_goals
            go_wp2
            have X := D3.out.done s HM.out DD.out.size
            refine res_box2 rfl (w.heap.size + 1) s A' _ c' rfl X.1 rfl ?_
            exact ⟨A', _, c', L, by rw [HV.out]; rfl, ⟨HG.out.up, fun k => by rw [if_pos HE.out]⟩, X.2.1, X.2.2⟩
        · have hbn : ¬ (nb : Int) = 0 := by omega
          obtain ⟨M0, hM0⟩ : ∃ M0, alo L p (nb : Int) = M0 := ⟨_, rfl⟩
          have hMu : Up M0 := by rw [← hM0]; exact up_fil HG.out.up (by omega) (by omega)
          have hMl : ∀ k, look M0 k = glook L p bs 0 k := fun k => by
            rw [glook_zero H.out.ok, HB.out.len, ← hM0]; exact fil_look HG.out.up (by omega) (by omega) k
          have CF := Lib.hid (filled_any A n c L p (p + (nb : Int)) w2 (H.out.on D2.out.below) HG.out.up hn p0 (by omega) t1 (p / 8) ((p + (nb : Int) - 1) / 8) ((p + (nb : Int) - 1) / 8 - p / 8 + 1).toNat rfl rfl (by omega) (by omega) M0 hM0)
          have HMs := Lib.hid (show M0.length ≤ 30000 by have h1 := alo_len L p (nb : Int); rw [hM0, H.out.len] at h1; omega)
          have HMU := Lib.hid hMu; have HML := Lib.hid hMl
          clear hM0 hMu hMl
          go_wp2_with fail
          refine CF.out.mono ?_
          rintro e w3 ⟨A', c', rfl, hm, k3⟩
          have D3 := Lib.hid (D2.out.on k3); have HM3 := Lib.hid hm
          clear k3 hm c0 c1 d0 d1 f0 f1 CF
          obtain ⟨a, ha⟩ : ∃ a, idx M0 (p / 8) = a := ⟨_, rfl⟩
          obtain ⟨y, hy⟩ : ∃ y, (look M0 (p / 8)).isSome = y := ⟨_, rfl⟩
          have HA := Lib.hid ha; have HY2 := Lib.hid hy
          clear ha hy
          obtain ⟨ml, hml⟩ : ∃ ml, M0.length = ml := ⟨_, rfl⟩
          rw [hml] at HM3
          simp only [hml]
          have HMLe := Lib.hid hml
          clear hml
          have HPR := Lib.hid (show ∀ M : List Ex, (∀ d : Nat, (∀ k, look M k = glook L p bs d k) → Up M → ∀ i : Nat, p / 8 + (i : Int) ≤ (p + (nb : Int) - 1) / 8 → idx M (p / 8) + i < M.length ∧ (M.getD (idx M (p / 8) + i) default).no = p / 8 + (i : Int)) from fun M d hl hu i hi => by
            refine run_pos hu (m := ((p + (nb : Int) - 1) / 8 - p / 8 + 1).toNat) (fun q hq => ?_) i (by omega)
            rw [hl, glook, if_pos (by rw [HB.out.len]; omega)]
            simp)
          go_wp2_with fail
          refine (find_any A' ml c' M0 (p / 8) _ HM3.out.exts HMU.out (by have := HMs.out; have := HMLe.out; omega) a y HA.out HY2.out).mono ?_
          rintro e w4 ⟨rfl, k4⟩
          have D4 := Lib.hid (D3.out.on k4); have HM4 := Lib.hid (HM3.out.on k4)
          clear k4 D3 HM3
          have c0 := D4.out.b0.c0; have c1 := D4.out.b0.c1; have d0 := D4.out.b1.c0; have d1 := D4.out.b1.c1; have f0 := D4.out.b1.f0; have f1 := D4.out.b1.f1
          go_wp2_with fail
          have HPO := Lib.hid (show Plain.partsOf 8 p (nb : Int) = Plain.partsFrom 8 nb p (nb : Int) by rw [Plain.partsOf, if_pos ⟨(Plain.span_iff _ _).2 ⟨p0, by omega, by omega, by omega⟩, by omega, by omega⟩, Int.toNat_natCast])
          refine (parts_any p (nb : Int) 8 w4 (by omega)).mono ?_
          rintro e w5 ⟨v, rfl, o5, k5⟩
          rw [HPO.out] at o5
          obtain ⟨PA, PC, rfl, hps, hpb⟩ := own_pairs o5
          obtain ⟨g, o, rfl, hgl, _⟩ := HM4.out.exts.cells (by
            have h1 := HPR.out M0 0 HML.out HMU.out 0 (by omega)
            rw [HMLe.out] at h1; omega)
          obtain ⟨hg1, hg2, _⟩ := HM4.out.own g o rfl
          have HPB := Lib.hid (show ∀ g' o', PA = some ⟨g', o', none⟩ → ¬ g' = g from fun g' o' he => by have := hpb g' o' he; omega)
          have HPS := Lib.hid hps
          have D5 := Lib.hid (D4.out.on k5); have HM5 := Lib.hid (HM4.out.on k5)
          have HG1 := Lib.hid hg1; have HD2 := Lib.hid D2.out.size
          clear o5 hps k5 D4 HM4 c0 c1 d0 d1 f0 f1 hpb hgl hg1 hg2
          obtain ⟨ps, hps⟩ : ∃ ps, Plain.partsFrom 8 nb p (nb : Int) = ps := ⟨_, rfl⟩
          rw [hps] at HPS
          have HPF := Lib.hid hps
          have hpl := HPS.out.mx
          obtain ⟨kk, hkk⟩ : ∃ kk, ps.length = kk := ⟨_, rfl⟩
          rw [hkk] at HPS hpl
          have HKK := Lib.hid hkk
          simp only [hps, hkk]
          clear hkk hps HPO
          have hkm : kk ≤ 9223372036854775807 := by unfold maxLen at hpl; omega
          have c0 := D5.out.b0.c0; have c1 := D5.out.b0.c1
          go_wp2
          go_loopw [62] (fun i wr => ∃ (j d F : Nat) (M : List Ex), j ≤ kk ∧ i = .int .i64 j ∧ d ≤ nb ∧ nb - d ≤ F ∧ Hid (ps.drop j = Plain.partsFrom 8 F (p + (d : Int)) ((nb : Int) - (d : Int))) ∧ Hid (Mut w2.heap.size wr (some ⟨g, o, none⟩) ml c' M) ∧ Hid (Up M) ∧ Hid (∀ k, look M k = glook L p bs d k) ∧ Hid (M.map (·.no) = M0.map (·.no)) ∧ Hid (d < nb → (p + (d : Int)) / 8 = p / 8 + (j : Int)) ∧ Hid (Duo w wr s A n c) ∧ Hid (Pairs wr PA kk ps)) (fun i _ => kk - (intOf i).toNat)
          case atStart => exact ⟨0, 0, nb, M0, Nat.zero_le _, rfl, Nat.zero_le _, by omega, by unfold Hid; rw [← HPF.out]; simp, HM5.out, HMU.out, HML.out, rfl, fun _ => by simp, D5.out, HPS.out⟩
          case round =>
            clear HM5 D5 HPS c0 c1
            obtain ⟨j, d, F, M, hj, rfl, hd, hF, HD0, M6, U6, G6, N6, I6, D6, P6⟩ := hrel
            have c0 := D6.out.b0.c0; have c1 := D6.out.b0.c1; have hbl := D6.out.b0.lt
            by_cases hlt : j < kk
            · obtain ⟨pb, po, rfl, hpbl, hpc⟩ := P6.out.cells (by omega)
              obtain ⟨hd0, hpa, hdr⟩ := parts_at (by rw [HKK.out]; exact hlt) HD0.out (by omega) (by omega)
              obtain ⟨e0, e1⟩ := hpc j hlt
              rw [hpa] at e0 e1
              simp only at e0 e1
              have HDR := Lib.hid hdr
              clear hpc hdr hpa
              have hdn : d < nb := by omega
              have hblk := I6.out hdn
              obtain ⟨P, hP⟩ : ∃ P, p + (d : Int) = P := ⟨_, rfl⟩
              rw [hP] at hblk
              obtain ⟨r, hr⟩ : ∃ r : Nat, P % 8 = (r : Int) := ⟨(P % 8).toNat, by omega⟩
              obtain ⟨t, ht⟩ : ∃ t : Nat, Plain.partLen 8 P ((nb : Int) - (d : Int)) = (t : Int) := by
                refine ⟨(Plain.partLen 8 P ((nb : Int) - (d : Int))).toNat, ?_⟩
                have := Plain.partLen_bounds 8 P ((nb : Int) - (d : Int)) (by omega) (by omega) hd0
                omega
              have htt : (t : Int) = if (nb : Int) - (d : Int) < 8 - (r : Int) then (nb : Int) - (d : Int) else 8 - (r : Int) := by rw [← ht, Plain.partLen, hr]
              have ht1 : t = min (nb - d) (8 - r) := by split at htt <;> omega
              rw [hP] at e0 e1 HDR
              rw [ht] at e1 HDR
              have hP0 : 0 ≤ P := by omega
              have hr8 : r < 8 := by omega
              have hPd : P - p = (d : Int) := by omega
              have hPm : P ≤ 1099511627776 := by omega
              have hpos := HPR.out M d G6.out U6.out j (by omega)
              have hidx : idx M (p / 8) = a := by rw [← HA.out]; exact idx_nos M M0 _ N6.out
              rw [hidx] at hpos
              have hMl : M.length = ml := by rw [← HMLe.out]; have := congrArg List.length N6.out; simpa using this
              rw [hMl] at hpos
              obtain ⟨hx1, hx2⟩ := hpos
              obtain ⟨x, hxe⟩ : ∃ x, a + j = x := ⟨_, rfl⟩
              rw [hxe] at hx1 hx2
              have hlk : look M (P / 8) = some (M.getD x default).bs := by
                have hm : M.getD x default ∈ M := by rw [getD_eq (by omega)]; exact List.getElem_mem _
                have := look_mem U6.out hm
                rwa [hx2, ← hblk] at this
              have hgl := G6.out (P / 8)
              rw [hlk, glook, if_pos (by rw [HB.out.len]; omega)] at hgl
              have hbs : (M.getD x default).bs = wbytes L p (bs.take d) (P / 8) := by injection hgl
              obtain ⟨sb, so, rfl, hsbl, hsc⟩ := HB.out.cells (by omega)
              obtain ⟨cs, hcs⟩ : ∃ cs, (bs.drop d).take t = cs := ⟨_, rfl⟩
              have hcl : cs.length = t := by rw [← hcs]; simp; rw [HB.out.len]; omega
              have HSP := Lib.hid (show splice (M.getD x default).bs r cs = wbytes L p (bs.take (d + t)) (P / 8) by
                rw [hbs, ← hcs]
                exact wbytes_same L p bs d t r (P / 8) (by rw [HB.out.len]; omega) (by rw [hP]) (by rw [hP]; exact hr) (by omega))
              have HC8 := Lib.hid (show ∀ x ∈ cs, 0 ≤ x ∧ x ≤ 255 from fun x hx => HB8.out x (List.mem_of_mem_drop (List.mem_of_mem_take (by rw [← hcs] at hx; exact hx))))
              have HSRC := Lib.hid (show ∀ W, Below w.heap.size w W → ∀ q v, (by8 cs)[q]? = some v → W.cell? ((⟨sb, so + d, none⟩ : Addr).add q) = some v from fun W hW q v hv => by
                have hq : q < t := by have := (List.getElem?_eq_some_iff.1 hv).1; rw [by8_len, hcl] at this; exact this
                rw [Addr.add_mid, Nat.add_assoc, hW.cell (p := ⟨sb, so + (d + q), none⟩) hsbl, hsc (d + q) (by omega), ← hv]
                unfold by8
                rw [List.getElem?_map, ← hcs, List.getElem?_take_of_lt hq, List.getElem?_drop, List.getElem?_eq_getElem (by rw [HB.out.len]; omega), List.getD_eq_getElem?_getD, List.getElem?_eq_getElem (by rw [HB.out.len]; omega)]; rfl)
              have HNX := Lib.hid (show ∀ k, look (M.set x ⟨(M.getD x default).no, splice (M.getD x default).bs r cs⟩) k = glook L p bs (d + t) k from fun k => by
                rw [look_set U6.out x ⟨(M.getD x default).no, splice (M.getD x default).bs r cs⟩ (by omega) rfl k]
                show (if (M.getD x default).no = k then some (splice (M.getD x default).bs r cs) else look M k) = _
                rw [HSP.out, hx2, ← hblk]
                by_cases hk : P / 8 = k
                · rw [if_pos hk, glook, if_pos (by rw [HB.out.len]; omega), hk]
                · rw [if_neg hk, G6.out]
                  unfold glook
                  by_cases hkr : p / 8 ≤ k ∧ k ≤ (p + (bs.length : Int) - 1) / 8
                  · rw [if_pos hkr, if_pos hkr, wbytes_other L p bs d t (P / 8) k (by rw [HB.out.len]; omega) (by rw [hP]) (by rw [hP]; omega) (fun h => hk h.symm)]
                  · rw [if_neg hkr, if_neg hkr])
              have HNU := Lib.hid (up_set U6.out x ⟨(M.getD x default).no, splice (M.getD x default).bs r cs⟩ rfl)
              have HNN := Lib.hid (show (M.set x ⟨(M.getD x default).no, splice (M.getD x default).bs r cs⟩).map (·.no) = M0.map (·.no) by rw [set_nos M x ⟨(M.getD x default).no, splice (M.getD x default).bs r cs⟩ rfl]; exact N6.out)
              have HIX := Lib.hid (show d + t < nb → (p + ((d + t : Nat) : Int)) / 8 = p / 8 + ((j + 1 : Nat) : Int) from fun h => by omega)
              have hcap := HB.out.le
              have KA := Lib.hid (show Below wr.heap.size wr (wr.alloc (.cells #[.int .i64 P, .int .i64 (t : Int)] 135)) from (Below.refl _ _).alloc (Nat.le_refl _) _)
              have hsl8 : ∀ w', (Instr.sliceAt 69 (.pointer (some ⟨g, o + x * 9 + 1, none⟩)) (some (.int .i64 (r : Int))) none none).run Try.prog w' = .ok (.slice (some ⟨g, o + x * 9 + 1 + r, none⟩) (8 - r) (8 - r)) w' := fun w' => by have := cut8_l g (o + x * 9 + 1) r (by omega) w'; rwa [if_neg (by omega)] at this
              have htm : P.tmod 8 = (r : Int) := by rw [Int.tmod_eq_emod_of_nonneg hP0]; exact hr
              have hwd : IntKind.i64.wrap (d : Int) = (d : Int) := IntWalk.i64_in _ (by omega)
              have hwr : IntKind.i64.wrap (r : Int) = (r : Int) := IntWalk.i64_in _ (by omega)
              have haj : (a : Int) + (j : Int) = (x : Int) := by omega
              have hwaj : IntKind.i64.wrap (x : Int) = (x : Int) := IntWalk.i64_in _ (by have := HMs.out; have := HMLe.out; omega)
              have haj0 : (0 : Int) ≤ (x : Int) := by omega
              have haj1 : (x : Int) < (ml : Int) := by omega
              have hdd0 : (0 : Int) ≤ (d : Int) := by omega
              have hdd1 : (d : Int) ≤ (nb : Int) := by omega
              have hrr0 : (0 : Int) ≤ (r : Int) := by omega
              have hrr1 : (r : Int) ≤ 8 := by omega
              have HDPP := Lib.hid hP; have HT := Lib.hid ht1; have HX1 := Lib.hid hx1; have HCL := Lib.hid hcl
              have HTt := Lib.hid (show t = min (nb - d) (8 - r) from ht1)
              have hjk : (j : Int) < (kk : Int) := by omega
              have hjk0 : (0 : Int) ≤ (j : Int) := by omega
              have HXE := Lib.hid hxe
              clear hxe hP ht htt ht1 hx2 hlk hgl hbs hcs hcl hidx hMl hblk hsc
              obtain ⟨Mn, hMn⟩ : ∃ Mn, M.set x ⟨(M.getD x default).no, splice (M.getD x default).bs r cs⟩ = Mn := ⟨_, rfl⟩
              rw [hMn] at HNX HNU HNN
              have HMn := Lib.hid hMn
              clear hMn
              obtain ⟨W, hW⟩ : ∃ W, wr.alloc (.cells #[.int .i64 P, .int .i64 (t : Int)] 135) = W := ⟨_, rfl⟩
              have RW := Lib.hid (show Row W wr.heap.size 135 #[.int .i64 P, .int .i64 (t : Int)] by rw [← hW]; exact Row.new wr 135 _)
              rw [hW] at KA
              have MW := Lib.hid ((M6.out.on KA.out).on (Below.refl _ _).drew)
              have DW := Lib.hid (D6.out.on KA.out); have PW := Lib.hid (P6.out.on KA.out)
              have HWW := Lib.hid hW
              clear hW
              go_wp2
              rw [HWW.out]
              have h0 := RW.out.at 0; have h1 := RW.out.at 1
              simp only [List.getElem?_toArray, List.getElem?_cons_zero, List.getElem?_cons_succ] at h0 h1
              go_region_law (refine step_copyx rfl _ _ rfl w2.heap.size g o ml c' M x r HX1.out MW.out (o + x * 9 + 1 + r) (8 - r) (8 - r) rfl ⟨sb, so + d, none⟩ (nb - d) (cb - d) (by simp [Act.eval, Act.put] <;> omega) (by simp [Act.eval, Act.put] <;> omega) cs (by rw [HCL.out, HTt.out]) (HSRC.out _ (DW.out.below.drew)) (by rw [HCL.out]; have := HTt.out; omega) HC8.out ?_; intro w6 m6 o6; rw [HMn.out] at m6; have M7 := Lib.hid m6; have O7 := Lib.hid ((Only.refl (fun k => k = g) W).drew.trans o6 (fun _ h _ => h)); clear m6 o6)
              all_goals
                have D7 := Lib.hid (DW.out.only O7.out (fun k hk => by have := HG1.out; have := HD2.out; omega))
                have P7 := Lib.hid (PW.out.only O7.out HPB.out)
                go_wp2
                go_roundw
                case rel => exact ⟨j + 1, d + t, F - 1, Mn, by omega, by go_num, by have := HTt.out; omega, by have := HTt.out; omega, by unfold Hid; rw [HDR.out, ← HDPP.out]; congr 1 <;> omega, M7.out, HNU.out, HNX.out, HNN.out, HIX.out, D7.out, P7.out⟩
                case measure => simp [intOf]; omega
            · have hmd := parts_end (by rw [HKK.out]; omega) HD0.out (by omega) (by omega)
              obtain rfl : d = nb := by omega
              have HW := Lib.hid (show WR L p bs M from ⟨U6.out, fun k => by
                rw [if_neg (fun h => by rw [h] at HB; have := HB.out.len; simp at this; omega), G6.out, ← HB.out.len, glook_full]⟩)
              have d0 := D6.out.b1.c0; have d1 := D6.out.b1.c1; have f0 := D6.out.b1.f0; have f1 := D6.out.b1.f1
              by_cases g1 : s < p + (d : Int)
              · have HV := Lib.hid (show wsz s p d = p + (d : Int) by rw [wsz, if_neg (by omega)]; omega)
                go_wp2
                all_goals
                  have X := D6.out.done (p + (d : Int)) M6.out HD2.out
                  refine res_box2 rfl (w.heap.size + 1) (p + (d : Int)) _ ml c' rfl X.1 rfl ?_
                  exact ⟨_, ml, c', M, by rw [HV.out]; rfl, HW.out, X.2.1, X.2.2⟩
              · have g2 : p + (d : Int) ≤ s := by omega
                have HV := Lib.hid (show wsz s p d = s by rw [wsz, if_neg (by omega)]; omega)
                go_wp2
                all_goals
                  have X := D6.out.done s M6.out HD2.out
                  refine res_box2 rfl (w.heap.size + 1) s _ ml c' rfl X.1 rfl ?_
                  exact ⟨_, ml, c', M, by rw [HV.out]; rfl, HW.out, X.2.1, X.2.2⟩
    · have hzy : false = z := by rw [← HZ.out]; simp [q2]
      subst hzy
      have q2i : ¬ (nb : Int) ≤ 4096 := by omega
      go_wp2
      refine res_box2 rfl (w.heap.size + 1) 0 none 0 0 rfl D1.out.none.1 rfl ?_
      exact ⟨none, 0, 0, [], rfl, rfl, D1.out.none.2.1, D1.out.none.2.2⟩
end Go.Proofs.Ytgaaieipeiekiaa

namespace Go.Proofs.Ytgaaieipeiekiaa
open Go.RowKit

/-- A kind of elements: its type, how many cells, which. -/
structure El (α : Type) where
  t : TypeId
  k : Nat
  enc : α → List Value
  len : ∀ x, (enc x).length = k
  one : ∀ x, ∀ v ∈ enc x, v.oneCell' = true
  pos : 0 < k
def El.cells {α : Type} (E : El α) (L : List α) : List Value := L.flatMap E.enc
section
variable {α : Type} (E : El α)
theorem El.cells_append (a b : List α) : E.cells (a ++ b) = E.cells a ++ E.cells b := by simp [El.cells]
theorem El.cells_one (e : α) : E.cells [e] = E.enc e := by simp [El.cells]
theorem El.cells_cons (e : α) (L : List α) : E.cells (e :: L) = E.enc e ++ E.cells L := rfl
theorem El.cells_nil : E.cells [] = [] := rfl
theorem El.cells_len (L : List α) : (E.cells L).length = L.length * E.k := by
  induction L with
  | nil => simp [El.cells]
  | cons e L ih => rw [El.cells_cons, List.length_append, ih, E.len, List.length_cons, Nat.succ_mul]; omega
theorem El.cells_ones (L : List α) : ∀ v ∈ E.cells L, v.oneCell' = true := by
  intro v hv
  simp [El.cells] at hv
  obtain ⟨e, _, h⟩ := hv
  exact E.one e v h
theorem El.cells_at [Inhabited α] (L : List α) (j : Nat) (hj : j < L.length) (q : Nat) (hq : q < E.k) : (E.cells L)[j * E.k + q]? = (E.enc (L.getD j default))[q]? := by
  induction L generalizing j with
  | nil => simp at hj
  | cons e L ih =>
    have h1 := E.len e
    rw [El.cells_cons]
    cases j with
    | zero => rw [List.getElem?_append_left (by omega)]; simp
    | succ j =>
      rw [List.getElem?_append_right (by rw [h1, Nat.succ_mul]; omega), h1, show (j + 1) * E.k + q - E.k = j * E.k + q by rw [Nat.succ_mul]; omega, ih j (by simpa using hj)]
      rfl
theorem El.cells_take (L : List α) (i : Nat) : (E.cells L).take (i * E.k) = E.cells (L.take i) := by
  induction L generalizing i with
  | nil => simp [El.cells]
  | cons e L ih =>
    cases i with
    | zero => simp [El.cells]
    | succ i => rw [El.cells_cons, List.take_succ_cons, El.cells_cons, List.take_append, E.len, ← ih i, List.take_of_length_le (by rw [E.len, Nat.succ_mul]; omega), show (i + 1) * E.k - E.k = i * E.k by rw [Nat.succ_mul]; omega]
theorem El.cells_drop (L : List α) (i : Nat) : (E.cells L).drop (i * E.k) = E.cells (L.drop i) := by
  induction L generalizing i with
  | nil => simp [El.cells]
  | cons e L ih =>
    cases i with
    | zero => simp [El.cells]
    | succ i => rw [El.cells_cons, List.drop_succ_cons, List.drop_append, E.len, ← ih i, List.drop_of_length_le (by rw [E.len, Nat.succ_mul]; omega), show (i + 1) * E.k - E.k = i * E.k by rw [Nat.succ_mul]; omega]; rfl

/-- A slice of them: nil let in. -/
structure Sl [Inhabited α] (w : World) (A : Option Addr) (n c : Nat) (L : List α) : Prop where
  len : L.length = n
  le : n ≤ c
  mx : c ≤ maxLen
  nil : A = none → n = 0 ∧ c = 0
  cells : 0 < n → ∃ b o, A = some ⟨b, o, none⟩ ∧ b < w.heap.size ∧ ∀ j, j < n → w.rangeAt b (o + j * E.k) (E.enc (L.getD j default))
variable {E}
theorem sl_nil [Inhabited α] (w : World) : Sl E w none 0 0 [] := ⟨rfl, Nat.le_refl _, Nat.zero_le _, fun _ => ⟨rfl, rfl⟩, fun h => absurd h (by omega)⟩
theorem Sl.only [Inhabited α] {S : Nat → Prop} {w w' : World} {A : Option Addr} {n c : Nat} {L : List α} (h : Sl E w A n c L) (hb : Only S w w') (hS : ∀ g o, A = some ⟨g, o, none⟩ → 0 < n → ¬ S g) : Sl E w' A n c L := by
  refine ⟨h.len, h.le, h.mx, h.nil, fun hn => ?_⟩
  obtain ⟨b, o, rfl, hl, hc⟩ := h.cells hn
  exact ⟨b, o, rfl, Nat.lt_of_lt_of_le hl hb.size, fun j hj i v hv => (hb.cell (p := ⟨b, o + j * E.k + i, none⟩) hl (hS b o rfl hn)).trans (hc j hj i v hv)⟩
theorem Sl.on [Inhabited α] {w w' : World} {A : Option Addr} {n c : Nat} {L : List α} (h : Sl E w A n c L) (hb : Below w.heap.size w w') : Sl E w' A n c L :=
  h.only (S := fun _ => False) (Only.of_below hb) (fun _ _ _ _ h => h)
theorem Sl.drewN [Inhabited α] {w : World} {A : Option Addr} {n c : Nat} {L : List α} (h : Sl E w A n c L) (m : Nat) : Sl E (w.drewN m) A n c L := h.on (below_drewN (Below.refl _ _) m)
theorem Sl.max [Inhabited α] {w : World} {A : Option Addr} {n c : Nat} {L : List α} (h : Sl E w A n c L) : n ≤ 9223372036854775807 := by have := h.le; have := h.mx; unfold maxLen at this; omega
theorem Sl.src [Inhabited α] {w : World} {A : Option Addr} {n c : Nat} {L : List α} (h : Sl E w A n c L) : ∀ ad, A = some ad → ∀ j u, (E.cells L)[j]? = some u → w.cell? (ad.add j) = some u := by
  intro ad ha j u hu
  have hl : j < (E.cells L).length := (List.getElem?_eq_some_iff.1 hu).1
  rw [E.cells_len L, h.len] at hl
  have hp := E.pos
  have hn : 0 < n := by
    rcases Nat.eq_zero_or_pos n with h0 | h0
    · subst h0; simp at hl
    · exact h0
  obtain ⟨b, o, rfl, _, hc⟩ := h.cells hn
  injection ha with ha; subst ha
  have hdm := Nat.div_add_mod j E.k
  have hm := Nat.mod_lt j hp
  have hd : j / E.k < n := Nat.div_lt_of_lt_mul (by rw [Nat.mul_comm]; exact hl)
  rw [Nat.mul_comm] at hdm
  have hq := E.cells_at L (j / E.k) (by rw [h.len]; exact hd) (j % E.k) hm
  rw [hdm, hu] at hq
  rw [Addr.add_mid, show o + j = o + j / E.k * E.k + j % E.k by omega]
  exact hc (j / E.k) hd _ _ hq.symm
/-- A piece of it, the address as Go leaves it. -/
theorem Sl.piece [Inhabited α] {w : World} {A : Option Addr} {n c : Nat} {L : List α} (h : Sl E w A n c L) (i m : Nat) (hm : i + m ≤ n) : Sl E w (if c = i then A else A.map (·.add (i * E.k))) m (c - i) ((L.drop i).take m) := by
  have h1 := h.len; have h2 := h.le; have h3 := h.mx
  refine ⟨by simp; omega, by omega, by omega, fun ha => ?_, fun hp => ?_⟩
  · split at ha
    · have := h.nil ha; omega
    · cases A with
      | none => have := h.nil rfl; omega
      | some a => simp at ha
  · obtain ⟨b, o, rfl, hl, hc⟩ := h.cells (by omega)
    rw [if_neg (by omega)]
    refine ⟨b, o + i * E.k, by simp [Addr.add_mid], hl, fun k hk => ?_⟩
    have e : ((L.drop i).take m).getD k default = L.getD (i + k) default := by simp [List.getD_eq_getElem?_getD, hk]
    rw [e, show o + i * E.k + k * E.k = o + (i + k) * E.k by rw [Nat.add_mul]; omega]
    exact hc (i + k) (by omega)
theorem Sl.mem [Inhabited α] {w : World} {A : Option Addr} {n c : Nat} {L : List α} (h : Sl E w A n c L) (j : Nat) (hj : j < n) : L.getD j default ∈ L := by
  have := h.len
  rw [List.getD_eq_getElem?_getD, List.getElem?_eq_getElem (by omega)]
  exact List.getElem_mem (by omega)

/-- A row of one's own. -/
structure OwnS {α : Type} (E : El α) (B : Nat) (w : World) (v : Value) (L : List α) : Prop where
  row : w.ownsRow B E.t E.k v L.length (E.cells L)
theorem owns_nil (B : Nat) (w : World) : OwnS E B w (.slice none 0 0) [] := ⟨World.ownsRow_nil _ _ _ _⟩
theorem OwnS.sl [Inhabited α] {B : Nat} {w : World} {v : Value} {L : List α} (h : OwnS E B w v L) : ∃ A c, v = .slice A L.length c ∧ Sl E w A L.length c L ∧ (∀ g o, A = some ⟨g, o, none⟩ → B ≤ g ∧ g < w.heap.size ∧ o = 0 ∧ ∀ j, w.frozen? ⟨g, j, none⟩ = false) := by
  obtain ⟨hl, ⟨rfl, h0⟩ | ⟨g, cap, cur, rfl, hB, hb, hn, hm, hs, ht⟩⟩ := h.row
  · obtain rfl : L = [] := List.eq_nil_of_length_eq_zero h0
    exact ⟨none, 0, rfl, sl_nil w, fun g o h => by cases h⟩
  · refine ⟨some ⟨g, 0, none⟩, cap, rfl, ⟨rfl, hn, hm, (fun h => by cases h), fun hp => ⟨g, 0, rfl, (Array.getElem?_eq_some_iff.1 hb).1, fun j hj q v hv => ?_⟩⟩, ?_⟩
    · have hq : q < E.k := by have := (List.getElem?_eq_some_iff.1 hv).1; rw [E.len] at this; exact this
      have hjk : j * E.k + q < L.length * E.k := by
        have : (j + 1) * E.k ≤ L.length * E.k := Nat.mul_le_mul_right _ hj
        rw [Nat.succ_mul] at this; omega
      rw [cell_of_row _ _ _ _ E.t (0, 0) hb, Nat.zero_add, ← hv, ← E.cells_at L j hj q hq, ← ht, List.getElem?_take_of_lt hjk]
      simp
    · intro g' o he
      injection he with he; injection he with e1 e2; subst e1 e2
      exact ⟨hB, (Array.getElem?_eq_some_iff.1 hb).1, rfl, fun j => frozen_of_row _ _ _ _ _ hb⟩
theorem OwnS.on {B : Nat} {w w' : World} {v : Value} {L : List α} (h : OwnS E B w v L) (hb : Below w.heap.size w w') : OwnS E B w' v L := ⟨own_below h.row hb⟩
theorem OwnS.only {S : Nat → Prop} {B : Nat} {w w' : World} {A : Option Addr} {n c : Nat} {L : List α} (h : OwnS E B w (.slice A n c) L) (hb : Only S w w') (hS : ∀ g, A = some ⟨g, 0, none⟩ → ¬ S g) : OwnS E B w' (.slice A n c) L := by
  obtain ⟨hl, ⟨he, h0⟩ | ⟨g, cap, cur, he, hB, hg, hr⟩⟩ := h.row
  · exact ⟨hl, .inl ⟨he, h0⟩⟩
  · injection he with e1 e2 e3
    subst e1
    exact ⟨hl, .inr ⟨g, cap, cur, by rw [← e2, ← e3], hB, (hb.block g (Array.getElem?_eq_some_iff.1 hg).1 (hS g rfl)).trans hg, hr⟩⟩
theorem OwnS.mono {B B' : Nat} {w : World} {v : Value} {L : List α} (h : OwnS E B w v L) (hB : B' ≤ B) : OwnS E B' w v L := ⟨h.row.1, h.row.2.imp id (fun ⟨g, cap, cur, a, b, r⟩ => ⟨g, cap, cur, a, Nat.le_trans hB b, r⟩)⟩
/-- What is known of a row of one's own, taken apart. -/
theorem OwnS.open {B : Nat} {w : World} {A : Option Addr} {n c : Nat} {L : List α} (h : OwnS E B w (.slice A n c) L) :
    n = L.length ∧ ((A = none ∧ n = 0 ∧ c = 0 ∧ L = []) ∨ ∃ g cur, A = some ⟨g, 0, none⟩ ∧ B ≤ g ∧ Row w g E.t cur ∧ n ≤ c ∧ c ≤ maxLen ∧ cur.size = c * E.k ∧ cur.toList.take (L.length * E.k) = E.cells L) := by
  obtain ⟨hl, ⟨he, h0⟩ | ⟨g, cap, cur, he, hB, hg, hn, hm, hs, ht⟩⟩ := h.row
  · injection he with e1 e2 e3
    exact ⟨by omega, .inl ⟨e1, e2, e3, List.eq_nil_of_length_eq_zero h0⟩⟩
  · injection he with e1 e2 e3
    subst e1 e2 e3
    exact ⟨rfl, .inr ⟨g, cur, rfl, hB, hg, hn, hm, hs, ht⟩⟩
theorem OwnS.mk' {B : Nat} {w : World} {g c : Nat} {cur : Array Value} {L : List α} (hB : B ≤ g) (hg : Row w g E.t cur) (hn : L.length ≤ c) (hm : c ≤ maxLen) (hs : cur.size = c * E.k) (ht : cur.toList.take (L.length * E.k) = E.cells L) : OwnS E B w (.slice (some ⟨g, 0, none⟩) L.length c) L :=
  ⟨E.cells_len L, .inr ⟨g, c, cur, rfl, hB, hg, hn, hm, hs, ht⟩⟩
/-- Its block lies apart from one of another type. -/
theorem OwnS.ne {B : Nat} {w : World} {A : Option Addr} {n c : Nat} {L : List α} (h : OwnS E B w (.slice A n c) L) {b : Nat} {t : TypeId} {cs : Array Value} (hr : Row w b t cs) (ht : t ≠ E.t) : ∀ g o, A = some ⟨g, o, none⟩ → g ≠ b := by
  rintro g o rfl rfl
  obtain ⟨_, ⟨h0, _⟩ | ⟨g', cur, he, _, hg, _⟩⟩ := h.open
  · cases h0
  · injection he with he; injection he with e1 e2; subst e1
    unfold Row at hg hr
    rw [hg] at hr
    injection hr with hr
    injection hr with _ h2 _
    exact ht h2.symm
end
end Go.Proofs.Ytgaaieipeiekiaa

namespace Go.Proofs.Ytgaaieipeiekiaa

/-- A strict order in which any two differ by it. -/
structure Ord (K : Type) where
  lt : K → K → Bool
  irr : ∀ a, lt a a = false
  tr : ∀ a b c, lt a b = true → lt b c = true → lt a c = true
  tot : ∀ a b, lt a b = false → lt b a = false → a = b
theorem Ord.asym {K : Type} (O : Ord K) {a b : K} (h : O.lt a b = true) : O.lt b a = false := by
  cases hb : O.lt b a with
  | false => rfl
  | true => have := O.tr a b a h hb; rw [O.irr] at this; cases this
theorem Ord.ne {K : Type} (O : Ord K) {a b : K} (h : O.lt a b = true) : a ≠ b := by
  rintro rfl; rw [O.irr] at h; cases h
section
variable {α K : Type}
variable (O : Ord K)
def Rise (key : α → K) (L : List α) : Prop := L.Pairwise fun a b => O.lt (key a) (key b) = true
def ahd (key : α → K) (L : List α) (k : K) : List α := L.takeWhile fun y => O.lt (key y) k
def bhd (key : α → K) (L : List α) (k : K) : List α := L.dropWhile fun y => O.lt (key y) k
/-- How many lie ahead of a key. -/
def pl (key : α → K) (L : List α) (k : K) : Nat := (ahd O key L k).length
def ins (key : α → K) (L : List α) (x : α) : List α := ahd O key L (key x) ++ x :: bhd O key L (key x)
variable {O}
theorem ahd_bhd (key : α → K) (L : List α) (k : K) : ahd O key L k ++ bhd O key L k = L := List.takeWhile_append_dropWhile
theorem pl_le (key : α → K) (L : List α) (k : K) : pl O key L k ≤ L.length := by
  have := congrArg List.length (ahd_bhd (O := O) key L k)
  rw [List.length_append] at this
  unfold pl; omega
theorem take_pl (key : α → K) (L : List α) (k : K) : L.take (pl O key L k) = ahd O key L k := by
  have h := ahd_bhd (O := O) key L k
  conv => lhs; rw [← h]
  unfold pl
  rw [List.take_left']
  rw [h]
theorem drop_pl (key : α → K) (L : List α) (k : K) : L.drop (pl O key L k) = bhd O key L k := by
  have h := ahd_bhd (O := O) key L k
  conv => lhs; rw [← h]
  unfold pl
  rw [List.drop_left']
  rw [h]
theorem ahd_lt {key : α → K} {L : List α} {k : K} {x : α} (h : x ∈ ahd O key L k) : O.lt (key x) k = true := by
  have := List.all_takeWhile (p := fun y => O.lt (key y) k) (l := L)
  rw [List.all_eq_true] at this
  exact this x h
theorem pl_unique [Inhabited α] {key : α → K} {L : List α} {k : K} {i : Nat} (hi : i ≤ L.length) (h1 : ∀ j, j < i → O.lt (key (L.getD j default)) k = true) (h2 : i < L.length → O.lt (key (L.getD i default)) k = false) : pl O key L k = i := by
  induction L generalizing i with
  | nil => simp at hi; subst hi; rfl
  | cons a L ih =>
    cases i with
    | zero =>
      have := h2 (by simp)
      simp only [List.getD_eq_getElem?_getD, List.getElem?_cons_zero, Option.getD_some] at this
      simp [pl, ahd, this]
    | succ i =>
      have h0 := h1 0 (by omega)
      simp only [List.getD_eq_getElem?_getD, List.getElem?_cons_zero, Option.getD_some] at h0
      have := ih (i := i) (by simpa using hi) (fun j hj => by simpa using h1 (j + 1) (by omega)) (fun h => by simpa using h2 (by simpa using h))
      simp only [pl, ahd, List.takeWhile_cons, h0, if_true, List.length_cons] at this ⊢
      omega
theorem rise_tail {key : α → K} {a : α} {L : List α} (h : Rise O key (a :: L)) : Rise O key L := (List.pairwise_cons.1 h).2
theorem bhd_ge {key : α → K} {L : List α} {k : K} (hr : Rise O key L) {x : α} (h : x ∈ bhd O key L k) : O.lt (key x) k = false := by
  induction L with
  | nil => simp [bhd] at h
  | cons a L ih =>
    by_cases ha : O.lt (key a) k = true
    · simp only [bhd, List.dropWhile_cons, ha, if_true] at h
      exact ih (rise_tail hr) h
    · have ha' : O.lt (key a) k = false := by simpa using ha
      simp only [bhd, List.dropWhile_cons, ha'] at h
      rcases List.mem_cons.1 h with rfl | h
      · exact ha'
      · have := (List.pairwise_cons.1 hr).1 x h
        cases hx : O.lt (key x) k with
        | false => rfl
        | true => have := O.tr _ _ _ this hx; rw [ha'] at this; cases this
theorem getD_append_right [Inhabited α] (a b : List α) : (a ++ b).getD a.length default = b.getD 0 default := by
  simp [List.getD_eq_getElem?_getD, List.getElem?_append_right (Nat.le_refl a.length)]
theorem ins_perm (key : α → K) (L : List α) (x : α) : (ins O key L x).Perm (x :: L) := by
  have hs := ahd_bhd (O := O) key L (key x)
  unfold ins
  refine List.perm_middle.trans ?_
  rw [hs]
theorem ins_pl (key : α → K) (L : List α) (x : α) : L.take (pl O key L (key x)) ++ x :: L.drop (pl O key L (key x)) = ins O key L x := by
  rw [take_pl, drop_pl]; rfl
theorem mem_ins {key : α → K} {L : List α} {x y : α} : y ∈ ins O key L x ↔ y = x ∨ y ∈ L := by
  rw [(ins_perm key L x).mem_iff, List.mem_cons]
end
section
variable {α K : Type} [DecidableEq K]
def fnd (key : α → K) (L : List α) (k : K) : Option α := L.find? fun x => decide (key x = k)
def del (key : α → K) (L : List α) (k : K) : List α := L.filter fun x => decide (key x ≠ k)
def updk (key : α → K) (L : List α) (k : K) (y : α) : List α := L.map fun x => if key x = k then y else x
theorem fnd_none {key : α → K} {L : List α} {k : K} : fnd key L k = none ↔ ∀ x ∈ L, key x ≠ k := by
  simp [fnd, List.find?_eq_none]
theorem fnd_mem {key : α → K} {L : List α} {k : K} {x : α} (h : fnd key L k = some x) : x ∈ L ∧ key x = k :=
  ⟨List.mem_of_find?_eq_some h, by simpa using List.find?_some h⟩
theorem mem_del {key : α → K} {L : List α} {k : K} {x : α} : x ∈ del key L k ↔ x ∈ L ∧ key x ≠ k := by simp [del]
theorem del_comm (key : α → K) (L : List α) (a b : K) : del key (del key L a) b = del key (del key L b) a := by
  simp only [del, List.filter_filter, Bool.and_comm]
theorem fnd_del (key : α → K) (L : List α) (a k : K) : fnd key (del key L a) k = if k = a then none else fnd key L k := by
  by_cases h : k = a
  · rw [if_pos h, fnd_none]
    intro x hx
    rw [h]
    exact (mem_del.1 hx).2
  · rw [if_neg h]
    unfold fnd del
    rw [List.find?_filter]
    congr 1
    funext x
    by_cases hx : key x = k
    · simp [hx, h]
    · simp [hx]
theorem fnd_map {β : Type} {key : α → K} {key' : β → K} (f : β → α) (hf : ∀ z, key (f z) = key' z) (L : List β) (k : K) : fnd key (L.map f) k = (fnd key' L k).map f := by
  unfold fnd
  rw [List.find?_map]
  congr 2
  funext x
  simp [hf]
theorem del_map {β : Type} {key : α → K} {key' : β → K} (f : β → α) (hf : ∀ z, key (f z) = key' z) (L : List β) (k : K) : del key (L.map f) k = (del key' L k).map f := by
  unfold del
  rw [List.filter_map]
  congr 2
  funext x
  simp [hf]
variable {O : Ord K}
/-- What lies behind its place begins with it, if it is there. -/
theorem fnd_bhd {key : α → K} {L : List α} {k : K} (hr : Rise O key L) : fnd key L k = (match bhd O key L k with | x :: _ => if key x = k then some x else none | [] => none) := by
  induction L with
  | nil => rfl
  | cons a L ih =>
    by_cases ha : O.lt (key a) k = true
    · have hne := O.ne ha
      have e1 : fnd key (a :: L) k = fnd key L k := by simp [fnd, hne]
      have e2 : bhd O key (a :: L) k = bhd O key L k := by simp [bhd, ha]
      rw [e1, e2, ih (rise_tail hr)]
    · have ha' : O.lt (key a) k = false := by simpa using ha
      have e2 : bhd O key (a :: L) k = a :: L := by simp [bhd, ha']
      rw [e2]
      by_cases hk : key a = k
      · simp [fnd, hk]
      · simp only [hk, if_false]
        rw [fnd_none]
        intro x hx
        rcases List.mem_cons.1 hx with rfl | hx
        · exact hk
        · have := (List.pairwise_cons.1 hr).1 x hx
          rintro rfl
          rw [ha'] at this; cases this
theorem fnd_pl [Inhabited α] {key : α → K} {L : List α} {k : K} (hr : Rise O key L) : fnd key L k = if pl O key L k < L.length ∧ key (L.getD (pl O key L k) default) = k then some (L.getD (pl O key L k) default) else none := by
  rw [fnd_bhd hr]
  have h := ahd_bhd (O := O) key L k
  have hl : L.length = pl O key L k + (bhd O key L k).length := by rw [← List.length_append.symm.trans (congrArg List.length h)]; rfl
  have hg : L.getD (pl O key L k) default = (bhd O key L k).getD 0 default := by
    conv => lhs; rw [← h]
    rw [← getD_append_right (ahd O key L k)]
    unfold pl
    rw [h]
  rw [hg]
  cases hb : bhd O key L k with
  | nil => rw [hb] at hl; simp at hl; simp [hl]
  | cons x r =>
    rw [hb] at hl
    simp only [List.length_cons] at hl
    have : pl O key L k < L.length := by omega
    simp [this]
theorem fnd_at [Inhabited α] {key : α → K} {L : List α} {k : K} {x : α} (hr : Rise O key L) (h : fnd key L k = some x) : pl O key L k < L.length ∧ L.getD (pl O key L k) default = x := by
  rw [fnd_pl hr] at h
  split at h
  · rename_i hc
    injection h with h
    exact ⟨hc.1, h⟩
  · cases h
/-- Taken out by its place. -/
theorem erase_del {key : α → K} {L : List α} {k : K} {x : α} (hr : Rise O key L) (h : fnd key L k = some x) : L.take (pl O key L k) ++ L.drop (pl O key L k + 1) = del key L k := by
  have hs := ahd_bhd (O := O) key L k
  rw [take_pl, ← List.drop_drop, drop_pl]
  rw [fnd_bhd hr] at h
  cases hb : bhd O key L k with
  | nil => rw [hb] at h; cases h
  | cons y r =>
    rw [hb] at h
    simp only at h
    split at h
    · rename_i hy
      injection h with h
      subst h
      rw [List.drop_succ_cons, List.drop_zero]
      conv => rhs; rw [← hs, hb]
      unfold del
      rw [List.filter_append, List.filter_cons]
      have ht : (ahd O key L k).filter (fun x => decide (key x ≠ k)) = ahd O key L k :=
        List.filter_eq_self.2 fun x hx => by simpa using O.ne (ahd_lt hx)
      rw [ht]
      simp only [hy, ne_eq, not_true, decide_false]
      congr 1
      symm
      refine List.filter_eq_self.2 fun z hz => ?_
      have hp := hr
      rw [← hs, hb] at hp
      have := (List.pairwise_cons.1 ((List.pairwise_append.1 hp).2.1)).1 z hz
      rw [hy] at this
      simpa using (O.ne this).symm
    · cases h
theorem del_perm {key : α → K} {L : List α} {k : K} {x : α} (hr : Rise O key L) (h : fnd key L k = some x) : L.Perm (x :: del key L k) := by
  have h1 := erase_del hr h
  have hs := ahd_bhd (O := O) key L k
  rw [take_pl, ← List.drop_drop, drop_pl] at h1
  rw [fnd_bhd hr] at h
  cases hb : bhd O key L k with
  | nil => rw [hb] at h; cases h
  | cons y r =>
    rw [hb] at h h1
    simp only at h
    split at h
    · injection h with h
      subst h
      rw [List.drop_succ_cons, List.drop_zero] at h1
      rw [← h1]
      conv => lhs; rw [← hs, hb]
      exact List.perm_middle
    · cases h
theorem rise_del {key : α → K} {L : List α} (hr : Rise O key L) (k : K) : Rise O key (del key L k) := hr.sublist List.filter_sublist
theorem rise_ins {key : α → K} {L : List α} (hr : Rise O key L) {x : α} (h : fnd key L (key x) = none) : Rise O key (ins O key L x) := by
  have hs := ahd_bhd (O := O) key L (key x)
  have hp := hr
  unfold Rise at hp
  rw [← hs, List.pairwise_append] at hp
  unfold Rise ins
  rw [List.pairwise_append, List.pairwise_cons]
  refine ⟨hp.1, ⟨fun y hy => ?_, hp.2.1⟩, fun a ha b hb => ?_⟩
  · have h1 := bhd_ge hr hy
    have hm : y ∈ L := by rw [← hs]; exact List.mem_append_right _ hy
    have hne := fnd_none.1 h y hm
    cases hc : O.lt (key x) (key y) with
    | true => rfl
    | false => exact absurd (O.tot _ _ h1 hc) hne
  · rcases List.mem_cons.1 hb with rfl | hb
    · exact ahd_lt ha
    · exact hp.2.2 a ha b hb
/-- In a list that rises there is just one of a key. -/
theorem fnd_of_mem {key : α → K} {L : List α} (hr : Rise O key L) {x : α} (h : x ∈ L) : fnd key L (key x) = some x := by
  induction L with
  | nil => cases h
  | cons a L ih =>
    rcases List.mem_cons.1 h with rfl | h
    · simp [fnd]
    · have := (List.pairwise_cons.1 hr).1 x h
      have hne := O.ne this
      have e1 : fnd key (a :: L) (key x) = fnd key L (key x) := by simp [fnd, hne]
      rw [e1]
      exact ih (rise_tail hr) h
theorem fnd_iff {key : α → K} {L : List α} (hr : Rise O key L) {k : K} {x : α} : fnd key L k = some x ↔ x ∈ L ∧ key x = k :=
  ⟨fnd_mem, fun ⟨h1, h2⟩ => by rw [← h2]; exact fnd_of_mem hr h1⟩
theorem fnd_ins {key : α → K} {L : List α} (hr : Rise O key L) {x : α} (h : fnd key L (key x) = none) (k : K) : fnd key (ins O key L x) k = if k = key x then some x else fnd key L k := by
  have hri := rise_ins hr h
  by_cases hk : k = key x
  · rw [if_pos hk, fnd_iff hri]
    exact ⟨mem_ins.2 (.inl rfl), hk.symm⟩
  · rw [if_neg hk]
    cases hf : fnd key L k with
    | none =>
      rw [fnd_none] at hf ⊢
      intro y hy
      rcases mem_ins.1 hy with rfl | hy
      · exact fun h => hk h.symm
      · exact hf y hy
    | some y =>
      have := fnd_mem hf
      rw [fnd_iff hri]
      exact ⟨mem_ins.2 (.inr this.1), this.2⟩
theorem rise_updk {key : α → K} {L : List α} (hr : Rise O key L) {k : K} {y : α} (hy : key y = k) : Rise O key (updk key L k y) := by
  unfold Rise updk
  rw [List.pairwise_map]
  refine hr.imp fun {a b} h => ?_
  have h1 : ∀ x : α, key (if key x = k then y else x) = key x := fun x => by split <;> simp_all
  rw [h1, h1]
  exact h
theorem mem_updk {key : α → K} {L : List α} {k : K} {y z : α} (h : z ∈ updk key L k y) : z = y ∨ z ∈ L := by
  simp only [updk, List.mem_map] at h
  obtain ⟨x, hx, rfl⟩ := h
  split
  · exact .inl rfl
  · exact .inr hx
theorem key_updk {key : α → K} (L : List α) {k : K} {y : α} (hy : key y = k) : (updk key L k y).map key = L.map key := by
  unfold updk
  rw [List.map_map]
  refine List.map_congr_left fun x _ => ?_
  show key (if key x = k then y else x) = key x
  split <;> simp_all
theorem fnd_updk {key : α → K} {L : List α} {k : K} {y : α} (hy : key y = k) (j : K) : fnd key (updk key L k y) j = if j = k then (fnd key L k).map fun _ => y else fnd key L j := by
  unfold fnd updk
  rw [List.find?_map]
  have e : ((fun x => decide (key x = j)) ∘ fun x => if key x = k then y else x) = fun x => decide (key x = j) := by
    funext x
    show decide (key (if key x = k then y else x) = j) = _
    by_cases hx : key x = k
    · rw [if_pos hx, hy, hx]
    · rw [if_neg hx]
  rw [e]
  by_cases hj : j = k
  · rw [if_pos hj]
    subst hj
    cases hf : L.find? (fun x => decide (key x = j)) with
    | none => rfl
    | some x =>
      have := List.find?_some hf
      simp at this
      simp [this]
  · rw [if_neg hj]
    cases hf : L.find? (fun x => decide (key x = j)) with
    | none => rfl
    | some x =>
      have := List.find?_some hf
      simp at this
      simp [this, hj]
/-- Stored at its place. -/
theorem set_updk {key : α → K} {L : List α} {k : K} {x y : α} (hr : Rise O key L) (h : fnd key L k = some x) : L.set (pl O key L k) y = updk key L k y := by
  have hs := ahd_bhd (O := O) key L k
  rw [fnd_bhd hr] at h
  cases hb : bhd O key L k with
  | nil => rw [hb] at h; cases h
  | cons z r =>
    rw [hb] at h hs
    simp only at h
    split at h
    · rename_i hz
      injection h with h
      subst h
      have hp := hr
      unfold Rise at hp
      rw [← hs] at hp
      have h1 : ∀ a ∈ ahd O key L k, key a ≠ k := fun a ha => O.ne (ahd_lt ha)
      have h2 : ∀ a ∈ r, key a ≠ k := fun a ha => by
        have := (List.pairwise_cons.1 ((List.pairwise_append.1 hp).2.1)).1 a ha
        rw [hz] at this
        exact (O.ne this).symm
      have e1 : L.set (pl O key L k) y = ahd O key L k ++ y :: r := by
        conv => lhs; rw [← hs]
        unfold pl
        rw [hs, show (ahd O key L k).length = (ahd O key L k).length + 0 from rfl]
        conv => lhs; arg 1; rw [← hs]
        rw [List.set_append_right _ _ (by omega)]
        simp
      rw [e1]
      conv => rhs; rw [← hs]
      unfold updk
      rw [List.map_append, List.map_cons, if_pos hz]
      rw [List.map_congr_left (g := id) (fun a ha => by simp [h1 a ha]), List.map_congr_left (l := r) (g := id) (fun a ha => by simp [h2 a ha])]
      simp
    · cases h
end
end Go.Proofs.Ytgaaieipeiekiaa
