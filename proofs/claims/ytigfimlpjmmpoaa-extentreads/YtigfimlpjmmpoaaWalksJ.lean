/- Contract of extent's Read. -/
import Derived.Test.YtigfimlpjmmpoaaWalksI
import Derived.WalkKit
import Derived.WalkSpells
import Derived.WalkLawsBesides
import Derived.Lib.Hide
import Derived.BigQuiet
import Derived.Deep.RegionLaw
namespace Go.Proofs.Ytigfimlpjmmpoaa
open Go.RowKit

theorem at_block {L : List Ex} {P : Int} {bs : List Int} (hl : look L (P / 8) = some bs) (r i : Nat) (hr : P % 8 = (r : Int)) (hi : r + i < 8) : at_ L (P + (i : Int)) = bs.getD (r + i) 0 := by
  have h1 : (P + (i : Int)) / 8 = P / 8 := by omega
  have h2 : ((P + (i : Int)) % 8).toNat = r + i := by omega
  rw [at_, h1, hl, h2]
theorem at_gone {L : List Ex} {P : Int} (hl : look L (P / 8) = none) (r i : Nat) (hr : P % 8 = (r : Int)) (hi : r + i < 8) : at_ L (P + (i : Int)) = 0 := by
  have h1 : (P + (i : Int)) / 8 = P / 8 := by omega
  rw [at_, h1, hl]
theorem parts_at {P l : Int} {F : Nat} {ps : List (Int × Int)} {j : Nat} (hj : j < ps.length) (h : ps.drop j = Plain.partsFrom 8 F P l) (hl : 0 ≤ l) (hF : l.toNat ≤ F) : 0 < l ∧ ps.getD j (0, 0) = (P, Plain.partLen 8 P l) ∧ ps.drop (j + 1) = Plain.partsFrom 8 (F - 1) (P + Plain.partLen 8 P l) (l - Plain.partLen 8 P l) := by
  have h0 : 0 < l := by
    rcases Int.lt_or_le 0 l with h0 | h0
    · exact h0
    · rw [Plain.partsFrom_zero _ _ _ _ (by omega)] at h
      have := congrArg List.length h
      simp at this
      omega
  have hst := Plain.partsFrom_step 8 F P l h0 hF
  rw [hst, List.drop_eq_getElem_cons hj] at h
  injection h with h1 h2
  refine ⟨h0, ?_, h2⟩
  rw [List.getD_eq_getElem?_getD, List.getElem?_eq_getElem hj]
  exact h1
theorem parts_end {P l : Int} {F : Nat} {ps : List (Int × Int)} {j : Nat} (hj : ps.length ≤ j) (h : ps.drop j = Plain.partsFrom 8 F P l) (hF : l.toNat ≤ F) (hl : 0 ≤ l) : l = 0 := by
  rw [List.drop_of_length_le hj] at h
  rcases Int.lt_or_le 0 l with h0 | h0
  · rw [Plain.partsFrom_step 8 F P l h0 hF] at h; cases h
  · omega

set_option maxRecDepth 100000 in
set_option maxHeartbeats 8000000 in
theorem read_any (s : Int) (A : Option Addr) (n c : Nat) (L : List Ex) (p k : Int) (w : World) (h : Exts w A n c L) (hn : n ≤ 1000000) (p0 : -9223372036854775808 ≤ p) (p1 : p ≤ 9223372036854775807) (zs : List Int) (hz : rd s L p k = zs) :
    Calls Try.prog 15 #[ct s A n c, .int .i64 p, .int .i64 k] w (BytesPost zs w) := by
  have HZ := Lib.hid hz
  have K0 := Lib.hid (show Below w.heap.size w (w.alloc (.cells #[.int .i64 s, .slice A n c] 24)) from (Below.refl _ _).alloc (Nat.le_refl _) _)
  have B0 := Lib.hid (box_new w s A n c)
  have H := Lib.hid h
  clear h hz
  show Calls Try.prog 15 #[.agg #[.int .i64 s, .slice A n c], .int .i64 p, .int .i64 k] w _
  go_enter Try.func15, Try.ntmps15
  go_wp2_with fail
  obtain ⟨y, hy⟩ : ∃ y, may s L = y := ⟨_, rfl⟩
  have HM := Lib.hid hy
  clear hy
  refine (may_any s A n c L _ (H.out.on K0.out) y HM.out).mono ?_
  rintro e w1 ⟨rfl, k1⟩
  have K1 := Lib.hid (K0.out.trans (k1.mono K0.out.size)); have B1 := Lib.hid (B0.out.on k1)
  clear k1 K0 B0
  have c0 := B1.out.c0; have c1 := B1.out.c1
  have HN := Lib.hid (show rlen s L p k = 0 → zs = [] from fun h => by rw [← HZ.out, rd, h]; rfl)
  cases y with
  | false =>
    have HF := Lib.hid (HN.out (by rw [rlen, if_neg (by rw [HM.out]; simp)]))
    go_wp2
    go_ret
    exact ⟨none, 0, by rw [HF.out]; rfl, by rw [HF.out]; exact nums_nil _ _, K1.out⟩
  | true =>
    have HG := Lib.hid ((may_iff s L).1 HM.out)
    by_cases q0 : 0 ≤ p
    · by_cases q1 : 0 ≤ k
      · by_cases q2 : k ≤ 4096
        · by_cases q3 : p < s
          · have hs1 := HG.out.s1
            have HL := Lib.hid (show rlen s L p k = (min k (s - p)).toNat by rw [rlen, if_pos ⟨HM.out, q0, q1, q2⟩])
            by_cases hmin : k ≤ s - p
            · obtain ⟨m, hmk⟩ : ∃ m : Nat, k = (m : Int) := ⟨(k).toNat, by omega⟩
              have hmin2 : ¬ (s - p < k) := by omega
              have hm4 : m ≤ 4096 := by omega
              have HLm := Lib.hid (show zs = red L p m by rw [← HZ.out, rd, HL.out]; congr 1; omega)
              have hpm : p + (m : Int) ≤ 1099511627776 := by omega
              have HPO := Lib.hid (show Plain.partsOf 8 p (m : Int) = Plain.partsFrom 8 m p (m : Int) by rw [Plain.partsOf, if_pos ⟨(Plain.span_iff _ _).2 ⟨q0, by omega, by omega, by omega⟩, by omega, by omega⟩, Int.toNat_natCast])
              go_wp2_with (refine st_makeb rfl _ _ rfl _ m rfl rfl (by first | exact hmk | (repeat' split) <;> omega) (by omega) ?_; intro g w2 hg r2 k2; have R2 := Lib.hid r2.out; have K2 := Lib.hid (K1.out.trans (k2.mono K1.out.size)); have B2 := Lib.hid (B1.out.on k2); have HGg := Lib.hid (show w.heap.size + 1 ≤ g by have := B1.out.lt; omega); have hgl := (Array.getElem?_eq_some_iff.1 r2.out).1; clear r2 k2)
              refine (parts_any p m 8 w2 (by omega)).mono ?_
              rintro e w3 ⟨v, rfl, o3, k3⟩
              rw [HPO.out] at o3
              obtain ⟨PA, PC, rfl, hps, hpb⟩ := own_pairs o3
              have HPB := Lib.hid (show ∀ g' o', PA = some ⟨g', o', none⟩ → ¬ g' = g from fun g' o' he => by have := hpb g' o' he; omega)
              clear hpb
              have HPS := Lib.hid hps
              have K3 := Lib.hid (K2.out.trans (k3.mono K2.out.size)); have B3 := Lib.hid (B2.out.on k3)
              have R3 := Lib.hid (show w3.heap[g]? = some (.cells (by8 (red L p 0 ++ List.replicate (m - 0) 0)).toArray 5 (0, 0)) from (k3.block g hgl).trans R2.out)
              have hgl3 : g < w3.heap.size := Nat.lt_of_lt_of_le hgl k3.size
              clear o3 hps k3 K2 B2 R2 K1 B1 c0 c1
              obtain ⟨ps, hps⟩ : ∃ ps, Plain.partsFrom 8 m p (m : Int) = ps := ⟨_, rfl⟩
              rw [hps] at HPS
              have HPF := Lib.hid hps
              have hpl := HPS.out.mx
              obtain ⟨kk, hkk⟩ : ∃ kk, ps.length = kk := ⟨_, rfl⟩
              rw [hkk] at HPS hpl
              have HKK := Lib.hid hkk
              simp only [hps, hkk]
              clear hkk hps HPO
              have hkm : kk ≤ 9223372036854775807 := by unfold maxLen at hpl; omega
              go_wp2
              go_loopw [46] (fun i wr => ∃ (j d F : Nat), j ≤ kk ∧ i = .int .i64 j ∧ d ≤ m ∧ m - d ≤ F ∧ Hid (ps.drop j = Plain.partsFrom 8 F (p + (d : Int)) ((m : Int) - (d : Int))) ∧ Hid (wr.heap[g]? = some (.cells (by8 (red L p d ++ List.replicate (m - d) 0)).toArray 5 (0, 0))) ∧ Hid (Below w.heap.size w wr) ∧ Hid (Box wr w.heap.size s A n c) ∧ Hid (Pairs wr PA kk ps)) (fun i _ => kk - (intOf i).toNat)
              case atStart => exact ⟨0, 0, m, Nat.zero_le _, rfl, Nat.zero_le _, by omega, by unfold Hid; rw [← HPF.out]; simp, R3.out, K3.out, B3.out, HPS.out⟩
              case round =>
                clear R3 K3 B3 HPS
                obtain ⟨j, d, F, hj, rfl, hd, hF, HD, R4, K4, B4, P4⟩ := hrel
                by_cases hlt : j < kk
                · obtain ⟨pb, po, rfl, hpb, hpc⟩ := P4.out.cells (by omega)
                  obtain ⟨hd0, hpa, hdr⟩ := parts_at (by rw [HKK.out]; exact hlt) HD.out (by omega) (by omega)
                  obtain ⟨e0, e1⟩ := hpc j hlt
                  rw [hpa] at e0 e1
                  simp only at e0 e1
                  have HDR := Lib.hid hdr
                  clear hpc hdr hpa
                  obtain ⟨P, hP⟩ : ∃ P, p + (d : Int) = P := ⟨_, rfl⟩
                  obtain ⟨r, hr⟩ : ∃ r : Nat, P % 8 = (r : Int) := ⟨(P % 8).toNat, by omega⟩
                  obtain ⟨t, ht⟩ : ∃ t : Nat, Plain.partLen 8 P ((m : Int) - (d : Int)) = (t : Int) := by
                    refine ⟨(Plain.partLen 8 P ((m : Int) - (d : Int))).toNat, ?_⟩
                    have := Plain.partLen_bounds 8 P ((m : Int) - (d : Int)) (by omega) (by omega) hd0
                    omega
                  have htt : (t : Int) = if (m : Int) - (d : Int) < 8 - (r : Int) then (m : Int) - (d : Int) else 8 - (r : Int) := by rw [← ht, Plain.partLen, hr]
                  have ht1 : t = min (m - d) (8 - r) := by split at htt <;> omega
                  rw [hP] at e0 e1 HDR
                  rw [ht] at e1 HDR
                  have hP0 : 0 ≤ P := by omega
                  have hr8 : r < 8 := by omega
                  have HPp := Lib.hid hP; have HT := Lib.hid ht1
                  have hPd : P - p = (d : Int) := by omega
                  have hdm : d < m := by omega
                  have hPm : P ≤ 1099511627776 := by omega
                  clear hP ht htt ht1
                  have c0 := B4.out.c0; have c1 := B4.out.c1; have hbl := B4.out.lt
                  have hjk : (j : Int) < (kk : Int) := by omega
                  have hjk0 : (0 : Int) ≤ (j : Int) := by omega
                  go_wp2_with fail
                  obtain ⟨i, hi⟩ : ∃ i, idx L (P / 8) = i := ⟨_, rfl⟩
                  obtain ⟨y, hy⟩ : ∃ y, (look L (P / 8)).isSome = y := ⟨_, rfl⟩
                  have HI := Lib.hid hi; have HY := Lib.hid hy
                  have KA := Lib.hid (show Below wr.heap.size wr (wr.alloc (.cells #[.int .i64 P, .int .i64 (t : Int)] 56)) from (Below.refl _ _).alloc (Nat.le_refl _) _)
                  have RA := Lib.hid (Row.new wr 56 #[.int .i64 P, .int .i64 (t : Int)])
                  have hgr := (Array.getElem?_eq_some_iff.1 R4.out).1
                  clear hi hy
                  refine (find_any A n c L (P / 8) _ (H.out.on (K4.out.trans (KA.out.mono K4.out.size))) HG.out.up hn i y HI.out HY.out).mono ?_
                  rintro e w5 ⟨rfl, k5⟩
                  have KB := Lib.hid (KA.out.trans (k5.mono KA.out.size))
                  have RB := Lib.hid (RA.out.on k5)
                  have B5 := Lib.hid (B4.out.on KB.out)
                  have P5 := Lib.hid (P4.out.on KB.out)
                  have K5 := Lib.hid (K4.out.trans (KB.out.mono K4.out.size))
                  have R5 := Lib.hid (show w5.heap[g]? = some (.cells (by8 (red L p d ++ List.replicate (m - d) 0)).toArray 5 (0, 0)) from (KB.out.block g hgr).trans R4.out)
                  have hg5 := Nat.lt_of_lt_of_le hgr KB.out.size
                  clear k5 KA RA c0 c1 R4 B4 K4 P4 KB
                  have c0 := B5.out.c0; have c1 := B5.out.c1
                  have d0 := RB.out.at 0; have d1 := RB.out.at 1
                  simp only [List.getElem?_toArray, List.getElem?_cons_zero, List.getElem?_cons_succ] at d0 d1
                  cases y with
                  | false =>
                    have hln : look L (P / 8) = none := by have := HY.out; cases hx : look L (P / 8) with | none => rfl | some b => rw [hx] at this; cases this
                    have HS := Lib.hid (read_step L p m d t (by have := HT.out; omega) (fun i hi => by
                      have := at_gone hln r i hr (by have := HT.out; omega)
                      rw [← HPp.out] at this
                      rw [show p + ((d + i : Nat) : Int) = p + (d : Int) + (i : Int) by omega]; exact this))
                    clear hln
                    go_wp2
                    go_roundw
                    case rel => exact ⟨j + 1, d + t, F - 1, by omega, by go_num, by have := HT.out; omega, by have := HT.out; omega, by unfold Hid; rw [HDR.out, ← HPp.out]; congr 1 <;> omega, by unfold Hid; rw [← HS.out]; exact R5.out, K5.out, B5.out, P5.out⟩
                    case measure => simp [intOf]; omega
                  | true =>
                    obtain ⟨bs, hls⟩ : ∃ bs, look L (P / 8) = some bs := Option.isSome_iff_exists.1 HY.out
                    have hii := look_idx HG.out.up (P / 8)
                    rw [HI.out] at hii
                    by_cases hc : i < L.length ∧ (L.getD i default).no = P / 8
                    · rw [if_pos hc, hls] at hii
                      have hin : i < n := by rw [← H.out.len]; exact hc.1
                      obtain ⟨b, o, rfl, hb, hcc⟩ := H.out.cells (by omega)
                      have hok := H.out.get i hin
                      have hbs : bs = (L.getD i default).bs := by injection hii
                      have HCS := Lib.hid (show (bs.drop r).take t = (List.range t).map fun (i : Nat) => at_ L (p + ((d + i : Nat) : Int)) by
                        apply List.ext_getElem?
                        intro q
                        by_cases hq : q < t
                        · rw [List.getElem?_take_of_lt hq, List.getElem?_drop, List.getElem?_map, List.getElem?_range hq, Option.map_some]
                          have hx := at_block hls r q hr (by have := HT.out; omega)
                          rw [← HPp.out] at hx
                          rw [show p + ((d + q : Nat) : Int) = p + (d : Int) + (q : Int) by omega, hx, List.getD_eq_getElem?_getD, List.getElem?_eq_getElem (by rw [hbs, hok.1]; have := HT.out; omega)]; rfl
                        · rw [List.getElem?_eq_none (by simp; omega), List.getElem?_eq_none (by simp; omega)])
                      obtain ⟨cs, hcs⟩ : ∃ cs, (bs.drop r).take t = cs := ⟨_, rfl⟩
                      rw [hcs] at HCS
                      have hcl : cs.length = t := by rw [HCS.out]; simp
                      have HRD := Lib.hid (read_copy L p m d t cs (by have := HT.out; omega) HCS.out)
                      have HSRC := Lib.hid (show ∀ W, Below w5.heap.size w5 W → ∀ q v, (by8 cs)[q]? = some v → W.cell? ((⟨b, o + i * 9 + 1 + r, none⟩ : Addr).add q) = some v from fun W hW q v hv => by
                        have hq : q < t := by have := (List.getElem?_eq_some_iff.1 hv).1; rw [by8_len, hcl] at this; exact this
                        have hby := (H.out.on (K5.out.trans (hW.mono K5.out.size))).byte i hin (r + q) (by have := HT.out; omega)
                        rw [Addr.add_mid, Nat.add_assoc (o + i * 9 + 1), hby, ← hv, ← hbs]
                        unfold by8
                        rw [List.getElem?_map, ← hcs, List.getElem?_take_of_lt hq, List.getElem?_drop, List.getElem?_eq_getElem (by rw [hbs, hok.1]; have := HT.out; omega), List.getD_eq_getElem?_getD, List.getElem?_eq_getElem (by rw [hbs, hok.1]; have := HT.out; omega)]; rfl)
                      have HB8 := Lib.hid (by8_one cs)
                      have HBl := Lib.hid (show (by8 cs).length = t by rw [by8_len, hcl])
                      have HZl := Lib.hid (show (by8 (red L p d ++ List.replicate (m - d) 0)).length = m by rw [by8_len, List.length_append, red_len, List.length_replicate]; omega)
                      obtain ⟨X, hX⟩ : ∃ X, by8 (red L p d ++ List.replicate (m - d) 0) = X := ⟨_, rfl⟩
                      obtain ⟨Y, hY⟩ : ∃ Y, by8 cs = Y := ⟨_, rfl⟩
                      rw [hX] at R5 HZl HRD
                      rw [hY] at HSRC HB8 HBl HRD
                      have HNi := Lib.hid hin; have HTt := Lib.hid (show t = min (8 - r) (m - d) by have := HT.out; omega)
                      have hii0 : (0 : Int) ≤ (i : Int) := by omega
                      have hsl8 : ∀ w', (Instr.sliceAt 30 (.pointer (some ⟨b, o + i * 9 + 1, none⟩)) (some (.int .i64 (r : Int))) none none).run Try.prog w' = .ok (.slice (some ⟨b, o + i * 9 + 1 + r, none⟩) (8 - r) (8 - r)) w' := fun w' => by have := cut8_l b (o + i * 9 + 1) r (by omega) w'; rwa [if_neg (by omega)] at this
                      have htm : P.tmod 8 = (r : Int) := by rw [Int.tmod_eq_emod_of_nonneg hP0]; exact hr
                      have hwd : IntKind.i64.wrap (d : Int) = (d : Int) := IntWalk.i64_in _ (by omega)
                      have hwr : IntKind.i64.wrap (r : Int) = (r : Int) := IntWalk.i64_in _ (by omega)
                      have hdd0 : (0 : Int) ≤ (d : Int) := by omega
                      have hdd1 : (d : Int) ≤ (m : Int) := by omega
                      have hrr0 : (0 : Int) ≤ (r : Int) := by omega
                      have hrr1 : (r : Int) ≤ 8 := by omega
                      have hii1 : (i : Int) < (n : Int) := by omega
                      clear hX hY hcs hcl hc hls hii hbs hok hcc hb
                      go_wp2
                      go_region_law (refine step_copy8 rfl _ _ rfl g d (m - d) (m - d) ⟨b, o + i * 9 + 1 + r, none⟩ (8 - r) (8 - r) (by simp [Act.eval, Act.put] <;> omega) (by simp [Act.eval, Act.put] <;> omega) X R5.out Y (by rw [HBl.out, HTt.out]) (HSRC.out _ (Below.refl _ _).drew) (by rw [HBl.out, HZl.out]; have := HT.out; omega) HB8.out ?_; intro w6 hr6 o6; have R6 := Lib.hid hr6.out; have O6 := Lib.hid o6; clear hr6 o6)
                      all_goals
                        have O7 := Lib.hid ((Only.refl (fun k => k = g) w5).drew.trans O6.out (fun _ h _ => h))
                        have B6 := Lib.hid (B5.out.only O7.out (by have := HGg.out; omega))
                        have P6 := Lib.hid (P5.out.only O7.out HPB.out)
                        have K6 := Lib.hid (K5.out.trans (O7.out.below K5.out.size (fun k hk => by have := HGg.out; omega)))
                        go_wp2
                        go_roundw
                        case rel => exact ⟨j + 1, d + t, F - 1, by omega, by go_num, by have := HT.out; omega, by have := HT.out; omega, by unfold Hid; rw [HDR.out, ← HPp.out]; congr 1 <;> omega, by unfold Hid; rw [← HRD.out]; exact R6.out, K6.out, B6.out, P6.out⟩
                        case measure => simp [intOf]; omega
                    · rw [if_neg hc, hls] at hii; cases hii
                · have hmd := parts_end (by rw [HKK.out]; omega) HD.out (by omega) (by omega)
                  obtain rfl : d = m := by omega
                  have HRR := Lib.hid (nums_row R4.out (by rw [List.length_append, red_len, List.length_replicate]; unfold maxLen; omega))
                  have HE := Lib.hid (show red L p d ++ List.replicate (d - d) 0 = zs by rw [Nat.sub_self, HLm.out]; simp)
                  rw [HE.out] at HRR
                  have HZl := Lib.hid (show zs.length = d by rw [HLm.out, red_len])
                  rw [HZl.out] at HRR
                  go_wp2
                  go_ret
                  exact ⟨some ⟨g, 0, none⟩, d, by rw [HZl.out]; rfl, by rw [HZl.out]; exact HRR.out, K4.out⟩
            · obtain ⟨m, hmk⟩ : ∃ m : Nat, s - p = (m : Int) := ⟨(s - p).toNat, by omega⟩
              have hmin2 : s - p < k := by omega
              have hmin3 : s - p ≤ k := by omega
              have hm4 : m ≤ 4096 := by omega
              have HLm := Lib.hid (show zs = red L p m by rw [← HZ.out, rd, HL.out]; congr 1; omega)
              have hpm : p + (m : Int) ≤ 1099511627776 := by omega
              have HPO := Lib.hid (show Plain.partsOf 8 p (m : Int) = Plain.partsFrom 8 m p (m : Int) by rw [Plain.partsOf, if_pos ⟨(Plain.span_iff _ _).2 ⟨q0, by omega, by omega, by omega⟩, by omega, by omega⟩, Int.toNat_natCast])
              go_wp2_with (refine st_makeb rfl _ _ rfl _ m rfl rfl (by first | exact hmk | (repeat' split) <;> omega) (by omega) ?_; intro g w2 hg r2 k2; have R2 := Lib.hid r2.out; have K2 := Lib.hid (K1.out.trans (k2.mono K1.out.size)); have B2 := Lib.hid (B1.out.on k2); have HGg := Lib.hid (show w.heap.size + 1 ≤ g by have := B1.out.lt; omega); have hgl := (Array.getElem?_eq_some_iff.1 r2.out).1; clear r2 k2)
              refine (parts_any p m 8 w2 (by omega)).mono ?_
              rintro e w3 ⟨v, rfl, o3, k3⟩
              rw [HPO.out] at o3
              obtain ⟨PA, PC, rfl, hps, hpb⟩ := own_pairs o3
              have HPB := Lib.hid (show ∀ g' o', PA = some ⟨g', o', none⟩ → ¬ g' = g from fun g' o' he => by have := hpb g' o' he; omega)
              clear hpb
              have HPS := Lib.hid hps
              have K3 := Lib.hid (K2.out.trans (k3.mono K2.out.size)); have B3 := Lib.hid (B2.out.on k3)
              have R3 := Lib.hid (show w3.heap[g]? = some (.cells (by8 (red L p 0 ++ List.replicate (m - 0) 0)).toArray 5 (0, 0)) from (k3.block g hgl).trans R2.out)
              have hgl3 : g < w3.heap.size := Nat.lt_of_lt_of_le hgl k3.size
              clear o3 hps k3 K2 B2 R2 K1 B1 c0 c1
              obtain ⟨ps, hps⟩ : ∃ ps, Plain.partsFrom 8 m p (m : Int) = ps := ⟨_, rfl⟩
              rw [hps] at HPS
              have HPF := Lib.hid hps
              have hpl := HPS.out.mx
              obtain ⟨kk, hkk⟩ : ∃ kk, ps.length = kk := ⟨_, rfl⟩
              rw [hkk] at HPS hpl
              have HKK := Lib.hid hkk
              simp only [hps, hkk]
              clear hkk hps HPO
              have hkm : kk ≤ 9223372036854775807 := by unfold maxLen at hpl; omega
              go_wp2
              go_loopw [46] (fun i wr => ∃ (j d F : Nat), j ≤ kk ∧ i = .int .i64 j ∧ d ≤ m ∧ m - d ≤ F ∧ Hid (ps.drop j = Plain.partsFrom 8 F (p + (d : Int)) ((m : Int) - (d : Int))) ∧ Hid (wr.heap[g]? = some (.cells (by8 (red L p d ++ List.replicate (m - d) 0)).toArray 5 (0, 0))) ∧ Hid (Below w.heap.size w wr) ∧ Hid (Box wr w.heap.size s A n c) ∧ Hid (Pairs wr PA kk ps)) (fun i _ => kk - (intOf i).toNat)
              case atStart => exact ⟨0, 0, m, Nat.zero_le _, rfl, Nat.zero_le _, by omega, by unfold Hid; rw [← HPF.out]; simp, R3.out, K3.out, B3.out, HPS.out⟩
              case round =>
                clear R3 K3 B3 HPS
                obtain ⟨j, d, F, hj, rfl, hd, hF, HD, R4, K4, B4, P4⟩ := hrel
                by_cases hlt : j < kk
                · obtain ⟨pb, po, rfl, hpb, hpc⟩ := P4.out.cells (by omega)
                  obtain ⟨hd0, hpa, hdr⟩ := parts_at (by rw [HKK.out]; exact hlt) HD.out (by omega) (by omega)
                  obtain ⟨e0, e1⟩ := hpc j hlt
                  rw [hpa] at e0 e1
                  simp only at e0 e1
                  have HDR := Lib.hid hdr
                  clear hpc hdr hpa
                  obtain ⟨P, hP⟩ : ∃ P, p + (d : Int) = P := ⟨_, rfl⟩
                  obtain ⟨r, hr⟩ : ∃ r : Nat, P % 8 = (r : Int) := ⟨(P % 8).toNat, by omega⟩
                  obtain ⟨t, ht⟩ : ∃ t : Nat, Plain.partLen 8 P ((m : Int) - (d : Int)) = (t : Int) := by
                    refine ⟨(Plain.partLen 8 P ((m : Int) - (d : Int))).toNat, ?_⟩
                    have := Plain.partLen_bounds 8 P ((m : Int) - (d : Int)) (by omega) (by omega) hd0
                    omega
                  have htt : (t : Int) = if (m : Int) - (d : Int) < 8 - (r : Int) then (m : Int) - (d : Int) else 8 - (r : Int) := by rw [← ht, Plain.partLen, hr]
                  have ht1 : t = min (m - d) (8 - r) := by split at htt <;> omega
                  rw [hP] at e0 e1 HDR
                  rw [ht] at e1 HDR
                  have hP0 : 0 ≤ P := by omega
                  have hr8 : r < 8 := by omega
                  have HPp := Lib.hid hP; have HT := Lib.hid ht1
                  have hPd : P - p = (d : Int) := by omega
                  have hdm : d < m := by omega
                  have hPm : P ≤ 1099511627776 := by omega
                  clear hP ht htt ht1
                  have c0 := B4.out.c0; have c1 := B4.out.c1; have hbl := B4.out.lt
                  have hjk : (j : Int) < (kk : Int) := by omega
                  have hjk0 : (0 : Int) ≤ (j : Int) := by omega
                  go_wp2_with fail
                  obtain ⟨i, hi⟩ : ∃ i, idx L (P / 8) = i := ⟨_, rfl⟩
                  obtain ⟨y, hy⟩ : ∃ y, (look L (P / 8)).isSome = y := ⟨_, rfl⟩
                  have HI := Lib.hid hi; have HY := Lib.hid hy
                  have KA := Lib.hid (show Below wr.heap.size wr (wr.alloc (.cells #[.int .i64 P, .int .i64 (t : Int)] 56)) from (Below.refl _ _).alloc (Nat.le_refl _) _)
                  have RA := Lib.hid (Row.new wr 56 #[.int .i64 P, .int .i64 (t : Int)])
                  have hgr := (Array.getElem?_eq_some_iff.1 R4.out).1
                  clear hi hy
                  refine (find_any A n c L (P / 8) _ (H.out.on (K4.out.trans (KA.out.mono K4.out.size))) HG.out.up hn i y HI.out HY.out).mono ?_
                  rintro e w5 ⟨rfl, k5⟩
                  have KB := Lib.hid (KA.out.trans (k5.mono KA.out.size))
                  have RB := Lib.hid (RA.out.on k5)
                  have B5 := Lib.hid (B4.out.on KB.out)
                  have P5 := Lib.hid (P4.out.on KB.out)
                  have K5 := Lib.hid (K4.out.trans (KB.out.mono K4.out.size))
                  have R5 := Lib.hid (show w5.heap[g]? = some (.cells (by8 (red L p d ++ List.replicate (m - d) 0)).toArray 5 (0, 0)) from (KB.out.block g hgr).trans R4.out)
                  have hg5 := Nat.lt_of_lt_of_le hgr KB.out.size
                  clear k5 KA RA c0 c1 R4 B4 K4 P4 KB
                  have c0 := B5.out.c0; have c1 := B5.out.c1
                  have d0 := RB.out.at 0; have d1 := RB.out.at 1
                  simp only [List.getElem?_toArray, List.getElem?_cons_zero, List.getElem?_cons_succ] at d0 d1
                  cases y with
                  | false =>
                    have hln : look L (P / 8) = none := by have := HY.out; cases hx : look L (P / 8) with | none => rfl | some b => rw [hx] at this; cases this
                    have HS := Lib.hid (read_step L p m d t (by have := HT.out; omega) (fun i hi => by
                      have := at_gone hln r i hr (by have := HT.out; omega)
                      rw [← HPp.out] at this
                      rw [show p + ((d + i : Nat) : Int) = p + (d : Int) + (i : Int) by omega]; exact this))
                    clear hln
                    go_wp2
                    go_roundw
                    case rel => exact ⟨j + 1, d + t, F - 1, by omega, by go_num, by have := HT.out; omega, by have := HT.out; omega, by unfold Hid; rw [HDR.out, ← HPp.out]; congr 1 <;> omega, by unfold Hid; rw [← HS.out]; exact R5.out, K5.out, B5.out, P5.out⟩
                    case measure => simp [intOf]; omega
                  | true =>
                    obtain ⟨bs, hls⟩ : ∃ bs, look L (P / 8) = some bs := Option.isSome_iff_exists.1 HY.out
                    have hii := look_idx HG.out.up (P / 8)
                    rw [HI.out] at hii
                    by_cases hc : i < L.length ∧ (L.getD i default).no = P / 8
                    · rw [if_pos hc, hls] at hii
                      have hin : i < n := by rw [← H.out.len]; exact hc.1
                      obtain ⟨b, o, rfl, hb, hcc⟩ := H.out.cells (by omega)
                      have hok := H.out.get i hin
                      have hbs : bs = (L.getD i default).bs := by injection hii
                      have HCS := Lib.hid (show (bs.drop r).take t = (List.range t).map fun (i : Nat) => at_ L (p + ((d + i : Nat) : Int)) by
                        apply List.ext_getElem?
                        intro q
                        by_cases hq : q < t
                        · rw [List.getElem?_take_of_lt hq, List.getElem?_drop, List.getElem?_map, List.getElem?_range hq, Option.map_some]
                          have hx := at_block hls r q hr (by have := HT.out; omega)
                          rw [← HPp.out] at hx
                          rw [show p + ((d + q : Nat) : Int) = p + (d : Int) + (q : Int) by omega, hx, List.getD_eq_getElem?_getD, List.getElem?_eq_getElem (by rw [hbs, hok.1]; have := HT.out; omega)]; rfl
                        · rw [List.getElem?_eq_none (by simp; omega), List.getElem?_eq_none (by simp; omega)])
                      obtain ⟨cs, hcs⟩ : ∃ cs, (bs.drop r).take t = cs := ⟨_, rfl⟩
                      rw [hcs] at HCS
                      have hcl : cs.length = t := by rw [HCS.out]; simp
                      have HRD := Lib.hid (read_copy L p m d t cs (by have := HT.out; omega) HCS.out)
                      have HSRC := Lib.hid (show ∀ W, Below w5.heap.size w5 W → ∀ q v, (by8 cs)[q]? = some v → W.cell? ((⟨b, o + i * 9 + 1 + r, none⟩ : Addr).add q) = some v from fun W hW q v hv => by
                        have hq : q < t := by have := (List.getElem?_eq_some_iff.1 hv).1; rw [by8_len, hcl] at this; exact this
                        have hby := (H.out.on (K5.out.trans (hW.mono K5.out.size))).byte i hin (r + q) (by have := HT.out; omega)
                        rw [Addr.add_mid, Nat.add_assoc (o + i * 9 + 1), hby, ← hv, ← hbs]
                        unfold by8
                        rw [List.getElem?_map, ← hcs, List.getElem?_take_of_lt hq, List.getElem?_drop, List.getElem?_eq_getElem (by rw [hbs, hok.1]; have := HT.out; omega), List.getD_eq_getElem?_getD, List.getElem?_eq_getElem (by rw [hbs, hok.1]; have := HT.out; omega)]; rfl)
                      have HB8 := Lib.hid (by8_one cs)
                      have HBl := Lib.hid (show (by8 cs).length = t by rw [by8_len, hcl])
                      have HZl := Lib.hid (show (by8 (red L p d ++ List.replicate (m - d) 0)).length = m by rw [by8_len, List.length_append, red_len, List.length_replicate]; omega)
                      obtain ⟨X, hX⟩ : ∃ X, by8 (red L p d ++ List.replicate (m - d) 0) = X := ⟨_, rfl⟩
                      obtain ⟨Y, hY⟩ : ∃ Y, by8 cs = Y := ⟨_, rfl⟩
                      rw [hX] at R5 HZl HRD
                      rw [hY] at HSRC HB8 HBl HRD
                      have HNi := Lib.hid hin; have HTt := Lib.hid (show t = min (8 - r) (m - d) by have := HT.out; omega)
                      have hii0 : (0 : Int) ≤ (i : Int) := by omega
                      have hsl8 : ∀ w', (Instr.sliceAt 30 (.pointer (some ⟨b, o + i * 9 + 1, none⟩)) (some (.int .i64 (r : Int))) none none).run Try.prog w' = .ok (.slice (some ⟨b, o + i * 9 + 1 + r, none⟩) (8 - r) (8 - r)) w' := fun w' => by have := cut8_l b (o + i * 9 + 1) r (by omega) w'; rwa [if_neg (by omega)] at this
                      have htm : P.tmod 8 = (r : Int) := by rw [Int.tmod_eq_emod_of_nonneg hP0]; exact hr
                      have hwd : IntKind.i64.wrap (d : Int) = (d : Int) := IntWalk.i64_in _ (by omega)
                      have hwr : IntKind.i64.wrap (r : Int) = (r : Int) := IntWalk.i64_in _ (by omega)
                      have hdd0 : (0 : Int) ≤ (d : Int) := by omega
                      have hdd1 : (d : Int) ≤ (m : Int) := by omega
                      have hrr0 : (0 : Int) ≤ (r : Int) := by omega
                      have hrr1 : (r : Int) ≤ 8 := by omega
                      have hii1 : (i : Int) < (n : Int) := by omega
                      clear hX hY hcs hcl hc hls hii hbs hok hcc hb
                      go_wp2
                      go_region_law (refine step_copy8 rfl _ _ rfl g d (m - d) (m - d) ⟨b, o + i * 9 + 1 + r, none⟩ (8 - r) (8 - r) (by simp [Act.eval, Act.put] <;> omega) (by simp [Act.eval, Act.put] <;> omega) X R5.out Y (by rw [HBl.out, HTt.out]) (HSRC.out _ (Below.refl _ _).drew) (by rw [HBl.out, HZl.out]; have := HT.out; omega) HB8.out ?_; intro w6 hr6 o6; have R6 := Lib.hid hr6.out; have O6 := Lib.hid o6; clear hr6 o6)
                      all_goals
                        have O7 := Lib.hid ((Only.refl (fun k => k = g) w5).drew.trans O6.out (fun _ h _ => h))
                        have B6 := Lib.hid (B5.out.only O7.out (by have := HGg.out; omega))
                        have P6 := Lib.hid (P5.out.only O7.out HPB.out)
                        have K6 := Lib.hid (K5.out.trans (O7.out.below K5.out.size (fun k hk => by have := HGg.out; omega)))
                        go_wp2
                        go_roundw
                        case rel => exact ⟨j + 1, d + t, F - 1, by omega, by go_num, by have := HT.out; omega, by have := HT.out; omega, by unfold Hid; rw [HDR.out, ← HPp.out]; congr 1 <;> omega, by unfold Hid; rw [← HRD.out]; exact R6.out, K6.out, B6.out, P6.out⟩
                        case measure => simp [intOf]; omega
                    · rw [if_neg hc, hls] at hii; cases hii
                · have hmd := parts_end (by rw [HKK.out]; omega) HD.out (by omega) (by omega)
                  obtain rfl : d = m := by omega
                  have HRR := Lib.hid (nums_row R4.out (by rw [List.length_append, red_len, List.length_replicate]; unfold maxLen; omega))
                  have HE := Lib.hid (show red L p d ++ List.replicate (d - d) 0 = zs by rw [Nat.sub_self, HLm.out]; simp)
                  rw [HE.out] at HRR
                  have HZl := Lib.hid (show zs.length = d by rw [HLm.out, red_len])
                  rw [HZl.out] at HRR
                  go_wp2
                  go_ret
                  exact ⟨some ⟨g, 0, none⟩, d, by rw [HZl.out]; rfl, by rw [HZl.out]; exact HRR.out, K4.out⟩
          · have HF := Lib.hid (HN.out (by
              rw [rlen]
              split
              · omega
              · rfl))
            go_wp2
            go_ret
            exact ⟨none, 0, by rw [HF.out]; rfl, by rw [HF.out]; exact nums_nil _ _, K1.out⟩
        · have HF := Lib.hid (HN.out (by rw [rlen, if_neg (fun h => q2 h.2.2.2)]))
          go_wp2
          go_ret
          exact ⟨none, 0, by rw [HF.out]; rfl, by rw [HF.out]; exact nums_nil _ _, K1.out⟩
      · have HF := Lib.hid (HN.out (by rw [rlen, if_neg (fun h => q1 h.2.2.1)]))
        go_wp2
        go_ret
        exact ⟨none, 0, by rw [HF.out]; rfl, by rw [HF.out]; exact nums_nil _ _, K1.out⟩
    · have HF := Lib.hid (HN.out (by rw [rlen, if_neg (fun h => q0 h.2.1)]))
      go_wp2
      go_ret
      exact ⟨none, 0, by rw [HF.out]; rfl, by rw [HF.out]; exact nums_nil _ _, K1.out⟩
end Go.Proofs.Ytigfimlpjmmpoaa
