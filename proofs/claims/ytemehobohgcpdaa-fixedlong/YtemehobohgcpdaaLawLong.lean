/- The law FixedLong, walked. -/
import Derived.Test.YtemehobohgcpdaaWalksS
import Derived.Test.YtemehobohgcpdaaPlainL
import Derived.WalkKit
import Derived.WalkSpells
import Derived.WalkLawsBesides
import Derived.Lib.Hide
import Derived.Laws.IdiomStrings
namespace Go.Proofs.Ytemehobohgcpdaa
open Go.RowKit

theorem str_at (zs : List Int) (h : Are zs) (k : Nat) (hk : k < (strOfNums zs).size) : (((strOfNums zs)[k]'hk).toNat : Int) = zs.getD k 0 := by
  have hl : k < zs.length := by rwa [str_size] at hk
  have hb := h.at k
  rw [List.getD_eq_getElem?_getD, List.getElem?_eq_getElem hl] at hb ⊢
  simp only [Option.getD_some] at hb ⊢
  have he : (strOfNums zs)[k]'hk = UInt8.ofNat (zs[k]).toNat := by
    show (strOfNums zs).data[k] = _
    simp [strOfNums]
  rw [he]
  simp
  omega

/-- Text as bytes. -/
theorem str_bytes (zs : List Int) (h : Are zs) (n : Nat) (hn : zs.length = n) (hm : n ≤ 1000000) (w : World) :
    ∃ A c w', (convert 9 26 (.string (strOfNums zs))).run Try.prog w = .ok (.slice A n c) w' ∧ ElOk w' ⟨A, n, c, zs⟩ ∧ Below w.heap.size w w' := by
  subst hn
  have hr := run_bytes_of_string (P := Try.prog) w 9 26 5 (strOfNums zs) Try.underlying9 Try.underlying26 Try.underlying5
  rw [str_size] at hr
  have hgc := grownCap_ge w zs.length 0 5
  have hgm := grownCap_le_maxLen w zs.length 0 5 (by unfold maxLen; omega)
  refine ⟨_, _, _, hr, ⟨⟨rfl, hgc, hgm, fun _ => ⟨w.heap.size, 0, rfl, by simp, fun k hk => ?_⟩⟩, (fun h => by cases h), h⟩, ((Below.refl _ w).drew).alloc (Nat.le_refl _) _⟩
  have hk : k < zs.length := hk
  have hks : k < (strOfNums zs).size := by rw [str_size]; exact hk
  have hb := heap_alloc_new w.drew (.cells (bytesRow (strOfNums zs) (grownCap w zs.length 0 5)) 5 ((bytesRow (strOfNums zs) (grownCap w zs.length 0 5)).size, (bytesRow (strOfNums zs) (grownCap w zs.length 0 5)).size + 1))
  rw [show w.drew.heap.size = w.heap.size from rfl] at hb
  rw [cell_of_row _ _ _ _ 5 _ hb]
  have hz := str_at zs h k hks
  rw [← hz, Nat.zero_add, bytesRow, Array.getElem?_append_left (by simp [Array.size_map]; exact hks), Array.getElem?_map]
  rw [Array.getElem?_eq_getElem (by exact hks)]
  rfl

theorem text_one (w : World) (z : Int) (g : Nat) (hg : g = w.heap.size) : (convert 26 9 (.slice (some ⟨g, 0, none⟩) 1 1)).run Try.prog (w.alloc (.cells #[.int .u8 z] 5)) = .ok (.string (strOfNums [z])) (w.alloc (.cells #[.int .u8 z] 5)) := by
  subst hg
  exact text_of (one_new w z) (fun h => by cases h)
theorem str_add_lit (a b c : List Int) (B : ByteArray) (hB : strOfNums b = B) (h : a ++ b = c) (hl : c.length ≤ 1000000) (w : World) : (Op.stringOp .add (strOfNums a) B).run Try.prog w = .ok (.string (strOfNums c)) w := by
  subst hB; exact str_add a b c h hl w

theorem IsRow.are {w : World} {a : Option Addr} {len cap : Nat} {zs : List Int} (h : IsRow .u8 w a len cap zs) : Are (zs.take len) := by
  rcases h with ⟨rfl, rfl, rfl, rfl⟩ | ⟨x, rfl, hl, hm, hz, hc, hw⟩
  · exact fun z hz => by simp at hz
  · exact fun z hz => byte_of (hw z (List.mem_of_mem_take hz))

set_option maxRecDepth 100000 in
set_option maxHeartbeats 8000000 in
theorem long_walk (cb : Int) (A : Option Addr) (m ac : Nat) (zs0 : List Int) (c : Int) (w : World) (hcb : (Lit.int .u8 cb).wf = true) (hL : IsRow .u8 w A m ac zs0) (hc : (Lit.int .u8 c).wf = true) :
    Calls Try.prog 8 #[.int .u8 cb, .slice A m ac, .int .u8 c] w fun e w' => e = .returned (.bool true) ∧ Below w.heap.size w w' := by
  have hcb2 := byte_of hcb
  have hc2 := byte_of hc
  have HB := Lib.hid hL.bytes.1
  have HA := Lib.hid hL.are
  generalize zs0.take m = zs at *
  clear hcb hc hL
  obtain ⟨q, hq, hq2⟩ : ∃ q : Nat, cb.tmod 40 = (q : Int) ∧ q < 40 := by
    refine ⟨(cb.tmod 40).toNat, ?_, ?_⟩ <;> rw [Int.tmod_eq_emod_of_nonneg hcb2.1] <;> omega
  have hmm : m ≤ 9223372036854775807 := by have := HB.out.2.1; have := HB.out.2.2.1; unfold maxLen at this; omega
  go_enter Try.func8, Try.ntmps8
  by_cases hbad : 20 < m ∨ c = 10
  · rcases Nat.lt_or_ge 20 m with h20 | h20
    · have hd : decide ((20 : Int) < (m : Int)) = true := by simp; omega
      go_wp2_with fail
      refine (law_runs _).mono ?_
      rintro e w2 ⟨rfl, k2⟩
      go_wp2
      go_ret
      exact ⟨rfl, k2⟩
    · have hd : decide ((20 : Int) < (m : Int)) = false := by simp; omega
      obtain rfl : c = 10 := by omega
      go_wp2_with fail
      refine (law_runs _).mono ?_
      rintro e w2 ⟨rfl, k2⟩
      go_wp2
      go_ret
      exact ⟨rfl, k2⟩
  · have hd : decide ((20 : Int) < (m : Int)) = false := by simp; omega
    have hm20 : m ≤ 20 := by omega
    have hc10 : ¬ c = 10 := by omega
    have hc11 : (c == 10) = false := by simpa using hc10
    clear hbad
    obtain ⟨n, hn⟩ : ∃ n : Nat, q + 1 = n := ⟨_, rfl⟩
    have hni : (q : Int) + 1 = (n : Int) := by omega
    have hn1 : 1 ≤ n ∧ n ≤ 40 := by omega
    clear hn
    go_wp2
    obtain ⟨ks, hks⟩ : ∃ ks : List Nat, zs.map (fun z => (z.tmod 100).toNat) = ks := ⟨_, rfl⟩
    have hkl : ks.length = m := by rw [← hks, List.length_map]; exact HB.out.1
    have HK := Lib.hid (show ∀ j, j < m → ∃ k : Nat, (zs.getD j 0).tmod 100 = (k : Int) ∧ ks.getD j 0 = k ∧ k < 100 from fun j hj => by
      have hz := HA.out.at j
      refine ⟨((zs.getD j 0).tmod 100).toNat, ?_, ?_, ?_⟩
      · rw [Int.tmod_eq_emod_of_nonneg hz.1]; omega
      · rw [← hks]
        simp only [List.getD_eq_getElem?_getD, List.getElem?_map]
        rw [List.getElem?_eq_getElem (by have := HB.out.1; omega)]
        rfl
      · rw [Int.tmod_eq_emod_of_nonneg hz.1]; omega)
    have HK2 := Lib.hid (show ∀ k ∈ ks, k < 100 from fun k hk => by
      rw [← hks] at hk
      obtain ⟨z, hz, rfl⟩ := List.mem_map.1 hk
      have := HA.out z hz
      rw [Int.tmod_eq_emod_of_nonneg this.1]; omega)
    clear hks
    have HKL := Lib.hid hkl
    clear hkl
    have BS := Lib.hid (show ∀ j, j ≤ m → (lS c (ks.take j)).length ≤ 2000 ∧ (lW n c (ks.take j)).length ≤ 800 ∧ lC n (ks.take j) ≤ 20 from fun j hj => by
      have h1 := lS_le c (ks.take j) (fun k hk => HK2.out k (List.mem_of_mem_take hk))
      have h2 := lW_le n c (ks.take j)
      have h3 := lC_le n (ks.take j)
      have h4 : (ks.take j).length ≤ 20 := by rw [List.length_take, HKL.out]; omega
      have h5 : n * (ks.take j).length ≤ 40 * 20 := Nat.mul_le_mul hn1.2 h4
      omega)
    go_loopw [8, 9, 10, 11] (fun vs vc vw i wr => ∃ (j : Nat) (ss ws : List Int) (ct : Nat), j ≤ m ∧ i = .int .i64 j ∧ vs = .string (strOfNums ss) ∧ vc = .int .i64 ct ∧ vw = .string (strOfNums ws) ∧ Hid (ss = lS c (ks.take j) ∧ ws = lW n c (ks.take j) ∧ ct = lC n (ks.take j)) ∧ Hid (Below w.heap.size w wr)) (fun _ _ _ i _ => m - (intOf i).toNat)
    case atStart => exact ⟨0, [], [], 0, Nat.zero_le _, rfl, rfl, rfl, rfl, by unfold Hid; exact ⟨rfl, rfl, rfl⟩, Below.refl _ _⟩
    case round =>
      obtain ⟨j, ss, ws, ct, hj, rfl, rfl, rfl, rfl, EE, BW⟩ := hrel
      by_cases hlt : j < m
      · obtain ⟨g, o, rfl, hg, hcell⟩ := HB.out.2.2.2 (by omega)
        have c0 := (BW.out.cell (p := ⟨g, o + j, none⟩) hg).trans (hcell j hlt)
        have hz := HA.out.at j
        obtain ⟨k, hk1, hk2, hk3⟩ := HK.out j hlt
        have hjk : j < ks.length := by rw [HKL.out]; exact hlt
        have e1 := lS_snoc c ks j hjk; have e2 := lW_snoc n c ks j hjk; have e3 := lC_snoc n ks j hjk
        rw [hk2, ← EE.out.1] at e1
        rw [hk2, ← EE.out.2.1] at e2
        rw [hk2, ← EE.out.2.2] at e3
        have E1 := Lib.hid e1; have E2 := Lib.hid e2; have E3 := Lib.hid e3
        have bs := BS.out (j + 1) (by omega)
        rw [e1, e2, e3] at bs
        have hct : ct ≤ 20 := by have := bs.2.2; omega
        have BN := Lib.hid bs
        clear bs e1 e2 e3 hk2 hjk hcell hg
        generalize zs.getD j 0 = z at *
        obtain ⟨M, hM⟩ : ∃ M, max k n = M := ⟨_, rfl⟩
        have hMk : k ≤ M := by omega
        have hMn : n ≤ M := by omega
        go_wp2
        go_loopw [8, 10, 13] (fun vs vw i2 wr2 => ∃ (t : Nat) (s2 w2 : List Int), t ≤ M ∧ i2 = .int .i64 t ∧ vs = .string (strOfNums s2) ∧ vw = .string (strOfNums w2) ∧ Hid (s2 = ss ++ (List.replicate k c).take t ∧ w2 = ws ++ (rcd n (List.replicate k c)).take t) ∧ Hid (Below w.heap.size w wr2)) (fun _ _ i2 _ => M - (intOf i2).toNat)
        case atStart => exact ⟨0, ss, ws, Nat.zero_le _, rfl, rfl, rfl, by unfold Hid; simp, BW.out⟩
        case round =>
          obtain ⟨t, s2, w2, ht, rfl, rfl, rfl, FF, BV⟩ := hrel
          have K1 := Lib.hid (show Below wr.heap.size wr (wr.alloc (.cells #[.int .u8 c] 5)) from (Below.refl _ _).alloc (Nat.le_refl _) _)
          have BV1 := Lib.hid (BV.out.trans (K1.out.mono BV.out.size))
          have hs2 : s2.length ≤ 5000 := by have e := FF.out.1; have := BN.out.1; rw [e]; simp at this ⊢; omega
          have hw2 : w2.length ≤ 5000 := by have e := FF.out.2; have := BN.out.2.1; rw [e]; simp at this ⊢; omega
          by_cases htk : t < k
          · obtain ⟨s3, hs3⟩ : ∃ s3, s2 ++ [c] = s3 := ⟨_, rfl⟩
            have hs3l : s3.length ≤ 1000000 := by rw [← hs3]; simp; omega
            have sa1 : ∀ w' : World, (Op.stringOp .add (strOfNums s2) (strOfNums [c])).run Try.prog w' = .ok (.string (strOfNums s3)) w' := str_add _ _ _ hs3 hs3l
            have t1 := text_one wr c wr.heap.size rfl
            have Fstand := Lib.hid (show s3 = ss ++ (List.replicate k c).take (t + 1) by rw [rep_take k t c htk, ← List.append_assoc, ← FF.out.1, hs3])
            clear hs3 hs3l
            by_cases htn : t < n
            · obtain ⟨w3, hw3⟩ : ∃ w3, w2 ++ [c] = w3 := ⟨_, rfl⟩
              have hw3l : w3.length ≤ 1000000 := by rw [← hw3]; simp; omega
              have sa2 : ∀ w' : World, (Op.stringOp .add (strOfNums w2) (strOfNums [c])).run Try.prog w' = .ok (.string (strOfNums w3)) w' := str_add _ _ _ hw3 hw3l
              have t2 := text_one (wr.alloc (.cells #[.int .u8 c] 5)) c (wr.heap.size + 1) (by simp)
              have FW := Lib.hid (show w3 = ws ++ (rcd n (List.replicate k c)).take (t + 1) by rw [rcd_take n k t c htn, if_pos htk, ← List.append_assoc, ← FF.out.2, hw3])
              have BV2 := Lib.hid (BV1.out.alloc BV1.out.size (.cells #[.int .u8 c] 5))
              clear hw3 hw3l
              rcases Nat.lt_or_ge k n with hkn | hkn
              · go_wp2
                go_roundw
                case rel => exact ⟨t + 1, s3, w3, by omega, by go_num, rfl, rfl, ⟨Fstand.out, FW.out⟩, BV2.out⟩
                case measure => simp [intOf]; omega
              · go_wp2
                go_roundw
                case rel => exact ⟨t + 1, s3, w3, by omega, by go_num, rfl, rfl, ⟨Fstand.out, FW.out⟩, BV2.out⟩
                case measure => simp [intOf]; omega
            · have FW := Lib.hid (show w2 = ws ++ (rcd n (List.replicate k c)).take (t + 1) by rw [all_take (by rw [rcd_len]; omega)]; exact FF.out.2)
              have hkn : n ≤ k := by omega
              have hd2 : decide ((t : Int) < (n : Int)) = false := by simp; omega
              go_wp2
              go_roundw
              case rel => exact ⟨t + 1, s3, w2, by omega, by go_num, rfl, rfl, ⟨Fstand.out, FW.out⟩, BV1.out⟩
              case measure => simp [intOf]; omega
          · have Fstand := Lib.hid (show s2 = ss ++ (List.replicate k c).take (t + 1) by rw [all_take (by simp; omega)]; exact FF.out.1)
            have hd1 : decide ((t : Int) < (k : Int)) = false := by simp; omega
            by_cases htn : t < n
            · obtain ⟨w3, hw3⟩ : ∃ w3, w2 ++ [32] = w3 := ⟨_, rfl⟩
              have hw3l : w3.length ≤ 1000000 := by rw [← hw3]; simp; omega
              have sa2 : ∀ w' : World, (Op.stringOp .add (strOfNums w2) ⟨#[32]⟩).run Try.prog w' = .ok (.string (strOfNums w3)) w' := str_add_lit _ [32] _ _ rfl hw3 hw3l
              have FW := Lib.hid (show w3 = ws ++ (rcd n (List.replicate k c)).take (t + 1) by rw [rcd_take n k t c htn, if_neg htk, ← List.append_assoc, ← FF.out.2, hw3])
              clear hw3 hw3l
              have hkn : k < n := by omega
              go_wp2
              go_roundw
              case rel => exact ⟨t + 1, s2, w3, by omega, by go_num, rfl, rfl, ⟨Fstand.out, FW.out⟩, BV.out⟩
              case measure => simp [intOf]; omega
            · have FS1 := Lib.hid (show s2 = ss ++ List.replicate k c by rw [FF.out.1, List.take_of_length_le (by simp; omega)])
              have FW1 := Lib.hid (show w2 = ws ++ rcd n (List.replicate k c) by rw [FF.out.2, List.take_of_length_le (by rw [rcd_len]; omega)])
              obtain ⟨s4, hs4⟩ : ∃ s4, s2 ++ [10] = s4 := ⟨_, rfl⟩
              have hs4l : s4.length ≤ 1000000 := by rw [← hs4]; simp; omega
              have sa3 : ∀ w' : World, (Op.stringOp .add (strOfNums s2) ⟨#[10]⟩).run Try.prog w' = .ok (.string (strOfNums s4)) w' := str_add_lit _ [10] _ _ rfl hs4 hs4l
              have F4 := Lib.hid (show s4 = lS c (ks.take (j + 1)) by rw [E1.out, ← FS1.out, hs4])
              have F5 := Lib.hid (show w2 = lW n c (ks.take (j + 1)) by rw [E2.out, ← FW1.out])
              clear hs4 hs4l FS1 FW1 Fstand
              have hd2 : decide ((t : Int) < (n : Int)) = false := by simp; omega
              rcases Nat.lt_or_ge n k with hkn | hkn
              · have F6 := Lib.hid (show ct + 1 = lC n (ks.take (j + 1)) by rw [E3.out, if_pos hkn])
                have hkn2 : ¬ k < n := by omega
                go_wp2
                go_roundw
                case rel => exact ⟨j + 1, s4, w2, ct + 1, by omega, by go_num, rfl, by go_num, rfl, ⟨F4.out, F5.out, F6.out⟩, BV.out⟩
                case measure => simp [intOf]; omega
              · have F6 := Lib.hid (show ct = lC n (ks.take (j + 1)) by rw [E3.out, if_neg (by omega)]; rfl)
                rcases Nat.lt_or_ge k n with hkn3 | hkn3
                · go_wp2
                  go_roundw
                  case rel => exact ⟨j + 1, s4, w2, ct, by omega, by go_num, rfl, rfl, rfl, ⟨F4.out, F5.out, F6.out⟩, BV.out⟩
                  case measure => simp [intOf]; omega
                · go_wp2
                  go_roundw
                  case rel => exact ⟨j + 1, s4, w2, ct, by omega, by go_num, rfl, rfl, rfl, ⟨F4.out, F5.out, F6.out⟩, BV.out⟩
                  case measure => simp [intOf]; omega
      · have hjm : j = m := by omega
        have HT := Lib.hid (show ks.take j = ks by rw [hjm, ← HKL.out]; exact List.take_length)
        have hbs := BS.out j hj
        rw [← EE.out.1, ← EE.out.2.1, ← EE.out.2.2] at hbs
        have ee := EE.out
        rw [HT.out] at ee
        have hlp := l_packs n c hc10 ks
        rw [← ee.1, ← ee.2.1, ← ee.2.2] at hlp
        have HP := Lib.hid (show pAll n ss = ws by rw [pAll, hlp.1, hlp.2.1]; simp [pEnd])
        have HC := Lib.hid (show cAll n ss = ct by rw [cAll, hlp.2.2, hlp.2.1, over_nil]; rfl)
        have HR := Lib.hid (show Are ss by rw [ee.1]; exact lS_are hc2 ks)
        obtain ⟨sl, hsl⟩ : ∃ sl, ss.length = sl := ⟨_, rfl⟩
        obtain ⟨A5, c5, w5, r5, ok5, k5⟩ := str_bytes ss HR.out sl hsl (by omega) wr
        have O5 := Lib.hid ok5; have K5 := Lib.hid k5
        have hsl2 : sl ≤ 2000 := by omega
        have HSL := Lib.hid hsl
        have hmul := Lib.hid (show n * ss.length ≤ 900000 from Nat.le_trans (Nat.mul_le_mul hn1.2 (show ss.length ≤ 2000 by omega)) (by decide))
        clear hbs ee hlp ok5 k5 hsl
        have hkn := Lib.hid (show kOf (n : Int) = n by unfold kOf; rw [if_neg (by omega), if_neg (by omega)]; rfl)
        have L5 := Lib.hid (lists_one w5 ⟨A5, sl, c5, ss⟩ 26 _ rfl O5.out)
        have K6 := Lib.hid (show Below w5.heap.size w5 (w5.alloc (.cells #[.slice A5 sl c5] 26)) from (Below.refl _ _).alloc (Nat.le_refl _) _)
        go_wp2_with fail
        refine (pack_any (n : Int) n _ 1 1 [⟨A5, sl, c5, ss⟩] ss ws ct _ (by omega) (by omega) hkn.out L5.out (by omega) (by simp [cat]) hmul.out (by have := HSL.out; omega) HP.out HC.out).mono ?_
        rintro e w6 ⟨rfl, k6⟩
        have k7 := K6.out.trans (k6.mono K6.out.size)
        have k8 := K5.out.trans (k7.mono K5.out.size)
        have B6 := Lib.hid (BW.out.trans (k8.mono BW.out.size))
        clear k6 k7 k8 L5 K6 O5 K5 r5
        go_wp2_with fail
        refine (law_runs _).mono ?_
        rintro e w8 ⟨rfl, k8⟩
        go_wp2
        go_ret
        exact ⟨rfl, B6.out.trans (k8.mono B6.out.size)⟩

end Go.Proofs.Ytemehobohgcpdaa
