/- The law FixedBack, walked. -/
import Derived.Test.YtemehobohgcpdaaLawLong
import Derived.Test.YtemehobohgcpdaaPlainB
import Derived.WalkKit
import Derived.WalkSpells
import Derived.WalkLawsBesides
import Derived.Lib.Hide
import Derived.BigQuiet
import Derived.Deep.Strs
namespace Go.Proofs.Ytemehobohgcpdaa
open Go.RowKit

/-- A slice of texts. -/
structure Strs (w : World) (A : Option Addr) (n : Nat) (T : List ByteArray) : Prop where
  len : T.length = n
  cells : 0 < n → ∃ b o, A = some ⟨b, o, none⟩ ∧ b < w.heap.size ∧ ∀ k, k < n → w.cell? ⟨b, o + k, none⟩ = some (.string (T.getD k default))
  size : ∀ k, k < n → (T.getD k default).size ≤ maxLen
def IsStrs (w : World) (A : Option Addr) (n : Nat) (T : List ByteArray) : Prop := n ≤ maxLen ∧ Strs w A n T
theorem isStrs_nil (w : World) : IsStrs w none 0 [] := ⟨Nat.zero_le _, ⟨rfl, (fun h => absurd h (by omega)), fun k h => absurd h (by omega)⟩⟩
theorem isStrs_read {H : Type} {enc : TypeId × Value → H} {w : World} {base : Nat} {fuel : Nat} {cs : List Value} {x : DataW H × List MemPlace} (h : DataW.trod enc Try.prog w base (fun _ => true) true fuel 51 cs = some x) :
    cs = [.slice none 0 0] ∨ ∃ a len cap, cs = [.slice (some a) len cap] ∧ ∃ L, IsStrs w (some a) len L := by
  rcases Go.Deep.open_strs Try.underlying51 Try.underlying9 (by kernel_rfl) h with ⟨h0, _⟩ | ⟨a, len, cap, m, Sx, rfl, _, hl, hm, hmm, _, hx⟩
  · exact .inl h0
  simp at hmm
  subst hmm
  refine .inr ⟨a, len, m, rfl, (List.range len).map Sx, by omega, ?_⟩
  have hg : ∀ k, k < len → ((List.range len).map Sx).getD k default = Sx k := by
    intro k hk
    rw [List.getD_eq_getElem?_getD, List.getElem?_map, List.getElem?_range hk]
    rfl
  refine ⟨by simp, fun hp => ?_, fun k hk => by rw [hg k hk]; exact (hx k (by omega)).2⟩
  obtain ⟨b, o, s⟩ := a
  have h0 := (hx 0 (by omega)).1
  have hs : s = none := by simpa [Addr.add] using World.cell?_spot h0
  subst hs
  refine ⟨b, o, rfl, World.block_lt_of_cell? w ⟨b, o, none⟩ (by simpa [Addr.add] using h0), fun k hk => ?_⟩
  rw [hg k hk]
  have hk' := (hx k (by omega)).1
  by_cases h0 : k = 0
  · subst h0; simpa [Addr.add] using hk'
  · simpa [Addr.add, h0] using hk'

set_option maxRecDepth 100000 in
set_option maxHeartbeats 8000000 in
theorem back_walk (cb : Int) (A : Option Addr) (m ac : Nat) (T : List ByteArray) (w : World) (hcb : (Lit.int .u8 cb).wf = true) (hL : IsStrs w A m T) :
    Calls Try.prog 7 #[.int .u8 cb, .slice A m ac] w fun e w' => e = .returned (.bool true) ∧ Below w.heap.size w w' := by
  have hcb2 := byte_of hcb
  have HL := Lib.hid hL.2
  have hmm : m ≤ 9223372036854775807 := by have := hL.1; unfold maxLen at this; omega
  clear hcb hL
  obtain ⟨q, hq, hq2⟩ : ∃ q : Nat, cb.tmod 60 = (q : Int) ∧ q < 60 := by
    refine ⟨(cb.tmod 60).toNat, ?_, ?_⟩ <;> rw [Int.tmod_eq_emod_of_nonneg hcb2.1] <;> omega
  go_enter Try.func7, Try.ntmps7
  by_cases hbad : 20 < m
  · have hd : decide ((20 : Int) < (m : Int)) = true := by simp; omega
    go_wp2_with fail
    refine (law_runs _).mono ?_
    rintro e w2 ⟨rfl, k2⟩
    go_wp2
    go_ret
    exact ⟨rfl, k2⟩
  · have hd : decide ((20 : Int) < (m : Int)) = false := by simp; omega
    have hm20 : m ≤ 20 := by omega
    clear hbad
    obtain ⟨n, hn⟩ : ∃ n : Nat, q + 1 = n := ⟨_, rfl⟩
    have hni : (q : Int) + 1 = (n : Int) := by omega
    have hn1 : 1 ≤ n ∧ n ≤ 60 := by omega
    clear hn
    obtain ⟨ls, hls⟩ : ∃ ls : List (List Int), T.map (fun s => (ofs s).take n) = ls := ⟨_, rfl⟩
    have HLS := Lib.hid (show ls.length = m by rw [← hls, List.length_map]; exact HL.out.len)
    have HG := Lib.hid (show ∀ j, j < m → ls.getD j [] = (ofs (T.getD j default)).take n from fun j hj => by
      rw [← hls]
      simp only [List.getD_eq_getElem?_getD, List.getElem?_map]
      rw [List.getElem?_eq_getElem (by have := HL.out.len; omega)]
      rfl)
    have HAR := Lib.hid (show ∀ t ∈ ls, Are t from fun t ht => by
      rw [← hls] at ht
      obtain ⟨s, _, rfl⟩ := List.mem_map.1 ht
      exact (ofs_are s).take n)
    have HTL := Lib.hid (show ∀ t ∈ ls, t.length ≤ n from fun t ht => by
      rw [← hls] at ht
      obtain ⟨s, _, rfl⟩ := List.mem_map.1 ht
      simp; omega)
    clear hls
    have BS := Lib.hid (show ∀ j, j ≤ m → (bS (ls.take j)).length ≤ 1220 from fun j hj => by
      have h1 := bS_le n (ls.take j) (fun k hk => HTL.out k (List.mem_of_mem_take hk))
      have h4 : (ls.take j).length ≤ 20 := by rw [List.length_take, HLS.out]; omega
      have h5 : (n + 1) * (ls.take j).length ≤ 61 * 20 := Nat.mul_le_mul (by omega) h4
      omega)
    go_wp2
    go_loopw [6, 7] (fun vs i wr => ∃ (j : Nat) (ss : List Int), j ≤ m ∧ i = .int .i64 j ∧ vs = .string (strOfNums ss) ∧ Hid (ss = bS (ls.take j) ∧ ∀ t ∈ ls.take j, Fine n t) ∧ Hid (Below w.heap.size w wr)) (fun _ i _ => m - (intOf i).toNat)
    case atStart => exact ⟨0, [], Nat.zero_le _, rfl, rfl, by unfold Hid; exact ⟨rfl, fun t h => by simp at h⟩, Below.refl _ _⟩
    case round =>
      obtain ⟨j, ss, hj, rfl, rfl, EE, BW⟩ := hrel
      by_cases hlt : j < m
      · obtain ⟨g, o, rfl, hg, hcell⟩ := HL.out.cells (by omega)
        have c0 := (BW.out.cell (p := ⟨g, o + j, none⟩) hg).trans (hcell j hlt)
        have hsm := HL.out.size j hlt
        have hjk : j < ls.length := by rw [HLS.out]; exact hlt
        have e1 := bS_snoc ls j hjk
        rw [HG.out j hlt, ← EE.out.1] at e1
        have EN := Lib.hid (show ∀ t ∈ ls.take (j + 1), t ∈ ls.take j ∨ t = (ofs (T.getD j default)).take n from fun t ht => by
          rw [List.take_add_one, List.getElem?_eq_getElem hjk] at ht
          rcases List.mem_append.1 ht with h | h
          · exact .inl h
          · right
            have := HG.out j hlt
            rw [List.getD_eq_getElem?_getD, List.getElem?_eq_getElem hjk] at this
            simp at h this
            rw [h, this, List.getD_eq_getElem?_getD])
        have hbs := BS.out (j + 1) (by omega)
        rw [e1] at hbs
        have E1 := Lib.hid e1; have BN := Lib.hid hbs
        clear e1 hbs hjk hcell hg
        generalize T.getD j default = S at *
        have hsm : S.size ≤ 9223372036854775807 := by unfold maxLen at hsm; omega
        obtain ⟨sn, hsn⟩ : ∃ sn, S.size = sn := ⟨_, rfl⟩
        obtain ⟨k, hk⟩ : ∃ k, min sn n = k := ⟨_, rfl⟩
        obtain ⟨t, ht⟩ : ∃ t, S.extract 0 k = t := ⟨_, rfl⟩
        have HT := Lib.hid (show ofs t = (ofs S).take n by
          rw [← ht, ofs_first, ← hk]
          rcases Nat.le_total sn n with h | h
          · rw [Nat.min_eq_left h, List.take_of_length_le (by rw [ofs_len]; omega), List.take_of_length_le (by rw [ofs_len]; omega)]
          · rw [Nat.min_eq_right h])
        have HTS := Lib.hid (show t.size = k by rw [← ofs_len, HT.out, List.length_take, ofs_len]; omega)
        have j0 : (0 : Int) ≤ (j : Int) := by omega
        have j1 : (j : Int) < (m : Int) := by omega
        have hif : (if n < sn then (n : Int) else (sn : Int)) = (k : Int) := by split <;> omega
        have hk0 : (0 : Int) ≤ (k : Int) := by omega
        have hk1 : (k : Int) ≤ (sn : Int) := by omega
        go_wp2
        go_quiet (fail)
        generalize hW2 : wr.drewN nq = W2 at *
        have BV := Lib.hid (show Below w.heap.size w W2 by rw [← hW2]; exact below_drewN BW.out _)
        clear hW2 c0 BW hif ht hsn hk0 hk1 hsm
        have hkn : k ≤ n := by omega
        have TA := Lib.hid (fun (p : Nat) (hp : p < t.size) => ofs_at t p hp)
        have hts : t.size = k := HTS.out
        clear hk
        go_wp2
        go_loopw [9] (fun i2 wr2 => ∃ p : Nat, p ≤ k ∧ i2 = .int .i64 p ∧ Hid (∀ p', p' < p → ¬ (ofs t).getD p' 0 = 10) ∧ W2 = wr2) (fun i2 _ => k - (intOf i2).toNat)
        case atStart => exact ⟨0, Nat.zero_le _, rfl, by unfold Hid; exact fun p' h => absurd h (by omega), rfl⟩
        case round =>
          obtain ⟨p, hp, rfl, NT, rfl⟩ := hrel
          by_cases hpk : p < k
          · have hpt : p < t.size := by omega
            have hz := TA.out p hpt
            have p0 : (0 : Int) ≤ (p : Int) := by omega
            have p1 : (p : Int) < (t.size : Int) := by omega
            by_cases h10 : (ofs t).getD p 0 = 10
            · rw [h10] at hz
              go_wp2_with fail
              refine (law_runs _).mono ?_
              rintro e w3 ⟨rfl, k3⟩
              go_wp2
              go_ret
              exact ⟨rfl, BV.out.trans (k3.mono BV.out.size)⟩
            · have NT2 := Lib.hid (show ∀ p', p' < p + 1 → ¬ (ofs t).getD p' 0 = 10 from fun p' h => by
                by_cases he : p' = p
                · rw [he]; exact h10
                · exact NT.out p' (by omega))
              have hz1 : ¬ (((t[p]'hpt).toNat : Int) = 10) := by rw [hz]; exact h10
              have hz2 : (((t[p]'hpt).toNat : Int) == 10) = false := by simpa using hz1
              clear hz
              go_wp2
              go_roundw
              case rel => exact ⟨p + 1, by omega, by go_num, NT2.out, by simp⟩
              case measure => simp [intOf]; omega
          · have hpk2 : p = k := by omega
            have hd3 : decide ((p : Int) < (k : Int)) = false := by simp; omega
            have NA := Lib.hid (show ∀ z ∈ ofs t, z ≠ 10 from fun z hz => by
              obtain ⟨i, hi, rfl⟩ := List.getElem_of_mem hz
              have h1 := NT.out i (by rw [hpk2, ← hts, ← ofs_len]; exact hi)
              rw [List.getD_eq_getElem?_getD, List.getElem?_eq_getElem hi] at h1
              exact h1)
            clear NT hpk2
            obtain ⟨s2, hs2⟩ : ∃ s2, ss ++ ofs t = s2 := ⟨_, rfl⟩
            obtain ⟨s3, hs3⟩ : ∃ s3, s2 ++ [10] = s3 := ⟨_, rfl⟩
            have E3 := Lib.hid (show s3 = bS (ls.take (j + 1)) by rw [E1.out, ← HT.out, hs2, hs3])
            have hs3l : s3.length ≤ 1000000 := by have := BN.out; rw [← HT.out, hs2, hs3] at this; omega
            have hs2l : s2.length ≤ 1000000 := by rw [← hs3] at hs3l; simp at hs3l; omega
            have sa1 : ∀ w' : World, (Op.stringOp .add (strOfNums ss) t).run Try.prog w' = .ok (.string (strOfNums s2)) w' := str_add_lit _ _ _ _ (str_ofs t) hs2 hs2l
            have sa2 : ∀ w' : World, (Op.stringOp .add (strOfNums s2) ⟨#[10]⟩).run Try.prog w' = .ok (.string (strOfNums s3)) w' := str_add_lit _ [10] _ _ rfl hs3 hs3l
            have FN := Lib.hid (show (0 < k → ¬ (ofs t).getD (k - 1) 0 = 32) → ∀ x ∈ ls.take (j + 1), Fine n x from fun hl x hx => by
              rcases EN.out x hx with h | h
              · exact EE.out.2 x h
              · rw [h, ← HT.out]
                exact ⟨by rw [ofs_len, hts]; exact hkn, NA.out, fun h0 => by rw [ofs_len, hts] at h0 ⊢; exact hl h0⟩)
            clear hs2 hs3 hs2l hs3l
            rcases Nat.eq_zero_or_pos k with hk0 | hk0
            · have ht0 : t = ⟨#[]⟩ := by
                apply ByteArray.ext
                apply Array.eq_empty_of_size_eq_zero
                rw [← hk0, ← hts]; rfl
              have FN1 := Lib.hid (FN.out (fun h => absurd h (by omega)))
              subst ht0
              clear FN
              go_wp2
              go_roundw
              case rel => exact ⟨j + 1, s3, by omega, by go_num, rfl, ⟨E3.out, FN1.out⟩, BV.out⟩
              case measure => simp [intOf]; omega
            · obtain ⟨r, hr⟩ : ∃ r, k = r + 1 := ⟨k - 1, by omega⟩
              have hri : (k : Int) - 1 = (r : Int) := by omega
              have hrk : r < t.size := by omega
              have hz := TA.out r hrk
              have r0 : (0 : Int) ≤ (r : Int) := by omega
              have r1 : (r : Int) < (t.size : Int) := by omega
              have hne0 : ¬ t = ⟨#[]⟩ := fun h => by rw [h] at hts; have : k = 0 := hts.symm; omega
              have hne2 : t.toList.isEmpty = false := by
                rw [Lib.toList_data, List.isEmpty_eq_false_iff]
                intro h
                have h2 := congrArg List.length h
                rw [Array.length_toList] at h2
                have h3 : t.size = 0 := h2
                omega
              by_cases h32 : (ofs t).getD r 0 = 32
              · rw [h32] at hz
                clear hr FN
                go_wp2_with fail
                refine (law_runs _).mono ?_
                rintro e w3 ⟨rfl, k3⟩
                go_wp2
                go_ret
                exact ⟨rfl, BV.out.trans (k3.mono BV.out.size)⟩
              · have FN1 := Lib.hid (FN.out (fun _ => by rw [hr]; simpa using h32))
                have hz1 : ¬ (((t[r]'hrk).toNat : Int) = 32) := by rw [hz]; exact h32
                have hz2 : (((t[r]'hrk).toNat : Int) == 32) = false := by simpa using hz1
                clear hz hr FN
                go_wp2
                go_roundw
                case rel => exact ⟨j + 1, s3, by omega, by go_num, rfl, ⟨E3.out, FN1.out⟩, BV.out⟩
                case measure => simp [intOf]; omega
      · have hjm : j = m := by omega
        have HTK := Lib.hid (show ls.take j = ls by rw [hjm, ← HLS.out]; exact List.take_length)
        have hbs := BS.out j hj
        rw [← EE.out.1] at hbs
        have ee := EE.out
        rw [HTK.out] at ee
        have hp := b_packs n ls ee.2
        have hu := b_unpacks n hn1.1 ls ee.2
        rw [← ee.1] at hp hu
        obtain ⟨rs, hrs⟩ : ∃ rs, bR n ls = rs := ⟨_, rfl⟩
        obtain ⟨nm, hnm⟩ : ∃ nm, n * m = nm := ⟨_, rfl⟩
        have hrl : rs.length = nm := by rw [← hrs, bR_len, HLS.out, hnm]
        rw [hrs] at hp hu
        have hnm2 : nm ≤ 1200 := by rw [← hnm]; exact Nat.le_trans (Nat.mul_le_mul hn1.2 hm20) (by decide)
        have HP := Lib.hid (show pAll n ss = rs by rw [pAll, hp.1, hp.2.1]; simp [pEnd])
        have HC := Lib.hid (show cAll n ss = 0 by rw [cAll, hp.2.2, hp.2.1, over_nil])
        have HU := Lib.hid (show uAll n rs = ss by rw [uAll, hu.1, hu.2]; simp [uEnd])
        have HR := Lib.hid (show Are ss by rw [ee.1]; exact bS_are HAR.out)
        have HR2 := Lib.hid (show Are rs by rw [← hrs]; exact bR_are HAR.out)
        have hsz : (strOfNums rs).size = nm := by rw [str_size, hrl]
        have hmi : (n : Int) * (m : Int) = (nm : Int) := by rw [← hnm]; simp
        have hwr : IntKind.i64.wrap ((n : Int) * (m : Int)) = (nm : Int) := by rw [hmi]; exact IntWalk.i64_in _ (by omega)
        obtain ⟨sl, hsl⟩ : ∃ sl, ss.length = sl := ⟨_, rfl⟩
        obtain ⟨A5, c5, w5, r5, ok5, k5⟩ := str_bytes ss HR.out sl hsl (by omega) wr
        have O5 := Lib.hid ok5; have K5 := Lib.hid k5
        have HSL := Lib.hid hsl; have HRL := Lib.hid hrl
        have hsl2 : sl ≤ 1220 := by omega
        have hmul := Lib.hid (show n * ss.length ≤ 900000 from Nat.le_trans (Nat.mul_le_mul hn1.2 (show ss.length ≤ 1220 by omega)) (by decide))
        clear hbs ee hp hu ok5 k5 hsl hrl hnm hrs EE
        have hkn := Lib.hid (show kOf (n : Int) = n by unfold kOf; rw [if_neg (by omega), if_neg (by omega)]; rfl)
        have L5 := Lib.hid (lists_one w5 ⟨A5, sl, c5, ss⟩ 26 _ rfl O5.out)
        have K6 := Lib.hid (show Below w5.heap.size w5 (w5.alloc (.cells #[.slice A5 sl c5] 26)) from (Below.refl _ _).alloc (Nat.le_refl _) _)
        go_wp2_with fail
        refine (pack_any (n : Int) n _ 1 1 [⟨A5, sl, c5, ss⟩] ss rs 0 _ (by omega) (by omega) hkn.out L5.out (by omega) (by simp [cat]) hmul.out (by have := HSL.out; omega) HP.out HC.out).mono ?_
        rintro e w6 ⟨rfl, k6⟩
        have k7 := K6.out.trans (k6.mono K6.out.size)
        have k8 := K5.out.trans (k7.mono K5.out.size)
        have B6 := Lib.hid (BW.out.trans (k8.mono BW.out.size))
        clear k6 k7 k8 L5 K6 O5 K5 r5
        obtain ⟨A7, c7, w7, r7, ok7, k7⟩ := str_bytes rs HR2.out nm HRL.out (by omega) w6
        have O7 := Lib.hid ok7; have K7 := Lib.hid k7
        clear ok7 k7
        have L7 := Lib.hid (lists_one w7 ⟨A7, nm, c7, rs⟩ 26 _ rfl O7.out)
        have K8 := Lib.hid (show Below w7.heap.size w7 (w7.alloc (.cells #[.slice A7 nm c7] 26)) from (Below.refl _ _).alloc (Nat.le_refl _) _)
        go_wp2_with fail
        refine (unpack_any (n : Int) n _ 1 1 [⟨A7, nm, c7, rs⟩] rs ss _ (by omega) (by omega) hkn.out L7.out (by omega) (by simp [cat]) (by have := HRL.out; omega) HU.out).mono ?_
        rintro e w9 ⟨rfl, k9⟩
        have k10 := K8.out.trans (k9.mono K8.out.size)
        have k11 := K7.out.trans (k10.mono K7.out.size)
        have B9 := Lib.hid (B6.out.trans (k11.mono B6.out.size))
        clear k9 k10 k11 L7 K8 O7 K7 r7
        go_wp2_with fail
        refine (law_runs _).mono ?_
        rintro e w12 ⟨rfl, k12⟩
        go_wp2
        go_ret
        exact ⟨rfl, B9.out.trans (k12.mono B9.out.size)⟩

end Go.Proofs.Ytemehobohgcpdaa
