/- The law ConvCodes, walked. -/
import Derived.Test.YtghihmmapignmaaLawO
import Derived.Test.YtghihmmapignmaaPlainB
import Derived.WalkKit
import Derived.WalkSpells
import Derived.WalkLawsBesides
import Derived.Lib.Hide
import Derived.BigQuiet
import Derived.Deep.Strs
import Derived.Deep.RegionHeld3
namespace Go.Proofs.Ytghihmmapignmaa
open Go.RowKit

/-- A slice of texts. -/
structure Strs (w : World) (A : Option Addr) (n : Nat) (T : List ByteArray) : Prop where
  len : T.length = n
  cells : 0 < n → ∃ b o, A = some ⟨b, o, none⟩ ∧ b < w.heap.size ∧ ∀ k, k < n → w.cell? ⟨b, o + k, none⟩ = some (.string (T.getD k default))
  size : ∀ k, k < n → (T.getD k default).size ≤ maxLen
def IsStrs (w : World) (A : Option Addr) (n : Nat) (T : List ByteArray) : Prop := n ≤ maxLen ∧ Strs w A n T
theorem isStrs_nil (w : World) : IsStrs w none 0 [] := ⟨Nat.zero_le _, ⟨rfl, (fun h => absurd h (by omega)), fun k h => absurd h (by omega)⟩⟩
theorem isStrs_read {H : Type} {enc : TypeId × Value → H} {w : World} {base : Nat} {fuel : Nat} {cs : List Value} {x : DataW H × List MemPlace} (h : DataW.trod enc Try.prog w base (fun _ => true) true fuel 53 cs = some x) :
    cs = [.slice none 0 0] ∨ ∃ a len cap, cs = [.slice (some a) len cap] ∧ ∃ L, IsStrs w (some a) len L := by
  rcases Go.Deep.open_strs Try.underlying53 Try.underlying9 (by kernel_rfl) h with ⟨h0, _⟩ | ⟨a, len, cap, m, Sx, rfl, _, hl, hm, hmm, _, hx⟩
  · exact .inl h0
  simp at hmm
  subst hmm
  refine .inr ⟨a, len, m, rfl, (List.range len).map Sx, by omega, ?_⟩
  have hg : ∀ k, k < len → ((List.range len).map Sx).getD k default = Sx k := by
    intro k hk
    rw [List.getD_eq_getElem?_getD, List.getElem?_map, List.getElem?_range hk]
    rfl
  refine ⟨by simp, fun hp => ?_, fun k hk => by rw [hg k hk]; exact (hx k (by omega)).2⟩
  obtain ⟨b, o, s⟩ := a
  have h0 := (hx 0 (by omega)).1
  have hs : s = none := by simpa [Addr.add] using World.cell?_spot h0
  subst hs
  refine ⟨b, o, rfl, World.block_lt_of_cell? w ⟨b, o, none⟩ (by simpa [Addr.add] using h0), fun k hk => ?_⟩
  rw [hg k hk]
  have hk' := (hx k (by omega)).1
  by_cases h0 : k = 0
  · subst h0; simpa [Addr.add] using hk'
  · simpa [Addr.add, h0] using hk'


def strLen : Value → Nat | .string s => s.size | _ => 0
/-- Without the bytes 32 at its end. -/
def trim (t : List Int) : List Int := t.take (tl t t.length)
theorem tl_last (l : List Int) : ∀ m p, tl l m = p + 1 → ¬ l.getD p 0 = 32
  | 0, p, h => by simp [tl] at h
  | m + 1, p, h => by
    simp only [tl] at h
    split at h
    · exact tl_last l m p h
    · rename_i hz
      obtain rfl : m = p := by omega
      exact hz
theorem trim_len (t : List Int) : (trim t).length = tl t t.length := by rw [trim, List.length_take]; have := tl_le t t.length; omega
theorem trim_fine {n : Nat} {t : List Int} (h1 : t.length ≤ n) (h2 : ∀ z ∈ t, z ≠ 10) : Fine n (trim t) := by
  have hl := trim_len t
  have hle := tl_le t t.length
  refine ⟨by omega, fun z hz => h2 z (List.mem_of_mem_take hz), fun hp => ?_⟩
  rw [hl] at hp ⊢
  obtain ⟨p, hpe⟩ : ∃ p, tl t t.length = p + 1 := ⟨tl t t.length - 1, by omega⟩
  have := tl_last t t.length p hpe
  rw [hpe, trim, hpe]
  simpa [List.getD_eq_getElem?_getD] using this

/-- The conversions that the law names. -/
def cA (n : Nat) : Cf := ⟨false, false, false, false, false, true, false, false, n⟩
def cB (n : Nat) : Cf := ⟨false, true, false, false, false, false, false, false, n⟩
def cI (n : Nat) : Cf := ⟨false, false, false, false, false, false, false, true, n⟩
theorem c_may (n : Nat) (h1 : 1 ≤ n) (h2 : n ≤ 4096) : (oW n).may = true ∧ (cA n).may = true ∧ (cB n).may = true ∧ (cI n).may = true := by
  have e : (decide ((1 : Int) ≤ (n : Int)) && decide ((n : Int) ≤ 4096)) = true := by simp; omega
  exact ⟨e, e, e, e⟩
theorem c_e {n : Nat} (h1 : 1 ≤ n) (h2 : n ≤ 4096) {z : List Int} (h : Are z) : (oW n).all z = mapL tbE (pAll n z) := by
  rw [all_blocks rfl, show (oW n).K = n from K_of n h1 h2]
  show mapL (oW n).t2 (pAll n (mapL ids z)) = _
  rw [map_ids h, map_t2 _ (are_pAll n h)]
  rfl
theorem c_i {n : Nat} (h1 : 1 ≤ n) (h2 : n ≤ 4096) {z : List Int} (h : Are z) : (cI n).all z = mapL tbI (pAll n z) := by
  rw [all_blocks rfl, show (cI n).K = n from K_of n h1 h2]
  show mapL (cI n).t2 (pAll n (mapL ids z)) = _
  rw [map_ids h, map_t2 _ (are_pAll n h)]
  rfl
theorem c_b {n : Nat} (h1 : 1 ≤ n) (h2 : n ≤ 4096) {z : List Int} (h : Are z) : (cB n).all z = pAll n z := by
  rw [all_blocks rfl, show (cB n).K = n from K_of n h1 h2]
  show mapL ids (pAll n (mapL ids z)) = _
  rw [map_ids h, map_ids (are_pAll n h)]
theorem back_e {z : List Int} (h : Are z) : mapL tbA (mapL tbE z) = z := by
  have e := map_then [tbE, tbA] ids z (fun y hy => by
    rcases List.mem_cons.1 hy with rfl | hy
    · exact good_tb false
    · rw [List.mem_singleton.1 hy]; exact good_asc) good_ids h
  rw [then_EA, map_ids h] at e
  exact e.symm
theorem c_a {n : Nat} (h1 : 1 ≤ n) (h2 : n ≤ 4096) {z : List Int} (h : Are z) : (cA n).all (mapL tbE z) = uAll n z := by
  rw [all_unblocks rfl rfl, show (cA n).K = n from K_of n h1 h2]
  have hE : Are (mapL tbE z) := mapL_are (good_tb false) h
  show mapL ids (uAll n (mapL (cA n).t1 (mapL tbE z))) = _
  rw [map_t1 _ hE]
  show mapL ids (uAll n (mapL tbA (mapL tbE z))) = _
  rw [back_e h, map_ids (are_uAll n h)]

/-- What is held at the end. -/
def CS (w : World) (A1 : Option Addr) (m1 c1 : Nat) (e1 : List Int) (A2 : Option Addr) (m2 c2 : Nat) (ss : List Int) (A3 : Option Addr) (m3 c3 : Nat) (rs : List Int) (w' : World) : Prop := Bytes w' A1 m1 c1 e1 ∧ Bytes w' A2 m2 c2 ss ∧ Bytes w' A3 m3 c3 rs ∧ Below w.heap.size w w'
theorem CS.on {w : World} {A1 A2 A3 : Option Addr} {m1 c1 m2 c2 m3 c3 : Nat} {e1 ss rs : List Int} {w1 w2 : World} (h : CS w A1 m1 c1 e1 A2 m2 c2 ss A3 m3 c3 rs w1) (k : Below w1.heap.size w1 w2) : CS w A1 m1 c1 e1 A2 m2 c2 ss A3 m3 c3 rs w2 := ⟨h.1.on k, h.2.1.on k, h.2.2.1.on k, h.2.2.2.trans (k.mono h.2.2.2.size)⟩

set_option maxRecDepth 100000 in
set_option maxHeartbeats 16000000 in
theorem codes_walk (cb : Int) (A : Option Addr) (m ac : Nat) (T : List ByteArray) (w : World) (hcb : (Lit.int .u8 cb).wf = true) (hL : IsStrs w A m T) :
    Calls Try.prog 8 #[.int .u8 cb, .slice A m ac] w fun e w' => e = .returned (.bool true) ∧ Below w.heap.size w w' := by
  have hcb2 := byte_of hcb
  have HL := Lib.hid hL.2
  have hmm : m ≤ 9223372036854775807 := by have := hL.1; unfold maxLen at this; omega
  have CR := Lib.hid law_runs
  clear hcb hL
  obtain ⟨q, hq, hq2⟩ : ∃ q : Nat, cb.tmod 40 = (q : Int) ∧ q < 40 := by
    refine ⟨(cb.tmod 40).toNat, ?_, ?_⟩ <;> rw [Int.tmod_eq_emod_of_nonneg hcb2.1] <;> omega
  go_enter Try.func8, Try.ntmps8
  by_cases hbad : 12 < m
  · have hd : decide ((12 : Int) < (m : Int)) = true := by simp; omega
    go_wp2_with fail
    refine (CR.out _).mono ?_
    rintro e w2 ⟨rfl, k2⟩
    go_wp2
    go_ret
    exact ⟨rfl, k2⟩
  · have hd : decide ((12 : Int) < (m : Int)) = false := by simp; omega
    have hm20 : m ≤ 12 := by omega
    clear hbad
    obtain ⟨n, hn⟩ : ∃ n : Nat, q + 1 = n := ⟨_, rfl⟩
    have hni : (q : Int) + 1 = (n : Int) := by omega
    have hn1 : 1 ≤ n ∧ n ≤ 40 := by omega
    clear hn
    obtain ⟨ls, hls⟩ : ∃ ls : List (List Int), T.map (fun s => trim ((ofs s).take n)) = ls := ⟨_, rfl⟩
    have HLS := Lib.hid (show ls.length = m by rw [← hls, List.length_map]; exact HL.out.len)
    have HG := Lib.hid (show ∀ j, j < m → ls.getD j [] = trim ((ofs (T.getD j default)).take n) from fun j hj => by
      rw [← hls]
      simp only [List.getD_eq_getElem?_getD, List.getElem?_map]
      rw [List.getElem?_eq_getElem (by have := HL.out.len; omega)]
      rfl)
    have HAR := Lib.hid (show ∀ t ∈ ls, Are t from fun t ht => by
      rw [← hls] at ht
      obtain ⟨s, _, rfl⟩ := List.mem_map.1 ht
      exact ((ofs_are s).take n).take _)
    have HTL := Lib.hid (show ∀ t ∈ ls, t.length ≤ n from fun t ht => by
      rw [← hls] at ht
      obtain ⟨s, _, rfl⟩ := List.mem_map.1 ht
      rw [trim, List.length_take, List.length_take]; omega)
    clear hls
    have BS := Lib.hid (show ∀ j, j ≤ m → (bS (ls.take j)).length ≤ 492 from fun j hj => by
      have h1 := bS_le n (ls.take j) (fun k hk => HTL.out k (List.mem_of_mem_take hk))
      have h4 : (ls.take j).length ≤ 12 := by rw [List.length_take, HLS.out]; omega
      have h5 : (n + 1) * (ls.take j).length ≤ 41 * 12 := Nat.mul_le_mul (by omega) h4
      omega)
    go_wp2
    go_loopw [6, 7] (fun vs i wr => ∃ (j : Nat) (ss : List Int), j ≤ m ∧ i = .int .i64 j ∧ vs = .string (strOfNums ss) ∧ Hid (ss = bS (ls.take j) ∧ ∀ t ∈ ls.take j, Fine n t) ∧ Hid (Below w.heap.size w wr)) (fun _ i _ => m - (intOf i).toNat)
    case atStart => exact ⟨0, [], Nat.zero_le _, rfl, rfl, by unfold Hid; exact ⟨rfl, fun t h => by simp at h⟩, Below.refl _ _⟩
    case round =>
      obtain ⟨j, ss, hj, rfl, rfl, EE, BW⟩ := hrel
      by_cases hlt : j < m
      · obtain ⟨g, o, rfl, hg, hcell⟩ := HL.out.cells (by omega)
        have c0 := (BW.out.cell (p := ⟨g, o + j, none⟩) hg).trans (hcell j hlt)
        have hsm := HL.out.size j hlt
        have hjk : j < ls.length := by rw [HLS.out]; exact hlt
        have e1 := bS_snoc ls j hjk
        rw [HG.out j hlt, ← EE.out.1] at e1
        have EN := Lib.hid (show ∀ t ∈ ls.take (j + 1), t ∈ ls.take j ∨ t = trim ((ofs (T.getD j default)).take n) from fun t ht => by
          rw [List.take_add_one, List.getElem?_eq_getElem hjk] at ht
          rcases List.mem_append.1 ht with h | h
          · exact .inl h
          · right
            have := HG.out j hlt
            rw [List.getD_eq_getElem?_getD, List.getElem?_eq_getElem hjk] at this
            simp at h this
            rw [h, this, List.getD_eq_getElem?_getD])
        have hbs := BS.out (j + 1) (by omega)
        rw [e1] at hbs
        have E1 := Lib.hid e1; have BN := Lib.hid hbs
        clear e1 hbs hjk hcell hg
        generalize T.getD j default = S at *
        have hsm : S.size ≤ 9223372036854775807 := by unfold maxLen at hsm; omega
        obtain ⟨sn, hsn⟩ : ∃ sn, S.size = sn := ⟨_, rfl⟩
        obtain ⟨k, hk⟩ : ∃ k, min sn n = k := ⟨_, rfl⟩
        obtain ⟨t, ht⟩ : ∃ t, S.extract 0 k = t := ⟨_, rfl⟩
        have HT := Lib.hid (show ofs t = (ofs S).take n by
          rw [← ht, ofs_first, ← hk]
          rcases Nat.le_total sn n with h | h
          · rw [Nat.min_eq_left h, List.take_of_length_le (by rw [ofs_len]; omega), List.take_of_length_le (by rw [ofs_len]; omega)]
          · rw [Nat.min_eq_right h])
        have HTS := Lib.hid (show t.size = k by rw [← ofs_len, HT.out, List.length_take, ofs_len]; omega)
        have j0 : (0 : Int) ≤ (j : Int) := by omega
        have j1 : (j : Int) < (m : Int) := by omega
        have hif : min (sn : Int) (n : Int) = (k : Int) := by omega
        have hk0 : (0 : Int) ≤ (k : Int) := by omega
        have hk1 : (k : Int) ≤ (sn : Int) := by omega
        go_wp2
        go_quiet (fail)
        generalize hW2 : wr.drewN nq = W2 at *
        have BV := Lib.hid (show Below w.heap.size w W2 by rw [← hW2]; exact BW.out.trans ⟨rfl, rfl, rfl, Nat.le_refl _, fun _ _ => rfl⟩)
        clear hW2 c0 BW hif ht hsn hk0 hk1 hsm
        have hkn : k ≤ n := by omega
        have TA := Lib.hid (fun (p : Nat) (hp : p < t.size) => ofs_at t p hp)
        have hts : t.size = k := HTS.out
        clear hk
        rw [← HT.out] at E1 EN BN
        go_wp2
        go_loopw [9] (fun i2 wr2 => ∃ p : Nat, p ≤ k ∧ i2 = .int .i64 p ∧ Hid (∀ p', p' < p → ¬ (ofs t).getD p' 0 = 10) ∧ W2 = wr2) (fun i2 _ => k - (intOf i2).toNat)
        case atStart => exact ⟨0, Nat.zero_le _, rfl, by unfold Hid; exact fun p' h => absurd h (by omega), rfl⟩
        case round =>
          obtain ⟨p, hp, rfl, NT, rfl⟩ := hrel
          by_cases hpk : p < k
          · have hpt : p < t.size := by omega
            have hz := TA.out p hpt
            have p0 : (0 : Int) ≤ (p : Int) := by omega
            have p1 : (p : Int) < (t.size : Int) := by omega
            by_cases h10 : (ofs t).getD p 0 = 10
            · rw [h10] at hz
              go_wp2_with fail
              refine (CR.out _).mono ?_
              rintro e w3 ⟨rfl, k3⟩
              go_wp2
              go_ret
              exact ⟨rfl, BV.out.trans (k3.mono BV.out.size)⟩
            · have NT2 := Lib.hid (show ∀ p', p' < p + 1 → ¬ (ofs t).getD p' 0 = 10 from fun p' h => by
                by_cases he : p' = p
                · rw [he]; exact h10
                · exact NT.out p' (by omega))
              have hz1 : ¬ (((t[p]'hpt).toNat : Int) = 10) := by rw [hz]; exact h10
              have hz2 : (((t[p]'hpt).toNat : Int) == 10) = false := by simpa using hz1
              clear hz
              go_wp2
              go_roundw
              case rel => exact ⟨p + 1, by omega, by go_num, NT2.out, by simp⟩
              case measure => simp [intOf]; omega
          · have hpk2 : p = k := by omega
            have hd3 : decide ((p : Int) < (k : Int)) = false := by simp; omega
            have NA := Lib.hid (show ∀ z ∈ ofs t, z ≠ 10 from fun z hz => by
              obtain ⟨i, hi, rfl⟩ := List.getElem_of_mem hz
              have h1 := NT.out i (by rw [hpk2, ← hts, ← ofs_len]; exact hi)
              rw [List.getD_eq_getElem?_getD, List.getElem?_eq_getElem hi] at h1
              exact h1)
            clear NT hpk2
            obtain ⟨l0, hl0⟩ : ∃ l0, ofs t = l0 := ⟨_, rfl⟩
            have HL0 := Lib.hid (show l0.length = k by rw [← hl0, ofs_len, hts])
            have HF := Lib.hid (show ∀ x ∈ ls.take (j + 1), Fine n x from fun x hx => by
              rcases EN.out x hx with h | h
              · exact EE.out.2 x h
              · rw [h]; exact trim_fine (by rw [ofs_len, hts]; exact hkn) NA.out)
            have OT := Lib.hid hl0
            have ET1 := Lib.hid E1.out; have ET2 := Lib.hid BN.out
            rw [hl0] at ET1 ET2
            clear hl0 E1 EN BN NA TA
            go_wp2
            go_loopw [8] (fun vt wr2 => ∃ (p : Nat) (u : ByteArray), p ≤ k ∧ vt = .string u ∧ u.size = p ∧ Hid (ofs u = l0.take p) ∧ Hid (tl l0 p = tl l0 k) ∧ W2 = wr2) (fun vt _ => strLen vt)
            case atStart => exact ⟨k, t, Nat.le_refl _, rfl, hts, by unfold Hid; rw [OT.out, ← HL0.out, List.take_length], by unfold Hid; rfl, rfl⟩
            case round =>
              obtain ⟨p, u, hp, rfl, hus, OU, TU, rfl⟩ := hrel
              have UA := Lib.hid (fun (r : Nat) (hr : r < u.size) => ofs_at u r hr)
              rcases Nat.eq_zero_or_pos p with hp0 | hp0
              · have hu0 : u = ⟨#[]⟩ := by
                  apply ByteArray.ext
                  apply Array.eq_empty_of_size_eq_zero
                  rw [← hp0, ← hus]; rfl
                have hfin : trim l0 = ofs u := by rw [trim, HL0.out, ← TU.out, show tl l0 p = p by rw [hp0]; rfl, OU.out]
                obtain ⟨s2, hs2⟩ : ∃ s2, ss ++ ofs u = s2 := ⟨_, rfl⟩
                obtain ⟨s3, hs3⟩ : ∃ s3, s2 ++ [10] = s3 := ⟨_, rfl⟩
                have E3 := Lib.hid (show s3 = bS (ls.take (j + 1)) by rw [ET1.out, hfin, hs2, hs3])
                have hs3l : s3.length ≤ 1000000 := by have := ET2.out; rw [hfin, hs2, hs3] at this; omega
                have hs2l : s2.length ≤ 1000000 := by rw [← hs3] at hs3l; simp at hs3l; omega
                have sa1 : ∀ w' : World, (Op.stringOp .add (strOfNums ss) u).run Try.prog w' = .ok (.string (strOfNums s2)) w' := str_add_lit _ _ _ _ (str_ofs u) hs2 hs2l
                have sa2 : ∀ w' : World, (Op.stringOp .add (strOfNums s2) ⟨#[10]⟩).run Try.prog w' = .ok (.string (strOfNums s3)) w' := str_add_lit _ [10] _ _ rfl hs3 hs3l
                clear hs2 hs3 hs2l hs3l hfin
                subst hu0
                clear UA OU TU
                go_wp2
                go_roundw
                case rel => exact ⟨j + 1, s3, by omega, by go_num, rfl, ⟨E3.out, HF.out⟩, BV.out⟩
                case measure => simp [intOf]; omega
              · obtain ⟨r, hr⟩ : ∃ r, p = r + 1 := ⟨p - 1, by omega⟩
                have hrk : r < u.size := by omega
                have hz := UA.out r hrk
                have hlr : (ofs u).getD r 0 = l0.getD r 0 := by
                  rw [OU.out, List.getD_eq_getElem?_getD, List.getElem?_take, if_pos (by omega), ← List.getD_eq_getElem?_getD]
                rw [hlr] at hz
                have hri : (p : Int) - 1 = (r : Int) := by omega
                have r0 : (0 : Int) ≤ (r : Int) := by omega
                have r1 : (r : Int) < (u.size : Int) := by omega
                have r2 : (r : Int) ≤ (u.size : Int) := by omega
                have hne0 : ¬ u = ⟨#[]⟩ := fun h => by rw [h] at hus; have : p = 0 := hus.symm; omega
                have hne2 : u.toList.isEmpty = false := by
                  rw [Lib.toList_data, List.isEmpty_eq_false_iff]
                  intro h
                  have h2 := congrArg List.length h
                  rw [Array.length_toList] at h2
                  have h3 : u.size = 0 := h2
                  omega
                by_cases h32 : l0.getD r 0 = 32
                · rw [h32] at hz
                  obtain ⟨u2, hu2⟩ : ∃ u2, u.extract 0 r = u2 := ⟨_, rfl⟩
                  have OU2 := Lib.hid (show ofs u2 = l0.take r by rw [← hu2, ofs_first, OU.out, List.take_take]; congr 1; omega)
                  have hu2s : u2.size = r := by rw [← ofs_len, OU2.out, List.length_take, HL0.out]; omega
                  have hrk2 : r ≤ k := by omega
                  have TU2 := Lib.hid (show tl l0 r = tl l0 k by rw [← TU.out, hr]; simp only [tl]; rw [if_pos h32])
                  clear hr hlr UA OU TU
                  go_wp2
                  go_roundw
                  case rel => exact ⟨r, u2, hrk2, rfl, hu2s, OU2.out, TU2.out, by simp⟩
                  case measure => show u2.size < u.size; omega
                · have hz1 : ¬ (((u[r]'hrk).toNat : Int) = 32) := by rw [hz]; exact h32
                  have hz2 : (((u[r]'hrk).toNat : Int) == 32) = false := by simpa using hz1
                  have hfin : trim l0 = ofs u := by rw [trim, HL0.out, ← TU.out, show tl l0 p = p by rw [hr]; simp only [tl]; rw [if_neg h32], OU.out]
                  obtain ⟨s2, hs2⟩ : ∃ s2, ss ++ ofs u = s2 := ⟨_, rfl⟩
                  obtain ⟨s3, hs3⟩ : ∃ s3, s2 ++ [10] = s3 := ⟨_, rfl⟩
                  have E3 := Lib.hid (show s3 = bS (ls.take (j + 1)) by rw [ET1.out, hfin, hs2, hs3])
                  have hs3l : s3.length ≤ 1000000 := by have := ET2.out; rw [hfin, hs2, hs3] at this; omega
                  have hs2l : s2.length ≤ 1000000 := by rw [← hs3] at hs3l; simp at hs3l; omega
                  have sa1 : ∀ w' : World, (Op.stringOp .add (strOfNums ss) u).run Try.prog w' = .ok (.string (strOfNums s2)) w' := str_add_lit _ _ _ _ (str_ofs u) hs2 hs2l
                  have sa2 : ∀ w' : World, (Op.stringOp .add (strOfNums s2) ⟨#[10]⟩).run Try.prog w' = .ok (.string (strOfNums s3)) w' := str_add_lit _ [10] _ _ rfl hs3 hs3l
                  clear hs2 hs3 hs2l hs3l hfin
                  clear hz hr hlr UA OU TU
                  go_wp2
                  go_roundw
                  case rel => exact ⟨j + 1, s3, by omega, by go_num, rfl, ⟨E3.out, HF.out⟩, BV.out⟩
                  case measure => simp [intOf]; omega
      · have hjm : j = m := by omega
        have HTK := Lib.hid (show ls.take j = ls by rw [hjm, ← HLS.out]; exact List.take_length)
        have hbs := BS.out j hj
        rw [← EE.out.1] at hbs
        have ee := EE.out
        rw [HTK.out] at ee
        have hp := b_packs n ls ee.2
        have hu := b_unpacks n hn1.1 ls ee.2
        rw [← ee.1] at hp hu
        obtain ⟨rs, hrs⟩ : ∃ rs, bR n ls = rs := ⟨_, rfl⟩
        obtain ⟨nm, hnm⟩ : ∃ nm, n * m = nm := ⟨_, rfl⟩
        have hrl : rs.length = nm := by rw [← hrs, bR_len, HLS.out, hnm]
        rw [hrs] at hp hu
        have hnm2 : nm ≤ 480 := by rw [← hnm]; exact Nat.le_trans (Nat.mul_le_mul hn1.2 hm20) (by decide)
        have hpa : pAll n ss = rs := by rw [pAll, hp.1, hp.2.1]; simp [pEnd]
        have hua : uAll n rs = ss := by rw [uAll, hu.1, hu.2]; simp [uEnd]
        have HR := Lib.hid (show Are ss by rw [ee.1]; exact bS_are HAR.out)
        have AR := Lib.hid (show Are rs by rw [← hrs]; exact bR_are HAR.out)
        obtain ⟨mE, mA, mB, mI⟩ := c_may n hn1.1 (by omega)
        have hcn : (n : Int) ≤ 500 := by omega
        obtain ⟨e1, he1⟩ : ∃ e1, mapL tbE rs = e1 := ⟨_, rfl⟩
        obtain ⟨i1, hi1⟩ : ∃ i1, mapL tbI rs = i1 := ⟨_, rfl⟩
        have HE1 := Lib.hid he1; have HI1 := Lib.hid hi1
        have EE1 := Lib.hid (show (oW n).all ss = e1 by rw [c_e hn1.1 (by omega) HR.out, hpa, he1])
        have EI := Lib.hid (show (cI n).all ss = i1 by rw [c_i hn1.1 (by omega) HR.out, hpa, hi1])
        have EB := Lib.hid (show (cB n).all ss = rs by rw [c_b hn1.1 (by omega) HR.out, hpa])
        have EA := Lib.hid (show (cA n).all e1 = ss by rw [← he1, c_a hn1.1 (by omega) AR.out, hua])
        have AE := Lib.hid (show Are e1 by rw [← he1]; exact mapL_are (good_tb false) AR.out)
        have he1l : e1.length = nm := by rw [← he1, map_len, hrl]
        have HE1L := Lib.hid he1l; have HRL := Lib.hid hrl
        have CE := Lib.hid ebcdic_any; have CI := Lib.hid ibm_any; have GE := Lib.hid (show Good tbE from good_tb false); have GI := Lib.hid (show Good tbI from good_tb true)
        generalize tbE = tE at *
        generalize tbI = tI at *
        have hmi : (n : Int) * (m : Int) = (nm : Int) := by rw [← hnm]; simp
        have hwr : IntKind.i64.wrap ((n : Int) * (m : Int)) = (nm : Int) := by rw [hmi]; exact IntWalk.i64_in _ (by omega)
        have hwe : ((nm : Int) == IntKind.i64.wrap ((n : Int) * (m : Int))) = true := by rw [hwr]; simp
        clear hmi
        obtain ⟨sl, hsl⟩ : ∃ sl, ss.length = sl := ⟨_, rfl⟩
        have HSL := Lib.hid hsl
        have hsl2 : sl ≤ 492 := by omega
        obtain ⟨A5, c5, w5, r5, ok5, k5⟩ := str_bytes ss HR.out sl hsl (by omega) wr
        have O5 := Lib.hid ok5; have K5 := Lib.hid (BW.out.trans (k5.mono BW.out.size))
        have hjm2 := hjm
        clear hbs ee hp hu ok5 k5 hsl hrl hnm hrs EE he1 hi1 hpa hua he1l hjm2 BW
        go_wp2_with fail
        refine (all_one (oW n) (oW n) A5 sl c5 ss e1 w5 (eff_of mE) hcn O5.out (by have := HSL.out; omega) EE1.out).mono ?_
        rintro e w6 ⟨A1, m1, c1, rfl, q1, _, q3⟩
        obtain rfl : m1 = nm := by have := q1.1; have := HE1L.out; omega
        have X6 := Lib.hid (q1.el AE.out); have U1 := Lib.hid q1.bytes.2; have K6 := Lib.hid (K5.out.trans (q3.mono K5.out.size))
        clear q1 q3 r5 O5 K5
        go_wp2_with fail
        refine (all_one (cA n) (cA n) A1 m1 c1 e1 ss w6 (eff_of mA) hcn X6.out (by have := HE1L.out; omega) EA.out).mono ?_
        rintro e w7 ⟨A2, m2, c2, rfl, q1, _, q3⟩
        have X7 := Lib.hid (X6.out.on q3); have Y7 := Lib.hid q1.bytes.1; have U2 := Lib.hid q1.bytes.2; have K7 := Lib.hid (K6.out.trans (q3.mono K6.out.size))
        clear q1 q3 X6 K6
        obtain ⟨A8, c8, w8, r8, ok8, k8⟩ := str_bytes ss HR.out sl HSL.out (by omega) w7
        have O8 := Lib.hid ok8; have X8 := Lib.hid (X7.out.on k8); have Y8 := Lib.hid (Y7.out.on k8); have K8 := Lib.hid (K7.out.trans (k8.mono K7.out.size))
        clear ok8 k8 X7 Y7 K7
        go_wp2_with fail
        refine (all_one (cB n) (cB n) A8 sl c8 ss rs w8 (eff_of mB) hcn O8.out (by have := HSL.out; omega) EB.out).mono ?_
        rintro e w9 ⟨A3, m3, c3, rfl, q1, _, q3⟩
        have hm3 : m3 ≤ 480 := by have := q1.1; have := HRL.out; omega
        have I0 := Lib.hid (show CS w A1 m1 c1 e1 A2 m2 c2 ss A3 m3 c3 rs w9 from ⟨X8.out.bytes.on q3, Y8.out.on q3, q1.bytes.1, K8.out.trans (q3.mono K8.out.size)⟩)
        clear q1 q3 r8 O8 X8 Y8 K8
        go_wp2_with fail
        have hS := I0.out.on (Below.refl _ _).drew
        refine wp_region_held_drew (S := fun w' => CS w A1 m1 c1 e1 A2 m2 c2 ss A3 m3 c3 rs w') (by kernel_rfl) hS (fun hHeld => ?_)
        clear hS
        show wpAnyH _ _ _ _ _ 40 _ _ _
        refine take_at 0 86 (v := ?vg0) (fuel := 39) rfl rfl (by kernel_rfl) (by kernel_rfl) (by kernel_rfl) (fun _ _ _ h => h) (by rfl) hHeld ?hyg0 ?restg0
        case hyg0 => (intro w' hSw; (try dsimp only at hSw); go_simp <;> with_reducible rfl)
        simp only [Act.put, List.setIfInBounds_toArray, List.set_cons_zero, List.set_cons_succ]
        refine take_at 1 87 (v := ?vg1) (fuel := 38) rfl rfl (by kernel_rfl) (by kernel_rfl) (by kernel_rfl) (fun _ _ _ h => h) (by rfl) hHeld ?hyg1 ?restg1
        case hyg1 => (intro w' hSw; (try dsimp only at hSw); go_simp <;> with_reducible rfl)
        simp only [Act.put, List.setIfInBounds_toArray, List.set_cons_zero, List.set_cons_succ]
        refine take_at 2 88 (v := ?vg2) (fuel := 37) rfl rfl (by kernel_rfl) (by kernel_rfl) (by kernel_rfl) (fun _ _ _ h => h) (by rfl) hHeld ?hyg2 ?restg2
        case hyg2 => (intro w' hSw; (try dsimp only at hSw); go_simp <;> with_reducible rfl)
        simp only [Act.put, List.setIfInBounds_toArray, List.set_cons_zero, List.set_cons_succ]
        refine take_at 3 89 (v := ?vg3) (fuel := 36) rfl rfl (by kernel_rfl) (by kernel_rfl) (by kernel_rfl) (fun _ _ _ h => h) (by rfl) hHeld ?hyg3 ?restg3
        case hyg3 => (intro w' hSw; (try dsimp only at hSw); go_simp <;> with_reducible rfl)
        simp only [Act.put, List.setIfInBounds_toArray, List.set_cons_zero, List.set_cons_succ]
        refine take_at 4 90 (v := ?vg4) (fuel := 35) rfl rfl (by kernel_rfl) (by kernel_rfl) (by kernel_rfl) (fun _ _ _ h => h) (by rfl) hHeld ?hyg4 ?restg4
        case hyg4 => (intro w' hSw; (try dsimp only at hSw); go_simp <;> with_reducible rfl)
        simp only [Act.put, List.setIfInBounds_toArray, List.set_cons_zero, List.set_cons_succ]
        refine take_at 5 91 (v := ?vg5) (fuel := 34) rfl rfl (by kernel_rfl) (by kernel_rfl) (by kernel_rfl) (fun _ _ _ h => h) (by rfl) hHeld ?hyg5 ?restg5
        case hyg5 => (intro w' hSw; (try dsimp only at hSw); go_simp <;> with_reducible rfl)
        simp only [Act.put, List.setIfInBounds_toArray, List.set_cons_zero, List.set_cons_succ]
        refine take_at 6 92 (v := ?vg6) (fuel := 33) rfl rfl (by kernel_rfl) (by kernel_rfl) (by kernel_rfl) (fun _ _ _ h => h) (by rfl) hHeld ?hyg6 ?restg6
        case hyg6 => (intro w' hSw; (try dsimp only at hSw); go_simp <;> with_reducible rfl)
        simp only [Act.put, List.setIfInBounds_toArray, List.set_cons_zero, List.set_cons_succ]
        refine take_at 7 93 (v := ?vg7) (fuel := 32) rfl rfl (by kernel_rfl) (by kernel_rfl) (by kernel_rfl) (fun _ _ _ h => h) (by rfl) hHeld ?hyg7 ?restg7
        case hyg7 => (intro w' hSw; (try dsimp only at hSw); go_simp <;> with_reducible rfl)
        simp only [Act.put, List.setIfInBounds_toArray, List.set_cons_zero, List.set_cons_succ]
        refine take_at 8 94 (v := ?vg8) (fuel := 31) rfl rfl (by kernel_rfl) (by kernel_rfl) (by kernel_rfl) (fun _ _ _ h => h) (by rfl) hHeld ?hyg8 ?restg8
        case hyg8 => (intro w' hSw; (try dsimp only at hSw); go_simp <;> with_reducible rfl)
        simp only [Act.put, List.setIfInBounds_toArray, List.set_cons_zero, List.set_cons_succ]
        refine take_text 9 95 (fuel := 30) _ A2 m2 c2 ss rfl rfl (by kernel_rfl) (by kernel_rfl) (by kernel_rfl) (fun _ _ _ h => h) (by rfl) hHeld rfl rfl (fun _ h => h.2.1) U2.out ?_
        simp only [Act.put, List.setIfInBounds_toArray, List.set_cons_zero, List.set_cons_succ]
        refine take_at 10 96 (v := ?vg10) (fuel := 29) rfl rfl (by kernel_rfl) (by kernel_rfl) (by kernel_rfl) (fun _ _ _ h => h) (by rfl) hHeld ?hyg10 ?restg10
        case hyg10 => (intro w' hSw; (try dsimp only at hSw); go_simp <;> with_reducible rfl)
        simp only [Act.put, List.setIfInBounds_toArray, List.set_cons_zero, List.set_cons_succ]
        refine take_at 11 97 (v := ?vg11) (fuel := 28) rfl rfl (by kernel_rfl) (by kernel_rfl) (by kernel_rfl) (fun _ _ _ h => h) (by rfl) hHeld ?hyg11 ?restg11
        case hyg11 => (intro w' hSw; (try dsimp only at hSw); go_simp <;> with_reducible rfl)
        simp only [Act.put, List.setIfInBounds_toArray, List.set_cons_zero, List.set_cons_succ]
        refine take_at 12 98 (v := ?vg12) (fuel := 27) rfl rfl (by kernel_rfl) (by kernel_rfl) (by kernel_rfl) (fun _ _ _ h => h) (by rfl) hHeld ?hyg12 ?restg12
        case hyg12 => (intro w' hSw; (try dsimp only at hSw); go_simp <;> with_reducible rfl)
        simp only [Act.put, List.setIfInBounds_toArray, List.set_cons_zero, List.set_cons_succ]
        refine take_at 13 99 (v := ?vg13) (fuel := 26) rfl rfl (by kernel_rfl) (by kernel_rfl) (by kernel_rfl) (fun _ _ _ h => h) (by rfl) hHeld ?hyg13 ?restg13
        case hyg13 => (intro w' hSw; (try dsimp only at hSw); go_simp <;> with_reducible rfl)
        simp only [Act.put, List.setIfInBounds_toArray, List.set_cons_zero, List.set_cons_succ]
        refine take_at 14 100 (v := ?vg14) (fuel := 25) rfl rfl (by kernel_rfl) (by kernel_rfl) (by kernel_rfl) (fun _ _ _ h => h) (by rfl) hHeld ?hyg14 ?restg14
        case hyg14 => (intro w' hSw; (try dsimp only at hSw); go_simp <;> with_reducible rfl)
        simp only [Act.put, List.setIfInBounds_toArray, List.set_cons_zero, List.set_cons_succ]
        refine take_text 15 101 (fuel := 24) _ A1 m1 c1 e1 rfl rfl (by kernel_rfl) (by kernel_rfl) (by kernel_rfl) (fun _ _ _ h => h) (by rfl) hHeld rfl rfl (fun _ h => h.1) U1.out ?_
        simp only [Act.put, List.setIfInBounds_toArray, List.set_cons_zero, List.set_cons_succ]
        refine take_at 17 103 (v := ?vg17) (fuel := 23) rfl rfl (by kernel_rfl) (by kernel_rfl) (by kernel_rfl) (fun _ _ _ h => h) (by rfl) hHeld ?hyg17 ?restg17
        case hyg17 => (intro w' hSw; (try dsimp only at hSw); go_simp <;> with_reducible rfl)
        simp only [Act.put, List.setIfInBounds_toArray, List.set_cons_zero, List.set_cons_succ]
        refine wpAnyH_ready (rs := [16]) (fuel := 22) (by kernel_rfl) (by simp) ?_
        refine AllReadyH.cons rfl (fun Kq hK => ?_) AllReadyH.nil
        go_simp
        refine (CE.out _).mono ?_
        rintro e v16 ⟨rfl, q⟩
        go_simp
        refine hK.out _ _ (CS.on hHeld q) (fun hI16 => ?_)
        clear hK Kq hHeld q
        (try simp only [Act.put, List.setIfInBounds_toArray, List.set_cons_zero, List.set_cons_succ])
        refine wpAnyH_ready (rs := [18]) (fuel := 21) (by kernel_rfl) (by simp) ?_
        refine AllReadyH.cons rfl (fun Kq hK => ?_) AllReadyH.nil
        go_simp
        refine (map_any tE A3 m3 c3 rs _ GE.out hI16.2.2.1 AR.out (by omega) e1 HE1.out).mono ?_
        rintro e v18 ⟨B18, n18, d18, rfl, q1, q2, q3⟩
        have T18 := Lib.hid q1.bytes
        go_simp
        refine hK.out _ _ (CS.on hI16 q3) (fun hI18 => ?_)
        have hJ18 := (show (fun w' : World => (CS w A1 m1 c1 e1 A2 m2 c2 ss A3 m3 c3 rs w' ∧ Bytes w' B18 n18 d18 e1)) v18 from ⟨hI18, T18.out.1⟩)
        refine wpAnyH_more (S' := fun w' => (CS w A1 m1 c1 e1 A2 m2 c2 ss A3 m3 c3 rs w' ∧ Bytes w' B18 n18 d18 e1)) (fun _ h => h.1) _ _ _ _ ?_
        clear hK Kq hI16 hI18 q1 q2 q3
        (try simp only [Act.put, List.setIfInBounds_toArray, List.set_cons_zero, List.set_cons_succ])
        refine take_text 19 105 (fuel := 20) _ B18 n18 d18 e1 rfl rfl (by kernel_rfl) (by kernel_rfl) (by kernel_rfl) (fun _ _ _ h => h) (by rfl) hJ18 rfl rfl (fun _ h => h.2) T18.out.2 ?_
        simp only [Act.put, List.setIfInBounds_toArray, List.set_cons_zero, List.set_cons_succ]
        refine take_at 20 106 (v := ?vg20) (fuel := 19) rfl rfl (by kernel_rfl) (by kernel_rfl) (by kernel_rfl) (fun _ _ _ h => h) (by rfl) hJ18 ?hyg20 ?restg20
        case hyg20 => (intro w' hSw; (try dsimp only at hSw); go_simp <;> with_reducible rfl)
        simp only [Act.put, List.setIfInBounds_toArray, List.set_cons_zero, List.set_cons_succ]
        refine take_at 21 107 (v := ?vg21) (fuel := 18) rfl rfl (by kernel_rfl) (by kernel_rfl) (by kernel_rfl) (fun _ _ _ h => h) (by rfl) hJ18 ?hyg21 ?restg21
        case hyg21 => (intro w' hSw; (try dsimp only at hSw); go_simp <;> with_reducible rfl)
        simp only [Act.put, List.setIfInBounds_toArray, List.set_cons_zero, List.set_cons_succ]
        refine take_at 22 108 (v := ?vg22) (fuel := 17) rfl rfl (by kernel_rfl) (by kernel_rfl) (by kernel_rfl) (fun _ _ _ h => h) (by rfl) hJ18 ?hyg22 ?restg22
        case hyg22 => (intro w' hSw; (try dsimp only at hSw); go_simp <;> with_reducible rfl)
        simp only [Act.put, List.setIfInBounds_toArray, List.set_cons_zero, List.set_cons_succ]
        refine take_at 23 109 (v := ?vg23) (fuel := 16) rfl rfl (by kernel_rfl) (by kernel_rfl) (by kernel_rfl) (fun _ _ _ h => h) (by rfl) hJ18 ?hyg23 ?restg23
        case hyg23 => (intro w' hSw; (try dsimp only at hSw); go_simp <;> with_reducible rfl)
        simp only [Act.put, List.setIfInBounds_toArray, List.set_cons_zero, List.set_cons_succ]
        refine take_at 24 110 (v := ?vg24) (fuel := 15) rfl rfl (by kernel_rfl) (by kernel_rfl) (by kernel_rfl) (fun _ _ _ h => h) (by rfl) hJ18 ?hyg24 ?restg24
        case hyg24 => (intro w' hSw; (try dsimp only at hSw); go_simp <;> with_reducible rfl)
        simp only [Act.put, List.setIfInBounds_toArray, List.set_cons_zero, List.set_cons_succ]
        refine take_at 25 111 (v := ?vg25) (fuel := 14) rfl rfl (by kernel_rfl) (by kernel_rfl) (by kernel_rfl) (fun _ _ _ h => h) (by rfl) hJ18 ?hyg25 ?restg25
        case hyg25 => (intro w' hSw; (try dsimp only at hSw); go_simp <;> with_reducible rfl)
        simp only [Act.put, List.setIfInBounds_toArray, List.set_cons_zero, List.set_cons_succ]
        refine take_at 31 117 (v := ?vg31) (fuel := 13) rfl rfl (by kernel_rfl) (by kernel_rfl) (by kernel_rfl) (fun _ _ _ h => h) (by rfl) hJ18 ?hyg31 ?restg31
        case hyg31 => (intro w' hSw; (try dsimp only at hSw); go_simp <;> with_reducible rfl)
        simp only [Act.put, List.setIfInBounds_toArray, List.set_cons_zero, List.set_cons_succ]
        refine wpAnyH_ready (rs := [26]) (fuel := 12) (by kernel_rfl) (by simp) ?_
        refine AllReadyH.cons rfl (fun Kq hK => ?_) AllReadyH.nil
        obtain ⟨A7, c7, v26, r26, ok26, k26⟩ := str_bytes ss HR.out sl HSL.out (by omega) v18
        have OK26 := Lib.hid ok26
        go_simp
        refine hK.out _ _ (⟨CS.on hJ18.1 k26, hJ18.2.on k26⟩) (fun hI26 => ?_)
        clear hK Kq hJ18 r26 ok26 k26
        (try simp only [Act.put, List.setIfInBounds_toArray, List.set_cons_zero, List.set_cons_succ])
        refine wpAnyH_ready (rs := [27]) (fuel := 11) (by kernel_rfl) (by simp) ?_
        refine AllReadyH.cons rfl (fun Kq hK => ?_) AllReadyH.nil
        go_simp
        skip
        have H26 := Lib.hid hI26
        refine hK.out _ _ (⟨CS.on hI26.1 ((Below.refl _ _).alloc (Nat.le_refl _) _), hI26.2.on ((Below.refl _ _).alloc (Nat.le_refl _) _)⟩) (fun hI27 => ?_)
        clear hK Kq hI26
        (try simp only [Act.put, List.setIfInBounds_toArray, List.set_cons_zero, List.set_cons_succ])
        refine wpAnyH_ready (rs := [28]) (fuel := 10) (by kernel_rfl) (by simp) ?_
        refine AllReadyH.cons rfl (fun Kq hK => ?_) AllReadyH.nil
        go_simp
        refine (all_one (cI n) (cI n) A7 sl c7 ss i1 v26 (eff_of mI) hcn OK26.out (by have := HSL.out; omega) EI.out).mono ?_
        rintro e v28 ⟨B28, n28, d28, rfl, q1, q2, q3⟩
        have T28 := Lib.hid q1.bytes
        go_simp
        refine hK.out _ _ (⟨CS.on H26.out.1 q3, H26.out.2.on q3⟩) (fun hI28 => ?_)
        have hJ28 := (show (fun w' : World => ((CS w A1 m1 c1 e1 A2 m2 c2 ss A3 m3 c3 rs w' ∧ Bytes w' B18 n18 d18 e1) ∧ Bytes w' B28 n28 d28 i1)) v28 from ⟨hI28, T28.out.1⟩)
        refine wpAnyH_more (S' := fun w' => ((CS w A1 m1 c1 e1 A2 m2 c2 ss A3 m3 c3 rs w' ∧ Bytes w' B18 n18 d18 e1) ∧ Bytes w' B28 n28 d28 i1)) (fun _ h => h.1) _ _ _ _ ?_
        clear hK Kq hI27 hI28 q1 q2 q3
        (try simp only [Act.put, List.setIfInBounds_toArray, List.set_cons_zero, List.set_cons_succ])
        refine take_text 29 115 (fuel := 9) _ B28 n28 d28 i1 rfl rfl (by kernel_rfl) (by kernel_rfl) (by kernel_rfl) (fun _ _ _ h => h) (by rfl) hJ28 rfl rfl (fun _ h => h.2) T28.out.2 ?_
        simp only [Act.put, List.setIfInBounds_toArray, List.set_cons_zero, List.set_cons_succ]
        refine wpAnyH_ready (rs := [30]) (fuel := 8) (by kernel_rfl) (by simp) ?_
        refine AllReadyH.cons rfl (fun Kq hK => ?_) AllReadyH.nil
        go_simp
        refine (CI.out _).mono ?_
        rintro e v30 ⟨rfl, q⟩
        go_simp
        refine hK.out _ _ (⟨⟨CS.on hJ28.1.1 q, hJ28.1.2.on q⟩, hJ28.2.on q⟩) (fun hI30 => ?_)
        clear hK Kq hJ28 q
        (try simp only [Act.put, List.setIfInBounds_toArray, List.set_cons_zero, List.set_cons_succ])
        refine wpAnyH_ready (rs := [32]) (fuel := 7) (by kernel_rfl) (by simp) ?_
        refine AllReadyH.cons rfl (fun Kq hK => ?_) AllReadyH.nil
        go_simp
        refine (map_any tI A3 m3 c3 rs _ GI.out hI30.1.1.2.2.1 AR.out (by omega) i1 HI1.out).mono ?_
        rintro e v32 ⟨B32, n32, d32, rfl, q1, q2, q3⟩
        have T32 := Lib.hid q1.bytes
        go_simp
        refine hK.out _ _ (⟨⟨CS.on hI30.1.1 q3, hI30.1.2.on q3⟩, hI30.2.on q3⟩) (fun hI32 => ?_)
        have hJ32 := (show (fun w' : World => (((CS w A1 m1 c1 e1 A2 m2 c2 ss A3 m3 c3 rs w' ∧ Bytes w' B18 n18 d18 e1) ∧ Bytes w' B28 n28 d28 i1) ∧ Bytes w' B32 n32 d32 i1)) v32 from ⟨hI32, T32.out.1⟩)
        refine wpAnyH_more (S' := fun w' => (((CS w A1 m1 c1 e1 A2 m2 c2 ss A3 m3 c3 rs w' ∧ Bytes w' B18 n18 d18 e1) ∧ Bytes w' B28 n28 d28 i1) ∧ Bytes w' B32 n32 d32 i1)) (fun _ h => h.1) _ _ _ _ ?_
        clear hK Kq hI30 hI32 q1 q2 q3
        (try simp only [Act.put, List.setIfInBounds_toArray, List.set_cons_zero, List.set_cons_succ])
        refine take_text 33 119 (fuel := 6) _ B32 n32 d32 i1 rfl rfl (by kernel_rfl) (by kernel_rfl) (by kernel_rfl) (fun _ _ _ h => h) (by rfl) hJ32 rfl rfl (fun _ h => h.2) T32.out.2 ?_
        simp only [Act.put, List.setIfInBounds_toArray, List.set_cons_zero, List.set_cons_succ]
        refine take_at 34 120 (v := ?vg34) (fuel := 5) rfl rfl (by kernel_rfl) (by kernel_rfl) (by kernel_rfl) (fun _ _ _ h => h) (by rfl) hJ32 ?hyg34 ?restg34
        case hyg34 => (intro w' hSw; (try dsimp only at hSw); go_simp <;> with_reducible rfl)
        simp only [Act.put, List.setIfInBounds_toArray, List.set_cons_zero, List.set_cons_succ]
        refine take_at 35 121 (v := ?vg35) (fuel := 4) rfl rfl (by kernel_rfl) (by kernel_rfl) (by kernel_rfl) (fun _ _ _ h => h) (by rfl) hJ32 ?hyg35 ?restg35
        case hyg35 => (intro w' hSw; (try dsimp only at hSw); go_simp <;> with_reducible rfl)
        simp only [Act.put, List.setIfInBounds_toArray, List.set_cons_zero, List.set_cons_succ]
        refine take_at 36 122 (v := ?vg36) (fuel := 3) rfl rfl (by kernel_rfl) (by kernel_rfl) (by kernel_rfl) (fun _ _ _ h => h) (by rfl) hJ32 ?hyg36 ?restg36
        case hyg36 => (intro w' hSw; (try dsimp only at hSw); go_simp <;> with_reducible rfl)
        simp only [Act.put, List.setIfInBounds_toArray, List.set_cons_zero, List.set_cons_succ]
        refine wpAnyH_ready (rs := [37]) (fuel := 2) (by kernel_rfl) (by simp) ?_
        refine AllReadyH.cons rfl (fun Kq hK => ?_) AllReadyH.nil
        go_simp
        refine (CR.out _).mono ?_
        rintro e v37 ⟨rfl, q⟩
        go_simp
        refine hK.out _ _ (⟨⟨⟨CS.on hJ32.1.1.1 q, hJ32.1.1.2.on q⟩, hJ32.1.2.on q⟩, hJ32.2.on q⟩) (fun hI37 => ?_)
        clear hK Kq hJ32 q
        (try simp only [Act.put, List.setIfInBounds_toArray, List.set_cons_zero, List.set_cons_succ])
        refine take_at 38 124 (v := ?vg38) (fuel := 1) rfl rfl (by kernel_rfl) (by kernel_rfl) (by kernel_rfl) (fun _ _ _ h => h) (by rfl) hI37 ?hyg38 ?restg38
        case hyg38 => (intro w' hSw; (try dsimp only at hSw); go_simp <;> with_reducible rfl)
        simp only [Act.put, List.setIfInBounds_toArray, List.set_cons_zero, List.set_cons_succ]
        refine take_at 39 4 (v := ?vg39) (fuel := 0) rfl rfl (by kernel_rfl) (by kernel_rfl) (by kernel_rfl) (fun _ _ _ h => h) (by rfl) hI37 ?hyg39 ?restg39
        case hyg39 => (intro w' hSw; (try dsimp only at hSw); go_simp <;> with_reducible rfl)
        simp only [Act.put, List.setIfInBounds_toArray, List.set_cons_zero, List.set_cons_succ]
        refine wpAnyH_done (by kernel_rfl) ?_ _
        have KF := Lib.hid hI37.1.1.1.2.2.2
        clear hI37
        go_wp2
        go_ret
        exact ⟨rfl, KF.out⟩

end Go.Proofs.Ytghihmmapignmaa
