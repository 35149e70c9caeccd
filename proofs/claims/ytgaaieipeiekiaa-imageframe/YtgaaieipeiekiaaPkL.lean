/- Small numbers in decimal: contracts of the reference's digits, Dec, and of Num. / What a row of one's own changes; changes in bounds. / Contract of the law ImageCount. / Contracts of the made names. / Contract of the made bytes. / Contract of the made contents. / A drawn region whose callees may make memory, read in every world that only grew. / A drawn region whose last operation may end what the others lean on. -/
import Derived.Test.YtgaaieipeiekiaaPkJ
import Derived.Lib.Strings
import Derived.Lib.IndexBytes
import Derived.WalkSpells
import Derived.WalkLawsBesides
import Derived.Test.YtgaaieipeiekiaaPkK
import Derived.BigQuiet
import Derived.OrdersHeld
import Derived.Deep.RegionHeld3
namespace Go.Proofs.Ytgaaieipeiekiaa
open Go.RowKit
set_option maxRecDepth 100000
namespace Dg
def bs (l : List UInt8) : ByteArray := ⟨l.toArray⟩
theorem bs_data (l : List UInt8) : (bs l).data.toList = l := rfl
theorem bs_size (l : List UInt8) : (bs l).size = l.length := by simp [bs, ByteArray.size]
theorem bs_of (s : ByteArray) : bs s.data.toList = s := Lib.mk_data s
theorem bs_append (a b : List UInt8) : bs a ++ bs b = bs (a ++ b) := by
  apply ByteArray.ext; simp [bs]
theorem len_data (s : ByteArray) : s.data.toList.length = s.size := (Lib.size_eq s).symm
def fig (d : Nat) : UInt8 := if d < 10 then UInt8.ofNat (48 + d) else UInt8.ofNat (55 + d)
theorem fig_nat (d : Nat) (h : d < 16) : (fig d).toNat = if d < 10 then 48 + d else 55 + d := by
  unfold fig; split <;> simp <;> omega
def wr (base least : Nat) : Nat → Nat → List UInt8 → List UInt8
  | 0, _, acc => acc
  | f + 1, n, acc => if 0 < n ∨ acc.length < least then wr base least f (n / base) (fig (n % base) :: acc) else acc
theorem wr_yes (base least f n : Nat) (acc : List UInt8) (h : 0 < n ∨ acc.length < least) : wr base least (f + 1) n acc = wr base least f (n / base) (fig (n % base) :: acc) := by rw [wr, if_pos h]
theorem wr_no (base least f n : Nat) (acc : List UInt8) (h : ¬ (0 < n ∨ acc.length < least)) : wr base least f n acc = acc := by
  cases f
  · rfl
  · rw [wr, if_neg h]
def digits (base least n : Nat) : List UInt8 := wr base least 20 n []
theorem wr_len (base least : Nat) (hb : 2 ≤ base) : ∀ (f g n : Nat) (acc : List UInt8), n < base ^ g → least ≤ acc.length + g → (wr base least f n acc).length ≤ acc.length + g
  | 0, g, n, acc, _, _ => by simp [wr]
  | f + 1, g, n, acc, h, hl => by
    by_cases hc : 0 < n ∨ acc.length < least
    · rw [wr_yes _ _ _ _ _ hc]
      match g, h, hl with
      | 0, h, hl => simp at h; omega
      | g + 1, h, hl =>
        have := wr_len base least hb f g (n / base) (fig (n % base) :: acc) (by rw [Nat.div_lt_iff_lt_mul (by omega)]; rwa [Nat.pow_succ] at h) (by simp; omega)
        simp at this; omega
    · rw [wr_no _ _ _ _ _ hc]; omega
theorem digits_len (base least g n : Nat) (hb : 2 ≤ base) (h : n < base ^ g) (hl : least ≤ g) : (digits base least n).length ≤ g := by
  have := wr_len base least hb 20 g n [] h (by simpa using hl)
  simpa [digits] using this
end Dg
theorem fig_cut (d : Nat) (h : d < 16) : (ByteArray.mk #[48, 49, 50, 51, 52, 53, 54, 55, 56, 57, 65, 66, 67, 68, 69, 70]).extract d (d + 1) = Dg.bs [Dg.fig d] := by
  apply ByteArray.ext
  apply Array.toList_inj.1
  rw [Lib.extract_data, Dg.bs_data]
  match d, h with
  | 0, _ | 1, _ | 2, _ | 3, _ | 4, _ | 5, _ | 6, _ | 7, _ | 8, _ | 9, _ | 10, _ | 11, _ | 12, _ | 13, _ | 14, _ | 15, _ => rfl
  | d + 16, h => omega
theorem ret_txt {b : List UInt8} {t : ByteArray} (h : Dg.bs b = t) : Ending.returned (.string t) = .returned (.string (Dg.bs b)) := by rw [h]
theorem fig_cons (d : Nat) (t : ByteArray) : (Dg.bs [Dg.fig d] ++ t).data.toList = Dg.fig d :: t.data.toList ∧ (Dg.bs [Dg.fig d] ++ t).size = t.size + 1 := by
  have h : Dg.bs [Dg.fig d] ++ t = Dg.bs (Dg.fig d :: t.data.toList) := by
    conv => lhs; rw [← Dg.bs_of t, Dg.bs_append]
    rfl
  rw [h, Dg.bs_data, Dg.bs_size]
  exact ⟨rfl, by simp⟩

set_option maxHeartbeats 2000000 in
theorem digits_any (n base least : Nat) (w : World) (hb : 2 ≤ base) (hb2 : base ≤ 16) (hl : least ≤ 20) (hn : n ≤ 18446744073709551615) (hn2 : n < base ^ 20) :
    Calls Try.prog 46 #[.int .u64 (n : Int), .int .u64 (base : Int), .int .i64 (least : Int)] w fun e w' => e = .returned (.string (Dg.bs (Dg.digits base least n))) ∧ w = w' := by
  have HN := Lib.hid hn2; clear hn2
  go_enter Try.func46, Try.ntmps46
  go_wp2
  go_loop [0, 7] (fun nn st => ∃ (f u : Nat) (t : ByteArray), st = .string t ∧ nn = .int .u64 u ∧ t.size + f = 20 ∧ u ≤ 18446744073709551615 ∧ Hid (u < base ^ f) ∧ Hid (Dg.digits base least n = Dg.wr base least f u t.data.toList)) (fun _ st => 20 - (match st with | .string t => t.size | _ => 0))
  case atStart => exact ⟨20, n, ⟨#[]⟩, rfl, rfl, rfl, hn, HN, rfl⟩
  case round =>
    obtain ⟨f, u, t, rfl, rfl, hacc, hu, HU, HE⟩ := hrel
    have HT := Lib.hid (Dg.len_data t)
    by_cases hgo : 0 < u ∨ t.size < least
    · have hf1 : 1 ≤ f := by
        rcases hgo with h | h
        · have := HU.out
          rcases Nat.eq_zero_or_pos f with h0 | h0
          · rw [h0] at this; simp at this; omega
          · exact h0
        · omega
      obtain ⟨g, rfl⟩ : ∃ g, f = g + 1 := ⟨f - 1, by omega⟩
      obtain ⟨q, hq⟩ : ∃ q, u / base = q := ⟨_, rfl⟩
      obtain ⟨d, hd⟩ : ∃ d, u % base = d := ⟨_, rfl⟩
      have hdb : d < 16 := by rw [← hd]; have := Nat.mod_lt u (show 0 < base by omega); omega
      have hqu : q ≤ u := by rw [← hq]; exact Nat.div_le_self _ _
      have hqi : (u : Int) / (base : Int) = (q : Int) := by rw [← hq]; simp
      have hdi : (u : Int) % (base : Int) = (d : Int) := by rw [← hd]; simp
      have hcut := fig_cut d hdb
      obtain ⟨hdat, hsiz⟩ := fig_cons d t
      have hone : (Dg.bs [Dg.fig d]).size = 1 := rfl
      have Y : Hid (Dg.digits base least n = Dg.wr base least g q (Dg.bs [Dg.fig d] ++ t).data.toList) := by
        unfold Hid
        rw [HE.out, Dg.wr_yes _ _ _ _ _ (by rw [HT.out]; exact hgo), hq, hd, hdat]
      have Z : Hid (q < base ^ g) := by
        unfold Hid
        rw [← hq, Nat.div_lt_iff_lt_mul (by omega)]
        have := HU.out
        rwa [Nat.pow_succ] at this
      clear hq hd hdat
      have HSZ := Lib.hid hsiz; clear hsiz
      by_cases h0 : 0 < u
      · clear hgo
        go_wp2
        go_round
        case rel => exact ⟨g, q, _, rfl, by go_num, by have := HSZ.out; omega, by omega, Z, Y⟩
        case measure => have := HSZ.out; simp only []; omega
      · have hlt : t.size < least := by omega
        clear hgo
        go_wp2
        go_round
        case rel => exact ⟨g, q, _, rfl, by go_num, by have := HSZ.out; omega, by omega, Z, Y⟩
        case measure => have := HSZ.out; simp only []; omega
    · have h0 : ¬ 0 < u := fun h => hgo (.inl h)
      have h1 : ¬ t.size < least := fun h => hgo (.inr h)
      have hv : Dg.bs (Dg.digits base least n) = t := by rw [HE.out, Dg.wr_no _ _ _ _ _ (by rw [HT.out]; exact hgo), Dg.bs_of]
      have HV := Lib.hid hv; clear hv
      clear hgo
      go_wp2
      go_ret
      exact ⟨ret_txt HV.out, rfl⟩



set_option maxHeartbeats 1000000 in
theorem rdec_any (n : Nat) (w : World) (h1 : n ≤ 1000) : Calls Try.prog 28 #[.int .i64 (n : Int)] w fun e w' => e = .returned (.string (Dg.bs (Dg.digits 10 1 n))) ∧ w = w' := by
  go_enter Try.func28, Try.ntmps28
  go_wp2_with fail
  refine (digits_any n 10 1 _ (by omega) (by omega) (by omega) (by omega) (by omega)).mono ?_
  rintro e w1 ⟨rfl, rfl⟩
  go_wp2
  go_ret
  exact ⟨rfl, rfl⟩
set_option maxHeartbeats 1000000 in
theorem num_any (n : Nat) (w : World) (h1 : n ≤ 1000) : Calls Try.prog 15 #[.int .i64 (n : Int)] w fun e w' => e = .returned (.string (Dg.bs (Dg.digits 10 1 n))) ∧ w = w' := by
  go_enter Try.func15, Try.ntmps15
  go_wp2_with fail
  refine (rdec_any n _ h1).mono ?_
  rintro e w1 ⟨rfl, rfl⟩
  go_wp2
  go_ret
  exact ⟨rfl, rfl⟩
end Go.Proofs.Ytgaaieipeiekiaa

namespace Go.Proofs.Ytgaaieipeiekiaa
open Go.RowKit
set_option maxRecDepth 100000

theorem own_only {w w' : World} {A : Option Addr} {n c : Nat} (hA : A = none ∨ ∃ g, A = some ⟨g, 0, none⟩) (h : Only (fun d => (Value.slice A n c).ownBlock = some d) w w') : Only (fun d => A = some ⟨d, 0, none⟩) w w' := h.mono fun d hd => by
  rcases hA with rfl | ⟨g, rfl⟩
  · cases hd
  · have : g = d := Option.some.inj hd
    subst this; rfl
theorem own_src {A : Option Addr} {n c d : Nat} (hA : A = none ∨ ∃ g, A = some ⟨g, 0, none⟩) (h : (Value.slice A n c).ownBlock = some d) : A = some ⟨d, 0, none⟩ := by
  rcases hA with rfl | ⟨g, rfl⟩
  · cases h
  · have : g = d := Option.some.inj h
    subst this; rfl
def Op9 (o : Opv) : Prop := (-9223372036854775808 ≤ o.pos ∧ o.pos ≤ 9223372036854775807) ∧ (-9223372036854775808 ≤ o.size ∧ o.size ≤ 9223372036854775807)
end Go.Proofs.Ytgaaieipeiekiaa

namespace Go.Proofs.Ytgaaieipeiekiaa
open Go.RowKit
set_option maxRecDepth 100000

def fN (i : Nat) : ByteArray := ⟨#[102]⟩ ++ Dg.bs (Dg.digits 10 1 i)
def opC (i : Nat) : Opv := ⟨1, 1 + (i : Int), 0, 0, false, fN i, ⟨#[]⟩, []⟩
theorem fN_ok : ∀ k < 30, okName (fN k) = true := by decide +kernel
theorem fN_ne : ∀ k < 30, ∀ j < k, fN j ≠ fN k := by decide +kernel
theorem fN_size : ∀ k < 30, (fN k).size ≤ 20 := by decide +kernel
theorem dg_size : ∀ k < 30, (Dg.bs (Dg.digits 10 1 k)).size ≤ 20 := by decide +kernel
structure Cn (k : Nat) (I : Ig) : Prop where
  good : GoodI I
  nm : ∀ x ∈ I.N, ∃ j, j < k ∧ x = ⟨fN j, 1 + (j : Int)⟩
  len : I.N.length = min k 16
theorem cn_nil : Cn 0 ⟨[], []⟩ := ⟨good_nil, by simp, by simp⟩
theorem cn_step {k : Nat} {I : Ig} (h : Cn k I) (hk : k < 30) : Cn (k + 1) (applyS I (opC k)) := by
  have hl := h.len
  by_cases hc : I.N.length < 16
  · have h1 : fnd Nm.name I.N (fN k) = none := fnd_none.2 fun x hx he => by
      obtain ⟨j, hj, rfl⟩ := h.nm x hx
      exact fN_ne k hk j hj he
    have h2 : fnd Nd.ino I.D (1 + (k : Int)) = none := fnd_none.2 fun d hd he => by
      have : d.ino ∈ I.N.map Nm.ino := h.good.perm.mem_iff.2 (List.mem_map_of_mem hd)
      obtain ⟨x, hx, hxe⟩ := List.mem_map.1 this
      obtain ⟨j, hj, rfl⟩ := h.nm x hx
      have e : (1 + (j : Int)) = d.ino := hxe
      omega
    have h3 : okIno (1 + (k : Int)) = true := by simp only [okIno, Bool.and_eq_true, decide_eq_true_eq]; omega
    have e : applyS I (opC k) = ⟨ins ordN Nm.name I.N ⟨fN k, 1 + (k : Int)⟩, ins ordI Nd.ino I.D ⟨1 + (k : Int), 0, []⟩⟩ := by
      unfold applyS opC
      rw [if_pos rfl, if_pos ⟨fN_ok k hk, h1, h3, h2, hc⟩]
    refine ⟨good_apply h.good _, fun x hx => ?_, ?_⟩
    · rw [e] at hx
      rcases mem_ins.1 hx with rfl | hx
      · exact ⟨k, by omega, rfl⟩
      · obtain ⟨j, hj, rfl⟩ := h.nm x hx; exact ⟨j, by omega, rfl⟩
    · rw [e]
      have := (ins_perm (O := ordN) Nm.name I.N ⟨fN k, 1 + (k : Int)⟩).length_eq
      simp only [List.length_cons] at this
      show (ins ordN Nm.name I.N ⟨fN k, 1 + (k : Int)⟩).length = _
      omega
  · have e : applyS I (opC k) = I := by
      unfold applyS opC
      rw [if_pos rfl, if_neg (fun h => hc h.2.2.2.2)]
    rw [e]
    exact ⟨h.good, fun x hx => by obtain ⟨j, hj, he⟩ := h.nm x hx; exact ⟨j, by omega, he⟩, by omega⟩
def omC (i : Nat) : Om := ⟨opC i, none, 0⟩
def opsC (k : Nat) : List Om := (List.range k).map omC
theorem opsC_succ (k : Nat) : opsC (k + 1) = opsC k ++ [omC k] := by simp [opsC, List.range_succ]
theorem opsC_len (k : Nat) : (opsC k).length = k := by simp [opsC]
theorem cn_all : ∀ k, k ≤ 30 → Cn k (allS ⟨[], []⟩ ((opsC k).map Om.o))
  | 0, _ => cn_nil
  | k + 1, h => by
    rw [opsC_succ, List.map_append]
    have := cn_step (cn_all k (by omega)) (by omega)
    simpa [allS, List.foldl_append, omC] using this
theorem opsC_in (w : World) (k : Nat) (hk : k ≤ 30) : ∀ x ∈ opsC k, OpIn w x.o x.A x.c ∧ Small x.o := fun x hx => by
  simp only [opsC, List.mem_map, List.mem_range] at hx
  obtain ⟨j, hj, rfl⟩ := hx
  have := fN_size j (by omega)
  exact ⟨⟨nums_nil .u8 w, by simp [omC, opC], by show (fN j).size ≤ maxLen; unfold maxLen; omega, Nat.zero_le _⟩, Nat.zero_le _, .inl (show (0 : Int) ≤ 400 by decide)⟩

set_option maxHeartbeats 8000000 in
theorem law_count (x : Int) (w : World) (hx : (Lit.int .u8 x).wf = true) : Calls Try.prog 5 #[.int .u8 x] w (TruthPost true w) := by
  have hx0 : 0 ≤ x := (bounds_u8 hx).1
  clear hx
  obtain ⟨k, hk, hk30⟩ : ∃ k : Nat, x.tmod 30 = (k : Int) ∧ k < 30 := ⟨(x.tmod 30).toNat, by rw [Int.tmod_eq_emod_of_nonneg hx0]; omega, by rw [Int.tmod_eq_emod_of_nonneg hx0]; omega⟩
  go_enter Try.func5, Try.ntmps5
  go_wp2
  go_loopw [3, 5] (fun s y wr => ∃ (i : Nat) (OA : Option Addr) (oc : Nat), i ≤ k ∧ s = .slice OA i oc ∧ y = .int .i64 i ∧ Hid (OwnS elO w.heap.size wr (.slice OA i oc) (opsC i)) ∧ Hid (Below w.heap.size w wr)) (fun _ y _ => k - (intOf y).toNat)
  case atStart => exact ⟨0, none, 0, Nat.zero_le _, rfl, rfl, owns_nil _ _, Below.refl _ _⟩
  case round =>
    obtain ⟨i, OA, oc, hi, rfl, rfl, O, K⟩ := hrel
    by_cases hlt : i < k
    · have hii : (i : Int) < (k : Int) := by omega
      have hds := dg_size i (by omega)
      have HF := Lib.hid (show (⟨#[102]⟩ : ByteArray) ++ Dg.bs (Dg.digits 10 1 i) = fN i from rfl)
      go_wp2_with fail
      refine (num_any i _ (by omega)).mono ?_
      rintro e w3 ⟨rfl, rfl⟩
      generalize Dg.bs (Dg.digits 10 1 i) = t at *
      have HX := Lib.hid (show (⟨⟨1, 1 + (i : Int), 0, 0, false, (⟨#[102]⟩ : ByteArray) ++ t, ⟨#[]⟩, []⟩, none, 0⟩ : Om) = omC i by rw [HF.out]; rfl)
      have hl30 : (opsC i).length + 1 ≤ 1000000 := by rw [opsC_len]; omega
      have HAd := Lib.hid (show OA = none ∨ ∃ g, OA = some ⟨g, 0, none⟩ from O.out.addr.imp id (fun ⟨g, hg, _⟩ => ⟨g, hg⟩))
      have HLn := Lib.hid (show (opsC i ++ [omC i]).length = i + 1 by rw [← opsC_succ, opsC_len])
      have hsz := K.out.size
      go_wp2_with (first | (with_reducible refine st_oneE tyO rfl (.tmp 21) rfl (⟨⟨1, 1 + (i : Int), 0, 0, false, (⟨#[102]⟩ : ByteArray) ++ t, ⟨#[]⟩, []⟩, none, 0⟩ : Om) rfl ?_; intro vb w4 hvb r4 k4; rw [HX.out] at r4; have R4 := Lib.hid r4; have K4 := Lib.hid k4; clear r4 k4 hvb) | (at_builtin; refine st_catE tyO rfl _ _ rfl w.heap.size (.slice OA i oc) (opsC i) rfl (O.out.on K4.out) (some ⟨vb, 0, none⟩) 1 1 [omC i] rfl (sl_one (E := elO) R4.out) hl30 (Nat.le_trans hsz K4.out.size) (opsC i ++ [omC i]) (i + 1) rfl HLn.out ?_; intro G g w5 q5 o5 s5; have Q5 := Lib.hid q5; have O5 := Lib.hid (own_only HAd.out o5); clear q5 o5 s5))
      have HN := Lib.hid (show OwnS elO w.heap.size w5 (.slice G (i + 1) g) (opsC (i + 1)) by rw [opsC_succ]; exact Q5.out)
      have hOA : ∀ d, OA = some ⟨d, 0, none⟩ → w.heap.size ≤ d := fun d hd => by
        rcases O.out.addr with h0 | ⟨y, hy, hB, _⟩
        · rw [h0] at hd; cases hd
        · rw [hy] at hd; injection hd with hd; injection hd with hd; omega
      have KN := Lib.hid (K.out.trans ((K4.out.mono hsz).trans (O5.out.below (Nat.le_trans hsz K4.out.size) hOA)))
      clear hOA
      go_roundw
      case rel => exact ⟨i + 1, _, _, by omega, rfl, by go_num, HN.out, KN.out⟩
      case measure => simp [intOf]; omega
    · have hik : i = k := by omega
      subst hik
      have hii : ¬ (i : Int) < (i : Int) := by omega
      have HC := Lib.hid (cn_all i (by omega))
      have HI := Lib.hid (opsC_in wr i (by omega))
      have HO := Lib.hid (show OpsIn wr OA i oc (opsC i) from ⟨O.out.sl', fun x hx => (HI.out x hx).1⟩)
      have K0 := Lib.hid K.out
      clear O
      go_wp2_with fail
      refine (all_any none 0 none 0 [] [] OA i oc (opsC i) 0 wr (im_nil wr) (by simp) (by simp) (fun d hd => by simp [ig] at hd) HO.out (fun x hx => (HI.out x hx).2) (by omega) true (by simp [good_nil, ig]) (allS (ig [] []) ((opsC i).map Om.o)) (fun _ => rfl) (fun h => by cases h)).mono ?_
      rintro e w1 ⟨D, d, D', d', M, Y, hi', he, him, k1⟩
      obtain rfl : e = .returned (.agg #[.slice D M.length d, .slice D' Y.length d']) := he
      have K1 := Lib.hid (K0.out.trans (k1.mono K0.out.size))
      have HG := Lib.hid (show GoodI (ig M Y) by rw [hi']; exact HC.out.good)
      have HM := Lib.hid (show M.length = min i 16 ∧ Y.length = min i 16 by
        have h1 : (ig M Y).N.length = min i 16 := by rw [hi']; exact HC.out.len
        have h2 : M.length = Y.length := by have := HG.out.leq; simpa [ig] using this
        have h3 : M.length = min i 16 := h1
        omega)
      obtain ⟨W2, hW2⟩ : ∃ W2, w1.alloc (.cells #[.slice D M.length d, .slice D' Y.length d'] 25) = W2 := ⟨_, rfl⟩
      have kk : Below w1.heap.size w1 W2 := by rw [← hW2]; exact (Below.refl _ _).alloc (Nat.le_refl _) _
      have K2 := Lib.hid (K1.out.trans (kk.mono K1.out.size))
      have B2 := Lib.hid (show IBox W2 w1.heap.size D M.length d D' Y.length d' by rw [← hW2]; exact ibox_new _ _ _ _ _ _ _)
      have I2 := Lib.hid (him.im.on kk)
      have HW2 := Lib.hid hW2
      clear hi' him k1 kk hW2
      go_upto_region 8 with fail
      rw [HW2.out]
      clear HW2
      obtain ⟨m, hm⟩ : ∃ m, M.length = m := ⟨_, rfl⟩
      obtain ⟨y, hy⟩ : ∃ y, Y.length = y := ⟨_, rfl⟩
      rw [hm, hy] at B2 I2 HM
      clear hm hy
      obtain rfl : m = y := by have := HM.out; omega
      have b0 := B2.out.c0; have b1 := B2.out.c1
      have hmd : ((m : Int) == min (i : Int) 16) = true := by
        have := HM.out.1
        rw [beq_iff_eq]
        omega
      clear hk hi hii hlt hk30
      go_wp2_with fail
      refine (mayi_any D m d D' m d' M Y W2 I2.out true (by simpa using HG.out)).mono ?_
      rintro e w3 ⟨rfl, k3⟩
      have K3 := Lib.hid (K2.out.trans (k3.mono K2.out.size))
      clear k3 b0 b1
      go_wp2_with fail
      refine (law_runs _).mono ?_
      rintro e w4 ⟨rfl, k4⟩
      have K4 := Lib.hid (K3.out.trans (k4.mono K3.out.size))
      go_wp2
      go_ret
      exact ⟨rfl, K4.out⟩
end Go.Proofs.Ytgaaieipeiekiaa

namespace Go.Proofs.Ytgaaieipeiekiaa
open Go.RowKit
set_option maxRecDepth 100000

/-- A text that answers. -/
def StrPost (P : ByteArray → Prop) (w : World) (e : Ending) (w' : World) : Prop := ∃ t, e = .returned (.string t) ∧ P t ∧ Below w.heap.size w w'

set_option maxHeartbeats 4000000 in
theorem right_any (s : Int) (w : World) (h0 : 0 ≤ s) : Calls Try.prog 23 #[.int .u8 s] w (StrPost (fun t => okName t = true) w) := by
  have hc : s.tmod 6 = 0 ∨ s.tmod 6 = 1 ∨ s.tmod 6 = 2 ∨ s.tmod 6 = 3 ∨ s.tmod 6 = 4 ∨ s.tmod 6 = 5 := by rw [Int.tmod_eq_emod_of_nonneg h0]; omega
  rcases hc with hr | hr | hr | hr | hr | hr <;>
  · go_enter Try.func23, Try.ntmps23
    go_wp2
    go_ret
    exact ⟨_, rfl, by decide +kernel, (Below.refl _ _).alloc (Nat.le_refl _) _⟩

set_option maxHeartbeats 4000000 in
theorem kname_any (s : Int) (w : World) (h0 : 0 ≤ s) : Calls Try.prog 25 #[.int .u8 s] w (StrPost (fun t => t.size ≤ 60) w) := by
  have hc : s.tmod 18 = 0 ∨ s.tmod 18 = 1 ∨ s.tmod 18 = 2 ∨ s.tmod 18 = 3 ∨ s.tmod 18 = 4 ∨ s.tmod 18 = 5 ∨ s.tmod 18 = 6 ∨ s.tmod 18 = 7 ∨ s.tmod 18 = 8 ∨ s.tmod 18 = 9 ∨ s.tmod 18 = 10 ∨ s.tmod 18 = 11 ∨ s.tmod 18 = 12 ∨ s.tmod 18 = 13 ∨ s.tmod 18 = 14 ∨ s.tmod 18 = 15 ∨ s.tmod 18 = 16 ∨ s.tmod 18 = 17 := by rw [Int.tmod_eq_emod_of_nonneg h0]; omega
  rcases hc with hr | hr | hr | hr | hr | hr | hr | hr | hr | hr | hr | hr | hr | hr | hr | hr | hr | hr <;>
  · go_enter Try.func25, Try.ntmps25
    go_wp2
    go_ret
    exact ⟨_, rfl, by decide +kernel, (Below.refl _ _).alloc (Nat.le_refl _) _⟩
end Go.Proofs.Ytgaaieipeiekiaa

namespace Go.Proofs.Ytgaaieipeiekiaa
open Go.RowKit
set_option maxRecDepth 100000

/-- Bytes of one's own. -/
def ByPost (n : Nat) (w : World) (e : Ending) (w' : World) : Prop := ∃ A c zs, e = .returned (.slice A n c) ∧ Nums .u8 w' A n c zs ∧ (∀ x ∈ zs, 0 ≤ x ∧ x ≤ 255) ∧ (∀ g o, A = some ⟨g, o, none⟩ → w.heap.size ≤ g) ∧ Below w.heap.size w w'
theorem by8_set (zs : List Int) (k : Nat) (v : Int) : (by8 zs).toArray.setIfInBounds k (.int .u8 v) = (by8 (zs.set k v)).toArray := by
  simp [by8]
/-- The bytes so far. -/
structure Bz (w wr : World) (g n : Nat) (zs : List Int) : Prop where
  row : Row wr g 5 (by8 zs).toArray
  len : zs.length = n
  byte : ∀ x ∈ zs, 0 ≤ x ∧ x ≤ 255
  below : Below w.heap.size w wr
  own : w.heap.size ≤ g
section
variable {w wr : World} {g n : Nat} {zs : List Int}
theorem Bz.cell (h : Bz w wr g n zs) (k : Nat) (hk : k < n) : wr.cell? ⟨g, k, none⟩ = some (.int .u8 (zs.getD k 0)) := by
  have := h.len
  rw [h.row.at, List.getElem?_toArray, by8, List.getElem?_map, List.getElem?_eq_getElem (by omega), List.getD_eq_getElem?_getD, List.getElem?_eq_getElem (by omega)]
  rfl
theorem Bz.set (h : Bz w wr g n zs) (k : Nat) (v : Int) (h0 : 0 ≤ v) (h1 : v ≤ 255) : Bz w (wr.setCell ⟨g, k, none⟩ (.int .u8 v)) g n (zs.set k v) := by
  refine ⟨?_, by rw [List.length_set]; exact h.len, fun x hx => ?_, h.below.setCell h.own _, h.own⟩
  · have := h.row.setv k (.int .u8 v)
    rwa [by8_set] at this
  · rcases List.mem_or_eq_of_mem_set hx with hx | rfl
    · exact h.byte x hx
    · exact ⟨h0, h1⟩
end

set_option maxHeartbeats 4000000 in
theorem bytes_any (s : Int) (n : Nat) (w : World) (h0 : 0 ≤ s) (h1 : s ≤ 255) (hn : n ≤ 1000) : Calls Try.prog 26 #[.int .u8 s, .int .i64 n] w (ByPost n w) := by
  go_enter Try.func26, Try.ntmps26
  go_wp2_with (refine st_makeb rfl _ _ rfl (n : Int) n rfl rfl rfl (by omega) ?_; intro g W hg hr hb)
  have H := Lib.hid (show Bz w W g n (List.replicate n 0) from ⟨hr, by simp, fun x hx => by rw [List.mem_replicate] at hx; omega, hb, hg⟩)
  clear hr hb hg
  go_wp2
  go_loopw [6] (fun i wr => ∃ (k : Nat) (zs : List Int), k ≤ n ∧ i = .int .i64 k ∧ Hid (Bz w wr g n zs)) (fun i _ => n - (intOf i).toNat)
  case atStart => exact ⟨0, _, Nat.zero_le _, rfl, H.out⟩
  case round =>
    obtain ⟨k, zs, hk, rfl, H⟩ := hrel
    by_cases hlt : k < n
    · have x0 := H.out.cell k hlt
      have x1 := H.out.row.free k
      have hki : (k : Int) < (n : Int) := by omega
      obtain ⟨q, hq⟩ : ∃ q : Bool, (((k : Int) / 8 + s) % 3 == 0) = q := ⟨_, rfl⟩
      cases q with
      | false =>
        go_wp2
        go_roundw
        case rel => exact ⟨k + 1, _, by omega, by go_num, H.out.set k _ (Int.emod_nonneg _ (by decide)) (by have := Int.emod_lt_of_pos ((wrap64 (s * 31 + (k : Int) * 7 + wrap64 ((k : Int) / 8 * s))).tmod 251) (show (0 : Int) < 256 by decide); omega)⟩
        case measure => simp [intOf]; omega
      | true =>
        go_wp2
        go_roundw
        case rel => exact ⟨k + 1, _, by omega, by go_num, (H.out.set k _ (Int.emod_nonneg _ (by decide)) (by have := Int.emod_lt_of_pos ((wrap64 (s * 31 + (k : Int) * 7 + wrap64 ((k : Int) / 8 * s))).tmod 251) (show (0 : Int) < 256 by decide); omega)).set k 0 (by decide) (by decide)⟩
        case measure => simp [intOf]; omega
    · have hkn : k = n := by omega
      have hki : ¬ (k : Int) < (n : Int) := by omega
      go_wp2
      go_ret
      have hr := H.out.row
      have hl := H.out.len
      exact ⟨_, _, zs, rfl, by have := nums_row hr (by rw [hl]; unfold maxLen; omega); rwa [hl] at this, H.out.byte, (fun g' o h => by injection h with h; injection h with h; subst h; exact H.out.own), H.out.below⟩
end Go.Proofs.Ytgaaieipeiekiaa

namespace Go.Proofs.Ytgaaieipeiekiaa
open Go.RowKit
set_option maxRecDepth 100000

/-- Of what blocks are made. -/
structure Bk where
  g : Int
  s : Int
deriving Inhabited
def elB : El Bk := ⟨89, 2, fun x => [.int .u8 x.g, .int .u8 x.s], fun _ => rfl, fun x v h => by simp at h; rcases h with rfl | rfl <;> rfl, by decide⟩
def Bk.ok (x : Bk) : Prop := (0 ≤ x.g ∧ x.g ≤ 255) ∧ (0 ≤ x.s ∧ x.s ≤ 255)
theorem Bks.at {w : World} {b o n c : Nat} {M : List Bk} (h : Sl elB w (some ⟨b, o, none⟩) n c M) (j : Nat) (hj : j < n) : w.cell? ⟨b, o + j * 2, none⟩ = some (.int .u8 (M.getD j default).g) ∧ w.cell? ⟨b, o + j * 2 + 1, none⟩ = some (.int .u8 (M.getD j default).s) := by
  obtain ⟨b', o', he, _, hc⟩ := h.cells (by omega)
  injection he with he; injection he with e1 e2; subst e1 e2
  exact ⟨hc j hj 0 _ rfl, hc j hj 1 _ rfl⟩
theorem XRow.putb {w : World} {b : Nat} {no : Int} {bs : List Int} (h : XRow w b ⟨no, bs⟩) (k : Nat) (v : Int) (h0 : 0 ≤ v) (h1 : v ≤ 255) : XRow (w.setCell ⟨b, 1 + k, none⟩ (.int .u8 v)) b ⟨no, bs.set k v⟩ := by
  refine ⟨?_, by show (bs.set k v).length = 8; rw [List.length_set]; exact h.2.1, fun x hx => ?_⟩
  · have := h.1.setv (1 + k) (.int .u8 v)
    have hx : (ecl ⟨no, bs⟩).toArray.setIfInBounds (1 + k) (.int .u8 v) = (ecl ⟨no, bs.set k v⟩).toArray := by
      simp [ecl, Nat.add_comm 1 k, List.map_set]
    rwa [hx] at this
  · rcases List.mem_or_eq_of_mem_set hx with hx | rfl
    · exact h.2.2 x hx
    · exact ⟨h0, h1⟩
/-- A made content. -/
def KcPost (w : World) (e : Ending) (w' : World) : Prop := ∃ s A c L, e = .returned (ct s A L.length c) ∧ may s L = true ∧ L.length ≤ 30 ∧ Mut w.heap.size w' A L.length c L ∧ Below w.heap.size w w'
/-- The content so far. -/
structure Cz (w wr : World) (r no : Int) (i : Nat) (A : Option Addr) (c : Nat) (L : List Ex) : Prop where
  box : Box wr (w.heap.size + 1) r A L.length c
  res : Box wr w.heap.size 0 none 0 0
  own : Own (w.heap.size + 2) wr (.slice A L.length c) L
  good : Good r L
  lt : ∀ e ∈ L, e.no ≤ no
  len : L.length = i
  below : Below w.heap.size w wr
  size : w.heap.size + 2 ≤ wr.heap.size
section
variable {w wr w2 : World} {r no : Int} {i : Nat} {A : Option Addr} {c : Nat} {L : List Ex}
theorem Cz.on (h : Cz w wr r no i A c L) (k : Below wr.heap.size wr w2) : Cz w w2 r no i A c L :=
  ⟨h.box.on k, h.res.on k, h.own.on k, h.good, h.lt, h.len, h.below.trans (k.mono h.below.size), Nat.le_trans h.size k.size⟩
theorem good_push (h : Good r L) (hl : ∀ e ∈ L, e.no ≤ no) {no' : Int} (hn : no < no') (h0 : 0 ≤ no') (h1 : no' < 137438953472) {bs : List Int} (hb : ∀ j : Nat, j < 8 → r ≤ no' * 8 + (j : Int) → bs.getD j 0 = 0) : Good r (L ++ [⟨no', bs⟩]) := by
  refine ⟨h.s0, h.s1, ?_, fun e he => ?_, fun e he => ?_⟩
  · unfold Up
    rw [List.pairwise_append]
    refine ⟨h.up, List.pairwise_singleton _ _, fun a ha b hb => ?_⟩
    rw [List.mem_singleton] at hb; subst hb
    have := hl a ha
    show a.no < no'
    omega
  · rcases List.mem_append.1 he with he | he
    · exact h.rng e he
    · rw [List.mem_singleton] at he; subst he; exact ⟨h0, h1⟩
  · rcases List.mem_append.1 he with he | he
    · exact h.bare e he
    · rw [List.mem_singleton] at he; subst he; exact bare_of hb
theorem Cz.push (h : Cz w wr r no i A c L) {no' : Int} (hn : no < no') (h0 : 0 ≤ no') (h1 : no' < 137438953472) {bs : List Int} (hb : ∀ j : Nat, j < 8 → r ≤ no' * 8 + (j : Int) → bs.getD j 0 = 0) {w5 : World} {A5 : Option Addr} {N5 d5 : Nat} (q : Own (w.heap.size + 2) w5 (.slice A5 N5 d5) (L ++ [(⟨no', bs⟩ : Ex)])) (k : Below (w.heap.size + 2) wr w5) :
    Cz w (w5.setCell ⟨w.heap.size + 1, 1, none⟩ (.slice A5 N5 d5)) r no' (i + 1) A5 d5 (L ++ [(⟨no', bs⟩ : Ex)]) := by
  obtain ⟨A6, c6, hv, hm⟩ := q.mut
  injection hv with e1 e2 e3
  subst e1 e2 e3
  have hb1 : Box w5 (w.heap.size + 1) r A L.length c := (k.block _ (by omega)).trans h.box
  have hb0 : Box w5 w.heap.size 0 none 0 0 := (k.block _ (by omega)).trans h.res
  have ho := (Only.refl (fun d => d = w.heap.size + 1) w5).setCell ⟨w.heap.size + 1, 1, none⟩ (fun _ => rfl) (.slice A5 (L ++ [(⟨no', bs⟩ : Ex)]).length d5)
  refine ⟨Row.setv hb1 1 _, Row.past hb0 _ _ _ (by omega), ?_, good_push h.good h.lt hn h0 h1 hb, fun e he => ?_, by rw [List.length_append, h.len]; rfl, (h.below.trans (k.mono (by omega))).setCell (Nat.le_add_right _ _) _, ?_⟩
  · obtain ⟨hl, hh⟩ := q.row
    rcases hh with ⟨he, hz⟩ | ⟨g, cap, cur, he, hB, hg, hr⟩
    · exact ⟨⟨hl, .inl ⟨he, hz⟩⟩, q.ok⟩
    · refine ⟨⟨hl, .inr ⟨g, cap, cur, he, hB, ?_, hr⟩⟩, q.ok⟩
      exact (ho.block g (Array.getElem?_eq_some_iff.1 hg).1 (by omega)).trans hg
  · rcases List.mem_append.1 he with he | he
    · have := h.lt e he; omega
    · rw [List.mem_singleton] at he; subst he; exact Int.le_refl _
  · have := k.size; have := h.size
    simp [World.setCell]; omega
end

set_option maxHeartbeats 8000000 in
theorem content_any (A : Option Addr) (n c : Nat) (M : List Bk) (t : Int) (w : World) (h : Sl elB w A n c M) (hM : ∀ x ∈ M, x.ok) (h0 : 0 ≤ t) : Calls Try.prog 24 #[.slice A n c, .int .u16 t] w (KcPost w) := by
  obtain ⟨r, hr, r0, r1⟩ : ∃ r : Int, t.tmod 500 = r ∧ 0 ≤ r ∧ r < 500 := ⟨_, rfl, by rw [Int.tmod_eq_emod_of_nonneg h0]; omega, by rw [Int.tmod_eq_emod_of_nonneg h0]; omega⟩
  have hn := h.max
  have HMo := Lib.hid hM
  obtain ⟨W, hW⟩ : ∃ W, (w.alloc (.cells #[.int .i64 0, .slice none 0 0] 34)).alloc (.cells #[.int .i64 r, .slice none 0 0] 34) = W := ⟨_, rfl⟩
  have KW := Lib.hid (show Below w.heap.size w W by rw [← hW]; exact ((Below.refl _ _).alloc (Nat.le_refl _) _).alloc (by simp) _)
  have H := Lib.hid h
  have C0 := Lib.hid (show Cz w W r (-1) 0 none 0 [] by
    refine ⟨?_, ?_, own_nil _ _, ⟨r0, by omega, List.Pairwise.nil, by simp, by simp⟩, by simp, rfl, KW.out, by rw [← hW]; simp⟩
    · rw [← hW]
      have := box_new (w.alloc (.cells #[.int .i64 0, .slice none 0 0] 34)) r none 0 0
      simpa using this
    · rw [← hW]; exact (box_new w 0 none 0 0).on ((Below.refl _ _).alloc (Nat.le_refl _) _))
  have HW := Lib.hid hW
  clear h hM KW hW
  go_enter Try.func24, Try.ntmps24
  go_upto_region 2 with fail
  rw [HW.out]
  go_wp2
  go_loopw [6, 7] (fun x y wr => ∃ (i : Nat) (no : Int) (A : Option Addr) (c : Nat) (L : List Ex), i ≤ n ∧ i ≤ 30 ∧ -1 ≤ no ∧ no ≤ 3 * (i : Int) ∧ x = .int .i64 no ∧ y = .int .i64 i ∧ Hid (Cz w wr r no i A c L)) (fun _ y _ => n - (intOf y).toNat)
  case atStart => exact ⟨0, -1, none, 0, [], Nat.zero_le _, Nat.zero_le _, Int.le_refl _, by omega, rfl, rfl, C0.out⟩
  case round =>
    obtain ⟨i, no, F, f, L, hi, hi30, hno, hno3, rfl, rfl, C⟩ := hrel
    clear C0
    by_cases hlt : i < n
    · by_cases h30 : i < 30
      · obtain ⟨b, o, rfl, hbl, _⟩ := H.out.cells (by omega)
        have HX := Lib.hid (fun (v : World) (k : Below wr.heap.size wr v) => Bks.at (H.out.on (C.out.below.trans (k.mono C.out.below.size))) i hlt)
        have hok := HMo.out _ (H.out.mem i hlt)
        obtain ⟨x, hx⟩ : ∃ x, M.getD i default = x := ⟨_, rfl⟩
        rw [hx] at HX hok
        clear hx
        obtain ⟨xg, xs⟩ := x
        obtain ⟨⟨g0, g1⟩, s0, s1⟩ := hok
        simp only at g0 g1 s0 s1
        obtain ⟨x0, _⟩ := HX.out _ (Below.refl _ _)
        simp only at x0
        obtain ⟨y, hy, y0, y1⟩ : ∃ y : Int, xg.tmod 3 = y ∧ 0 ≤ y ∧ y < 3 := ⟨_, rfl, by rw [Int.tmod_eq_emod_of_nonneg g0]; omega, by rw [Int.tmod_eq_emod_of_nonneg g0]; omega⟩
        have hin : (i : Int) < (n : Int) := by omega
        have h30i : (i : Int) < 30 := by omega
        clear h30
        obtain ⟨no', hno', q0, q1, q2⟩ : ∃ no' : Int, no + 1 + y = no' ∧ 0 ≤ no' ∧ no < no' ∧ no' ≤ 3 * ((i + 1 : Nat) : Int) := ⟨_, rfl, by omega, by omega, by omega⟩
        have HOK := Lib.hid (ok_nul no')
        go_wp2_with (first | (refine st_build rfl _ rfl no' rfl ?_) | (refine st_allocx rfl rfl ?_; intro b1 w3 hb1 x1' k3; have X1 := Lib.hid x1'; have K3 := Lib.hid k3; clear x1' k3) | (refine st_storev rfl _ _ rfl b1 rfl (⟨no', nul8⟩ : Ex) rfl HOK.out _ X1.out ?_; intro w4 x2 o2 s2; have X2 := Lib.hid x2; have K4 := Lib.hid (K3.out.trans (o2.below K3.out.size (fun d hd => by omega))); clear x2 o2 s2; obtain ⟨_, x4⟩ := HX.out _ K4.out; simp only at x4))
        refine (bytes_any xs 8 w4 s0 s1 (by omega)).mono ?_
        rintro e w5 ⟨B, cb, zs, rfl, hz, hzb, hzn, k5⟩
        have X5 := Lib.hid (X2.out.on k5); have K5 := Lib.hid (K4.out.trans (k5.mono K4.out.size))
        have C5 := Lib.hid (C.out.on K5.out)
        have HB1 := Lib.hid (show b1 ≠ w.heap.size + 1 ∧ b1 < w4.heap.size by have := C.out.size; have := X2.out.lt; exact ⟨by omega, this⟩)
        obtain ⟨zb, zo, rfl, hzl, hzc⟩ := hz.cells (by omega)
        have HZ := Lib.hid hz; have HZb := Lib.hid hzb
        have hzz := hzn zb zo rfl
        have HZn := Lib.hid (show zb ≠ b1 by have := HB1.out; omega)
        have HC6 := Lib.hid (fun (v : World) (k : Only (fun d => d = b1) w5 v) => C.out.on (K5.out.trans (k.below K5.out.size (fun d hd => by subst hd; exact hb1))))
        have HZx := Lib.hid (fun (v : World) (k : Only (fun d => d = b1) w5 v) (j : Nat) (hj : j < 8) => (k.cell (p := ⟨zb, zo + j, none⟩) hzl HZn.out).trans (hzc j hj))
        clear hz hzb hzc k5 x4 x0 X2 X1 K3 K4 hzn hzz
        go_wp2
        go_loopw [10] (fun z w6 => ∃ (k : Nat) (bs : List Int), k ≤ 8 ∧ z = .int .i64 k ∧ Hid (XRow w6 b1 ⟨no', bs⟩ ∧ (∀ j : Nat, r ≤ no' * 8 + (j : Int) → bs.getD j 0 = 0) ∧ Only (fun d => d = b1) w5 w6)) (fun z _ => 8 - (intOf z).toNat)
        case atStart => exact ⟨0, nul8, Nat.zero_le _, rfl, X5.out, fun j _ => by
          rw [List.getD_eq_getElem?_getD]
          rcases Nat.lt_or_ge j 8 with h | h
          · have : j = 0 ∨ j = 1 ∨ j = 2 ∨ j = 3 ∨ j = 4 ∨ j = 5 ∨ j = 6 ∨ j = 7 := by omega
            rcases this with rfl | rfl | rfl | rfl | rfl | rfl | rfl | rfl <;> rfl
          · rw [List.getElem?_eq_none (by simpa [nul8] using h)]; rfl, Only.refl _ _⟩
        case round =>
          obtain ⟨k, bs, hk8, rfl, HK⟩ := hrel
          have c0 := (HC6.out _ HK.out.2.2).box.c0
          by_cases hk : k < 8
          · have z0 := HZx.out _ HK.out.2.2 k hk
            have y0' := HK.out.1.byte k hk
            have y1' := HK.out.1.free (1 + k)
            have hk8i : (k : Int) < 8 := by omega
            have hbk := HZb.out (zs.getD k 0) (by rw [List.getD_eq_getElem?_getD, List.getElem?_eq_getElem (by have := HZ.out.len; omega)]; exact List.getElem_mem _)
            obtain ⟨v, hv⟩ : ∃ v, zs.getD k 0 = v := ⟨_, rfl⟩
            rw [hv] at z0 hbk
            clear hv
            by_cases hp : no' * 8 + (k : Int) < r
            · have HN := Lib.hid (And.intro (HK.out.1.putb k v hbk.1 hbk.2) (And.intro (fun (j : Nat) (hj : r ≤ no' * 8 + (j : Int)) => (show (bs.set k v).getD j 0 = 0 by rw [List.getD_eq_getElem?_getD, List.getElem?_set_ne (by omega), ← List.getD_eq_getElem?_getD]; exact HK.out.2.1 j hj)) (HK.out.2.2.setCell ⟨b1, 1 + k, none⟩ (fun _ => rfl) (.int .u8 v))))
              go_wp2
              go_roundw
              case rel => exact ⟨k + 1, _, by omega, by go_num, HN.out⟩
              case measure => simp [intOf]; omega
            · go_wp2
              go_roundw
              case rel => exact ⟨k + 1, _, by omega, by go_num, HK.out⟩
              case measure => simp [intOf]; omega
          · have hk8i : ¬ (k : Int) < 8 := by omega
            have C7 := Lib.hid (HC6.out _ HK.out.2.2)
            have HE := Lib.hid HK.out.1.2
            have HR := Lib.hid HK.out.1.range
            have HZr := Lib.hid HK.out.2.1
            have hL := C7.out.len
            have hL30 : L.length + 1 ≤ 1000000 := by omega
            have hs7 := C7.out.size
            have HL := Lib.hid hL
            have c1 := C7.out.box.c1
            clear hL
            go_wp2_with (first | (refine st_loadx rfl _ rfl b1 0 rfl (⟨no', bs⟩ : Ex) HR.out HE.out ?_) | (refine st_one rfl _ rfl (⟨no', bs⟩ : Ex) rfl HE.out ?_; intro b7 w7 hb7 r7 k7; have E7 := Lib.hid (exts_one r7 HE.out); have K7 := Lib.hid k7; clear r7 k7) | (at_builtin; refine st_cat rfl _ _ rfl (w.heap.size + 2) (.slice F L.length f) L rfl (C7.out.own.on K7.out) _ _ _ [(⟨no', bs⟩ : Ex)] rfl E7.out hL30 (Nat.le_trans hs7 K7.out.size) ?_; intro v8 w8 q8 k8; obtain ⟨A8, d8, N8, hv8⟩ : ∃ A8 d8 N8, v8 = Value.slice A8 N8 d8 := (by obtain ⟨A8, d8, hv8, _⟩ := q8.mut; exact ⟨_, _, _, hv8⟩); subst hv8; have Q8 := Lib.hid q8; have K8 := Lib.hid ((K7.out.mono hs7).trans k8); clear q8 k8; have HB8 := Lib.hid (show Box w8 (w.heap.size + 1) r F L.length f from (K8.out.block _ (by omega)).trans C7.out.box); clear c1 c0; have c0 := HB8.out.c0; have c1 := HB8.out.c1; have f1 := HB8.out.f1))
            have HN := Lib.hid (C7.out.push q1 q0 (by omega) (fun j _ => HZr.out j) Q8.out K8.out)
            go_roundw
            case rel => exact ⟨i + 1, no', _, _, _, by omega, by omega, by omega, q2, rfl, by go_num, HN.out⟩
            case measure => simp [intOf]; omega
      · have h30i : ¬ (i : Int) < 30 := by omega
        have hin : (i : Int) < (n : Int) := by omega
        have c0 := C.out.box.c0; have c1 := C.out.box.c1; have d0 := C.out.res.c0; have d1 := C.out.res.c1; have e0 := C.out.res.f0; have e1 := C.out.res.f1
        go_wp2
        have X := C.out.res.put r F L.length f
        obtain ⟨A6, c6, hv, hm⟩ := C.out.own.mut
        injection hv with v1 v2 v3; subst v1 v3
        exact res_box1 rfl w.heap.size _ _ _ _ rfl X rfl ⟨r, F, f, L, rfl, (may_iff _ _).2 C.out.good, by have := C.out.len; omega, hm.only (only_put _ _ _ _) (fun g hg hd => by omega) (by omega), below_put C.out.below _ (Nat.le_refl _) _ _⟩
    · have hin : ¬ (i : Int) < (n : Int) := by omega
      have c0 := C.out.box.c0; have c1 := C.out.box.c1; have d0 := C.out.res.c0; have d1 := C.out.res.c1; have e0 := C.out.res.f0; have e1 := C.out.res.f1
      go_wp2
      have X := C.out.res.put r F L.length f
      obtain ⟨A6, c6, hv, hm⟩ := C.out.own.mut
      injection hv with v1 v2 v3; subst v1 v3
      exact res_box1 rfl w.heap.size _ _ _ _ rfl X rfl ⟨r, F, f, L, rfl, (may_iff _ _).2 C.out.good, by have := C.out.len; omega, hm.only (only_put _ _ _ _) (fun g hg hd => by omega) (by omega), below_put C.out.below _ (Nat.le_refl _) _ _⟩
end Go.Proofs.Ytgaaieipeiekiaa

namespace Go.Proofs.Ytgaaieipeiekiaa
open Go.RowKit

/-- A world that only grew out of w. -/
structure Wb (w : World) where
  v : World
  k : Below w.heap.size w v
instance {w : World} : Inhabited (Wb w) := ⟨⟨w, Below.refl _ _⟩⟩
instance {w : World} : Nonempty (Wb w) := ⟨default⟩
theorem wp_region_grew {P : Program} {id : Nat} {Q : Exit → Act → World → Prop} {a : Act} {w : World} {l : List Oper} (hm : P.follows .mixedOrders = true) (hB : Region.lexB .any l.toArray = true)
    (h : wpQuiet P l.toArray (fun w' => ∃ u : Wb w, w' = u.v) (fun a' => ∀ w', (∃ u : Wb w, w' = u.v) → Q .normal a' w') l a) : (Code.region id l.toArray true).wp P Q a w :=
  wp_region_quiet (C := fun w' => ∃ u : Wb w, w' = u.v) hm hB ⟨⟨w.drew, (Below.refl _ _).drew⟩, rfl⟩ (by simpa using h)
section
variable {P : Program} {f : FuncId} {args : Array Value} {w : World} {u : Wb w} {v : Value}
theorem grew_same (h : Calls P f args u.v fun e w' => e = .returned v ∧ u.v = w') : Calls P f args u.v fun e w'' => e = .returned v ∧ ∃ m : Wb w, w'' = m.v :=
  h.mono fun _ _ ⟨h1, h2⟩ => ⟨h1, u, h2.symm⟩
theorem grew_num {k : Int} (h : Calls P f args u.v (NumPost k u.v)) : Calls P f args u.v fun e w'' => e = .returned (.int .i64 k) ∧ ∃ m : Wb w, w'' = m.v :=
  h.mono fun _ _ ⟨h1, h2⟩ => ⟨h1, ⟨_, u.k.trans (h2.mono u.k.size)⟩, rfl⟩
theorem grew_truth {z : Bool} (h : Calls P f args u.v (TruthPost z u.v)) : Calls P f args u.v fun e w'' => e = .returned (.bool z) ∧ ∃ m : Wb w, w'' = m.v :=
  h.mono fun _ _ ⟨h1, h2⟩ => ⟨h1, ⟨_, u.k.trans (h2.mono u.k.size)⟩, rfl⟩
end
end Go.Proofs.Ytgaaieipeiekiaa

namespace Go.Proofs.Ytgaaieipeiekiaa
open Go.RowKit

/-- A world that changed in some blocks alone. -/
structure Wo (w : World) (D : Nat → Prop) where
  v : World
  k : Only D w v
instance {w : World} {D : Nat → Prop} : Inhabited (Wo w D) := ⟨⟨w, Only.refl _ _⟩⟩
instance {w : World} {D : Nat → Prop} : Nonempty (Wo w D) := ⟨default⟩
/-- Operations that hand on a value. -/
def isLook : Op → Bool
  | .move _ | .load _ _ | .fieldAddr _ _ _ | .indexAddr _ _ _ | .slice _ _ _ _ _ | .binOp _ _ _ _ _ | .nilCheck _ | .convert _ _ _ => true
  | _ => false
theorem run_val {P : Program} {w : World} {s : Sem Value} {n : Go.Next} {w' : World} (h : (do pure (Go.Next.value (← s)) : Sem Go.Next).run P w = .ok n w') : ∃ u, n = .value u := by
  simp at h
  generalize s.run P w = r at h
  cases r with
  | ok u w1 => simp at h; exact ⟨u, h.1.symm⟩
  | halt x w1 => simp at h
theorem look_val {P : Program} {w : World} {o : Oper} {e : Operand → Value} {n : Go.Next} {w' : World} (hl : isLook o.op = true) (h : (execOp e o).run P w = .ok n w') : ∃ u, n = .value u := by
  unfold execOp at h
  cases ho : o.op <;> rw [ho] at hl h <;> simp only [isLook, Bool.false_eq_true] at hl <;> try exact run_val h
  · simp at h; exact ⟨_, h.1.symm⟩
  · dsimp only at h
    split at h
    · simp [runtimePanic] at h
    · simp [runtimePanic] at h
    · simp [runtimePanic] at h
    · split at h
      · simp [runtimePanic] at h
      · simp [unsupported] at h
        revert h
        generalize Sem.run P _ w = r
        cases r with
        | ok b w1 =>
          simp only [Result.andThen_ok]
          split
          · intro h; injection h with h _; exact ⟨_, h.symm⟩
          · intro h; cases h
        | halt x w1 => intro h; cases h
      · simp at h; exact ⟨_, h.1.symm⟩
    · simp at h; exact ⟨_, h.1.symm⟩

theorem wpQuiet_imp {P : Program} {ops : Array Oper} {C : World → Prop} {Q R : Act → Prop} (hQ : ∀ a, Q a → R a) : ∀ (l : List Oper) (a : Act), wpQuiet P ops C Q l a → wpQuiet P ops C R l a
  | [], _, h => hQ _ h
  | o :: l, a, h => by
    simp only [wpQuiet] at h ⊢
    split
    · rename_i hw
      rw [if_pos hw] at h
      obtain ⟨v, h1, h2⟩ := h
      exact ⟨v, h1, wpQuiet_imp hQ l _ h2⟩
    · rename_i hw
      rw [if_neg hw] at h
      exact wpQuiet_imp hQ l _ h
section
variable {P : Program} {ops : Array Oper} {Q : Exit → Act → World → Prop} {S : World → Prop} {md : Region.Mode} {m : Nat}
/-- Whatever order is picked, and S holds behind every operation till number m has come. -/
def wpAnyM (P : Program) (md : Region.Mode) (ops : Array Oper) (Q : Exit → Act → World → Prop) (S : World → Prop) (m : Nat) : Nat → Array Bool → Act → World → Prop
  | 0, listed, a, w => Region.ready md ops listed = [] ∧ Q .normal a w
  | fuel + 1, listed, a, w =>
    (Region.ready md ops listed = [] → Q .normal a w) ∧
    ∀ i ∈ Region.ready md ops listed, wpOp P ops Q i (fun a' w' => ((listed.setIfInBounds i true).getD m true = false → S w') ∧ wpAnyM P md ops Q S m fuel (listed.setIfInBounds i true) a' w') a w
theorem any_of_m : ∀ (fuel : Nat) (listed : Array Bool) (a : Act) (w : World), wpAnyM P md ops Q S m fuel listed a w → wpAny P md ops Q fuel listed a w
  | 0, _, _, _, h => h
  | fuel + 1, _, _, _, h => ⟨h.1, fun i hi => wpOp_mono (fun a' w' h' => any_of_m fuel _ a' w' h'.2) (h.2 i hi)⟩
theorem set_other {L : Array Bool} {i m : Nat} (h : i ≠ m) : (L.setIfInBounds i true).getD m true = L.getD m true := getD_set_ne true h
/-- One that looks is taken first. -/
theorem m_first {i : Nat} {oi om : Oper} {v : Value} (hi : ops[i]? = some oi) (hsel : ∀ (j : Nat) (o : Oper) cs b, ops[j]? = some o → o.op ≠ .select cs b)
    (hQ : ∀ c a w, Q (.panic c) (a.put oi.dst v) w → Q (.panic c) a w) (him : i ≠ m) (hom : ops[m]? = some om) (hw : ∃ e ∈ om.after, Region.binds md e = true ∧ e.on = i) :
    ∀ (fuel : Nat) (listed : Array Bool) (a : Act) (w : World),
      (∀ j oj, ops[j]? = some oj → j ≠ i → listed.getD j true = false → (∀ e ∈ oj.after, Region.binds md e = true → e.on ≠ i) → oi.apart ops oj = true) →
      i ∈ Region.ready md ops listed → listed.getD m true = false → YieldsIf P ops S oi v a → S w →
      wpAnyM P md ops Q S m fuel (listed.setIfInBounds i true) (a.put oi.dst v) w → wpAnyM P md ops Q S m (fuel + 1) listed a w := by
  intro fuel
  induction fuel with
  | zero =>
    intro listed a w _ hr _ hy hS H
    refine ⟨fun h => (by rw [h] at hr; cases hr), fun j hj => ?_⟩
    rcases Decidable.em (j = i) with rfl | hji
    · exact hy.wpOp hi hS ⟨fun _ => hS, H⟩
    · have := ready_mono hj hji
      rw [H.1] at this; cases this
  | succ fuel ih =>
    intro listed a w hfree hr hm hy hS H
    refine ⟨fun h => (by rw [h] at hr; cases hr), fun j hj => ?_⟩
    rcases Decidable.em (j = i) with rfl | hji
    · exact hy.wpOp hi hS ⟨fun _ => hS, H⟩
    obtain ⟨hun, oj, hoj, hall⟩ := mem_ready.1 hj
    -- j waits for none that is left, so not for i
    have hnot : ∀ e ∈ oj.after, Region.binds md e = true → e.on ≠ i := fun e he hb hq => by
      have h1 := hall e he hb
      have h0 := (mem_ready.1 hr).1
      rw [hq] at h1
      rcases Nat.lt_or_ge i listed.size with hlt | hge
      · simp [hlt] at h0 h1; rw [h0] at h1; cases h1
      · simp [Array.getElem?_eq_none hge] at h1
    have hjm : j ≠ m := fun hq => by
      subst hq
      rw [hoj] at hom; injection hom with hom; subst hom
      obtain ⟨e, he, hb, hon⟩ := hw
      exact hnot e he hb hon
    have h1 := H.2 j (ready_mono hj hji)
    have h2 := wpOp_putIf hoj (hfree j oj hoj hji hun hnot) (fun cs b => hsel i oi cs b hi) (fun cs b => hsel j oj cs b hoj) hQ hy h1
    refine wpOp_mono (fun a' w' h3 => ?_) h2
    have hm2 : (listed.setIfInBounds j true).getD m true = false := by rw [set_other hjm]; exact hm
    have hS' : S w' := h3.2.1 (by rw [set_other hjm, set_other him]; exact hm)
    refine ⟨fun _ => hS', ih _ a' w' (fun k ok hk hki hku hkn => ?_) (ready_mono hr (Ne.symm hji)) hm2 h3.1 hS' ?_⟩
    · refine hfree k ok hk hki ?_ hkn
      rcases Decidable.em (j = k) with rfl | hjk
      · exact hun
      · rwa [getD_set_ne true hjk] at hku
    · rw [Array.setIfInBounds_comm _ _ hji]; exact h3.2.2
/-- The side conditions, as Bools: the looks, each free and awaited by number m; the rest, one behind the other. -/
def headB (md : Region.Mode) (ops : Array Oper) (m : Nat) (om : Oper) : List Nat → Array Bool → Bool
  | [], _ => true
  | i :: r, L => decide (i ≠ m) && (Region.ready md ops L).contains i && Region.free md ops L i && (om.after.any fun e => Region.binds md e && e.on == i) && ((ops[i]?).map fun o => isLook o.op).getD false && headB md ops m om r (L.setIfInBounds i true)
def setAll : List Nat → Array Bool → Array Bool
  | [], L => L
  | i :: r, L => setAll r (L.setIfInBounds i true)
def tailB (md : Region.Mode) (ops : Array Oper) (m g : Nat) : List Nat → Array Bool → Bool
  | [], L => Region.seqB md ops g m L
  | q :: r, L => decide (Region.ready md ops L = [q]) && tailB md ops m g r (L.setIfInBounds q true)
/-- What is asked of the rest. -/
def tailPost (Q : Exit → Act → World → Prop) (K : Act → World → Prop) : Exit → Act → World → Prop
  | .normal, a, w => K a w
  | e, a, w => Q e a w
def wpTail (P : Program) (ops : Array Oper) (Q : Exit → Act → World → Prop) (S : World → Prop) (last : List Oper) : List Oper → Act → World → Prop
  | [], a, w => wpList P ops Q last a w
  | o :: r, a, w => wpList P ops (tailPost Q fun a' w' => S w' ∧ wpTail P ops Q S last r a' w') [o] a w
theorem op_one {K : Act → World → Prop} {i : Nat} {o : Oper} {a : Act} {w : World} (hi : ops[i]? = some o) (h : wpList P ops (tailPost Q K) [o] a w) : wpOp P ops Q i K a w := by
  unfold wpOp
  simp only [hi]
  simp only [wpList] at h
  split
  · rename_i hw
    rw [if_pos hw] at h
    rcases h with h | ⟨h1, h2⟩
    · refine .inl ?_
      unfold Oper.wp at *
      generalize (execOp a.eval o).run P w = r at *
      cases r with
      | ok n w' =>
        cases n <;> simp only [Oper.upon, tailPost] at h ⊢
        case enter f args =>
          refine Calls.mono h fun e w'' he => ?_
          cases e with
          | returned u => exact he
          | panicked c => exact he
          | outgrown => exact he
        all_goals exact h
      | halt x w' => cases x <;> simp only [Oper.upon, tailPost] at h ⊢ <;> exact h
    · exact .inr ⟨h1, h2⟩
  · rename_i hw
    rw [if_neg hw] at h
    exact h
theorem tail_cons {S : World → Prop} {last r : List Oper} {o : Oper} {a : Act} {w : World} (h : wpList P ops (tailPost Q fun a' w' => S w' ∧ wpTail P ops Q S last r a' w') [o] a w) : wpTail P ops Q S last (o :: r) a w := h
theorem tail_nil {S : World → Prop} {last : List Oper} {a : Act} {w : World} (h : wpList P ops Q last a w) : wpTail P ops Q S last [] a w := h
theorem tail_done {K : Act → World → Prop} {a : Act} {w : World} (h : K a w) : tailPost Q K .normal a w := h
theorem list_post {K : Act → World → Prop} : ∀ (l : List Oper) (a : Act) (w : World), wpList P ops (tailPost Q K) l a w → (∀ a w, K a w → Q .normal a w) → wpList P ops Q l a w
  | [], _, _, h, hK => hK _ _ h
  | o :: l, a, w, h, hK => by
    simp only [wpList] at h ⊢
    split
    · rename_i hw
      rw [if_pos hw] at h
      rcases h with h | ⟨h1, h2⟩
      · refine .inl ?_
        unfold Oper.wp at *
        generalize (execOp a.eval o).run P w = r at *
        cases r with
        | ok n w' =>
          cases n <;> simp only [Oper.upon, tailPost] at h ⊢
          case enter f args =>
            refine Calls.mono h fun e w'' he => ?_
            cases e with
            | returned u => exact list_post l _ _ he hK
            | panicked c => exact he
            | outgrown => exact he
          case value u => exact list_post l _ _ h hK
          case skip => exact list_post l _ _ h hK
          case defer d => exact list_post l _ _ h hK
          case row row args => exact Rows.mono h fun u w'' he => list_post l _ _ he hK
        | halt x w' => cases x <;> simp only [Oper.upon, tailPost] at h ⊢ <;> exact h
      · exact .inr ⟨h1, h2⟩
    · rename_i hw
      rw [if_neg hw] at h
      exact list_post l _ _ h hK
theorem tail_end {S : World → Prop} {last : List Oper} {a : Act} {w : World} (h : wpList P ops (tailPost (NoPanic Q) fun a' w' => Q .normal a' w') last a w) : wpTail P ops (NoPanic Q) S last [] a w := list_post last a w h (fun _ _ h => h)
theorem getD_self (L : Array Bool) (m : Nat) : (L.setIfInBounds m true).getD m true = true := by
  rcases Nat.lt_or_ge m L.size with h | h
  · simp [h]
  · simp [h]
theorem m_seq : ∀ (r : List Oper) (k : Nat) (L : Array Bool) (a : Act) (w : World), (∀ j, r[j]? = ops[k + j]?) → Region.seqB md ops r.length k L = true → (k = m ∨ L.getD m true = true) → wpList P ops Q r a w → wpAnyM P md ops Q S m r.length L a w
  | [], _, _, _, _, _, hB, _, h => ⟨by simpa [Region.seqB] using hB, h⟩
  | o :: r, k, L, a, w, hl, hB, hk, h => by
    have h0 : ops[k]? = some o := by simpa using (hl 0).symm
    simp only [List.length_cons, Region.seqB, Bool.and_eq_true, decide_eq_true_eq] at hB
    refine ⟨fun h1 => (by rw [hB.1] at h1; cases h1), fun i hi => ?_⟩
    rw [hB.1] at hi
    have hik : i = k := by simpa using hi
    subst hik
    have hm : (L.setIfInBounds i true).getD m true = true := by
      rcases Decidable.em (i = m) with rfl | hne
      · exact getD_self _ _
      · rw [set_other hne]; exact hk.elim (fun e => absurd e hne) id
    have hw : wpOp P ops Q i (wpList P ops Q r) a w := by unfold wpOp; simp only [h0]; exact h
    exact wpOp_mono (fun a' w' h' => ⟨fun hf => (by rw [hm] at hf; cases hf), m_seq r (i + 1) _ a' w' (fun j => by have := hl (j + 1); simpa [Nat.add_assoc, Nat.add_comm 1 j] using this) hB.2 (.inr hm) h'⟩) hw
theorem m_tail (last : List Oper) (hlast : ∀ j, last[j]? = ops[m + j]?) : ∀ (qs : List Nat) (tl : List Oper) (L : Array Bool) (a : Act) (w : World), qs.map (fun q => ops[q]?) = tl.map some → tailB md ops m last.length qs L = true → wpTail P ops Q S last tl a w → wpAnyM P md ops Q S m (last.length + qs.length) L a w
  | [], [], L, a, w, _, hB, h => m_seq last m L a w hlast hB (.inl rfl) h
  | [], _ :: _, _, _, _, hq, _, _ => by simp at hq
  | _ :: _, [], _, _, _, hq, _, _ => by simp at hq
  | q :: qs, o :: tl, L, a, w, hq, hB, h => by
    simp only [List.map_cons, List.cons.injEq] at hq
    simp only [tailB, Bool.and_eq_true, decide_eq_true_eq] at hB
    refine ⟨fun h1 => (by rw [hB.1] at h1; cases h1), fun i hi => ?_⟩
    rw [hB.1] at hi
    have hik : i = q := by simpa using hi
    subst hik
    have hw := op_one hq.1 h
    exact wpOp_mono (fun a' w' h' => ⟨fun _ => h'.1, m_tail last hlast qs tl _ a' w' hq.2 hB.2 h'.2⟩) hw
theorem yields_look {o : Oper} {a : Act} {v : Value} (hw : Region.wanted o (yielded ops a.tmps) = true) (hl : isLook o.op = true) (h : ∀ w, S w → o.quietAt P a S w v) : YieldsIf P ops S o v a := by
  refine .inl ⟨hw, fun w hS => ?_⟩
  have h1 := h w hS
  unfold Oper.quietAt at h1
  generalize hr : (execOp a.eval o).run P w = r at h1
  cases r with
  | ok n w' =>
    obtain ⟨u, rfl⟩ := look_val hl hr
    simp only [Oper.quietUpon] at h1
    rw [h1.1, h1.2]
  | halt x w' => exact h1.elim
theorem m_head {om : Oper} (hom : ops[m]? = some om) (hs : Region.noSelect ops = true) (hQ : ∀ c a d v w, Q (.panic c) (a.put d v) w → Q (.panic c) a w) :
    ∀ (ps : List Nat) (hl : List Oper) (L : Array Bool) (a : Act) (w : World) (fuel : Nat), ps.map (fun p => ops[p]?) = hl.map some → headB md ops m om ps L = true → L.getD m true = false → S w →
      wpQuiet P ops S (fun a' => wpAnyM P md ops Q S m fuel (setAll ps L) a' w) hl a → wpAnyM P md ops Q S m (fuel + ps.length) L a w
  | [], [], _, _, _, _, _, _, _, _, h => h
  | [], _ :: _, _, _, _, _, hq, _, _, _, _ => by simp at hq
  | _ :: _, [], _, _, _, _, hq, _, _, _, _ => by simp at hq
  | i :: ps, o :: hl, L, a, w, fuel, hq, hB, hm, hS, h => by
    simp only [List.map_cons, List.cons.injEq] at hq
    simp only [headB, Bool.and_eq_true, decide_eq_true_eq] at hB
    obtain ⟨⟨⟨⟨⟨h1, h2⟩, h3⟩, h4⟩, h5⟩, h6⟩ := hB
    rw [hq.1] at h5
    have hlook : isLook o.op = true := h5
    have hwait : ∃ e ∈ om.after, Region.binds md e = true ∧ e.on = i := by
      obtain ⟨e, he, hb⟩ := Array.any_eq_true'.1 h4
      simp only [Bool.and_eq_true, beq_iff_eq] at hb
      exact ⟨e, he, hb⟩
    have hm2 : (L.setIfInBounds i true).getD m true = false := by rw [set_other h1]; exact hm
    simp only [wpQuiet] at h
    have go : ∀ v, YieldsIf P ops S o v a → wpQuiet P ops S (fun a' => wpAnyM P md ops Q S m fuel (setAll ps (L.setIfInBounds i true)) a' w) hl (a.put o.dst v) → wpAnyM P md ops Q S m (fuel + (i :: ps).length) L a w := fun v hy hr =>
      m_first hq.1 (Region.noSelect_spec hs) (fun c a w => hQ c a o.dst v w) h1 hom hwait (fuel + ps.length) L a w (Region.free_spec hq.1 h3) (by simpa using h2) hm hy hS (m_head hom hs hQ ps hl _ _ w fuel hq.2 h6 hm2 hS hr)
    by_cases hw : Region.wanted o (yielded ops a.tmps) = true
    · rw [if_pos hw] at h
      obtain ⟨v, hv, hr⟩ := h
      exact go v (yields_look hw hlook hv) hr
    · rw [if_neg hw] at h
      exact go undef (.inr ⟨by simpa using hw, rfl⟩) h
end
/-- THE REGION: the looks ps in every world that meets S, then the rest qs (S is kept), then what stands from number m on. -/
theorem wp_region_m {P : Program} {id : Nat} {l : List Oper} {Q : Exit → Act → World → Prop} {a : Act} {w : World} (S : World → Prop) (m : Nat) (ps qs : List Nat) (hl tl : List Oper) (om : Oper) (hm : P.follows .mixedOrders = true)
    (hom : l[m]? = some om) (hps : ps.map (fun p => l[p]?) = hl.map some) (hqs : qs.map (fun p => l[p]?) = tl.map some)
    (hB : (Region.noSelect l.toArray && headB .any l.toArray m om ps (Array.replicate l.length false) && tailB .any l.toArray m (l.drop m).length qs (setAll ps (Array.replicate l.length false)) && decide ((l.drop m).length + qs.length + ps.length = l.length) && !(Array.replicate l.length false).getD m true) = true)
    (hQ : ∀ c a d v w, Q (.panic c) (a.put d v) w → Q (.panic c) a w) (hS : S w.drew)
    (h : wpQuiet P l.toArray S (fun a' => wpTail P l.toArray Q S (l.drop m) tl a' w.drew) hl a) : (Code.region id l.toArray true).wp P Q a w := by
  simp only [Bool.and_eq_true, decide_eq_true_eq, Bool.not_eq_true'] at hB
  obtain ⟨⟨⟨⟨h1, h2⟩, h3⟩, h4⟩, h5⟩ := hB
  refine wp_region_any hm (any_of_m (S := S) (m := m) _ _ _ _ ?_)
  have hlast : ∀ j, (l.drop m)[j]? = l.toArray[m + j]? := fun j => by simp [List.getElem?_drop]
  have := m_head (md := .any) (S := S) (Q := Q) (P := P) (om := om) (m := m) (ops := l.toArray) (by simpa using hom) h1 hQ ps hl (Array.replicate l.length false) a w.drew ((l.drop m).length + qs.length) (by simpa using hps) h2 h5 hS ?_
  · rw [h4] at this
    simpa using this
  · refine wpQuiet_imp (fun a' h' => ?_) hl a h
    exact m_tail (md := .any) (l.drop m) hlast qs tl _ a' w.drew (by simpa using hqs) h3 h'
/-- .. the operations named by pieces: (first, how many). -/
def pieces (l : List Oper) (hp : List (Nat × Nat)) : List Oper := hp.flatMap fun x => (l.drop x.1).take x.2
def nums (hp : List (Nat × Nat)) : List Nat := hp.flatMap fun x => List.range' x.1 x.2
theorem pieces_nums {l : List Oper} : ∀ hp : List (Nat × Nat), (hp.all fun x => decide (x.1 + x.2 ≤ l.length)) = true → (nums hp).map (fun p => l[p]?) = (pieces l hp).map some
  | [], _ => rfl
  | x :: hp, h => by
    simp only [List.all_cons, Bool.and_eq_true, decide_eq_true_eq] at h
    simp only [nums, pieces, List.flatMap_cons, List.map_append]
    have ih := pieces_nums hp h.2
    simp only [nums, pieces] at ih
    rw [ih]
    congr 1
    refine List.ext_getElem? fun i => ?_
    simp only [List.getElem?_map]
    by_cases hi : i < x.2
    · rw [List.getElem?_range' hi, List.getElem?_take_of_lt hi, List.getElem?_drop]
      simp only [Option.map_some, Nat.one_mul]
      rw [List.getElem?_eq_getElem (by omega)]; rfl
    · rw [List.getElem?_eq_none (by simp; omega), List.getElem?_eq_none (by simp; omega)]; rfl
theorem wp_region_p {P : Program} {id : Nat} {l : List Oper} {Q : Exit → Act → World → Prop} {a : Act} {w : World} (S : World → Prop) (m : Nat) (hp hq : List (Nat × Nat)) (om : Oper) (hm : P.follows .mixedOrders = true)
    (hom : l[m]? = some om) (h1 : (hp.all fun x => decide (x.1 + x.2 ≤ l.length)) = true) (h2 : (hq.all fun x => decide (x.1 + x.2 ≤ l.length)) = true)
    (hB : (Region.noSelect l.toArray && headB .any l.toArray m om (nums hp) (Array.replicate l.length false) && tailB .any l.toArray m (l.drop m).length (nums hq) (setAll (nums hp) (Array.replicate l.length false)) && decide ((l.drop m).length + (nums hq).length + (nums hp).length = l.length) && !(Array.replicate l.length false).getD m true) = true)
    (hS : S w.drew)
    (h : wpQuiet P l.toArray S (fun a' => wpTail P l.toArray (NoPanic Q) S (l.drop m) (pieces l hq) a' w.drew) (pieces l hp) a) : (Code.region id l.toArray true).wp P Q a w :=
  wp_region_noPanic (wp_region_m S m (nums hp) (nums hq) (pieces l hp) (pieces l hq) om hm hom (pieces_nums hp h1) (pieces_nums hq h2) hB (fun _ _ _ _ _ h => h) hS h)
end Go.Proofs.Ytgaaieipeiekiaa
