/- The law FixedPieces, walked. -/
import Derived.Test.YtemehobohgcpdaaWalksS
import Derived.WalkKit
import Derived.WalkSpells
import Derived.WalkLawsBesides
import Derived.Lib.Hide
namespace Go.Proofs.Ytemehobohgcpdaa
open Go.RowKit

theorem kOf_mul {s : Int} {n : Nat} (h : s ≤ 600 ∨ n ≤ 40) (hn : n ≤ 400) : kOf s * n ≤ 900000 := by
  rcases h with h | h
  · exact Nat.le_trans (Nat.mul_le_mul (kOf_le s h) hn) (by decide)
  · exact Nat.le_trans (Nat.mul_le_mul (kOf_pos s).2 h) (by decide)
theorem cat_are {w : World} {A : Option Addr} {n : Nat} {L : List El} (h : Lists w A n L) : Are (cat L) := by
  intro z hz
  obtain ⟨x, hx, hz⟩ := List.mem_flatMap.1 hz
  obtain ⟨k, hk, rfl⟩ := List.getElem_of_mem hx
  have := (h.ok k (by have := h.len; omega)).are
  rw [List.getD_eq_getElem?_getD, List.getElem?_eq_getElem hk] at this
  exact this z hz

theorem buf_step {w wr w1 : World} {O O' : Option Addr} (B : Below w.heap.size w wr) (N : ∀ g o s, O = some ⟨g, o, s⟩ → w.heap.size ≤ g)
    (q2 : Only (fun d => ∃ o s, O = some ⟨d, o, s⟩) wr w1) (q3 : O' = O ∨ O' = some ⟨wr.heap.size, 0, none⟩) : (∀ g o s, O' = some ⟨g, o, s⟩ → w.heap.size ≤ g) ∧ Below w.heap.size w w1 := by
  refine ⟨fun g o s he => ?_, B.trans (q2.below B.size (fun d ⟨o, s, he⟩ => N d o s he))⟩
  rcases q3 with rfl | rfl
  · exact N g o s he
  · injection he with he; injection he with he
    have := B.size
    omega

set_option maxHeartbeats 4000000 in
theorem pieces_walk (s : Int) (A : Option Addr) (n c : Nat) (L : List El) (w : World) (hs : (Lit.int .i64 s).wf = true) (hL : IsRows w A n L) :
    Calls Try.prog 6 #[.int .i64 s, .slice A n c] w fun e w' => e = .returned (.bool true) ∧ Below w.heap.size w w' := by
  obtain ⟨hm, hL⟩ := hL
  have HL := Lib.hid hL
  clear hL
  obtain ⟨s1, s2⟩ := i64_bounds hs
  clear hs
  have hm : n ≤ 9223372036854775807 := by unfold maxLen at hm; omega
  go_enter Try.func6, Try.ntmps6
  go_wp2_with fail
  refine (few_any s A n c L w HL.out hm).mono ?_
  rintro e w1 ⟨x, rfl, hx, rfl⟩
  cases x with
  | false =>
    go_wp2_with fail
    refine (law_runs _).mono ?_
    rintro e w2 ⟨rfl, k2⟩
    go_wp2
    go_ret
    exact ⟨rfl, k2⟩
  | true =>
    obtain ⟨hn30, htot, hor⟩ := hx rfl
    rw [HL.out.len] at hn30
    have HT := Lib.hid htot
    have HM := Lib.hid (kOf_mul hor htot)
    clear hx htot hor
    go_wp2
    go_loopw [5, 6] (fun va i wr => ∃ (j : Nat) (O : Option Addr) (m oc : Nat), j ≤ n ∧ i = .int .i64 j ∧ va = .slice O m oc ∧ Hid (Buf wr O m oc (cat (L.take j))) ∧ Hid (∀ g o s, O = some ⟨g, o, s⟩ → w.heap.size ≤ g) ∧ Hid (Below w.heap.size w wr)) (fun _ i _ => n - (intOf i).toNat)
    case atStart => exact ⟨0, none, 0, 0, Nat.zero_le _, rfl, rfl, Buf.nil _, (fun g o s he => by cases he), Below.refl _ _⟩
    case round =>
      obtain ⟨j, O, m, oc, hj, rfl, rfl, BO, NO, BW⟩ := hrel
      by_cases hlt : j < n
      · obtain ⟨lb, o, rfl, hb, hc⟩ := HL.out.cells (by omega)
        have c0 := (BW.out.cell (p := ⟨lb, o + j, none⟩) hb).trans (hc j hlt)
        have hjl : j < L.length := by have := HL.out.len; omega
        have HS := Lib.hid (cat_snoc L j hjl)
        have HX := Lib.hid ((HL.out.ok j hlt).on BW.out)
        have HC := Lib.hid (cat_le L j hjl)
        clear hc hb hjl
        generalize L.getD j default = x at *
        obtain ⟨xa, xn, xc, xz⟩ := x
        simp only at c0 HS HC
        have hml : m + xn ≤ 1000000 := by
          have e1 := HX.out.bytes.1; have e2 := HC.out; have e3 := HT.out; have e4 := BO.out.1
          simp only at e1
          omega
        go_wp2_with (at_builtin; refine append_buf rfl _ _ rfl BO.out rfl HX.out.bytes HX.out.nil rfl hml ?_; intro O' oc' w3 q1 q2 q3; obtain ⟨r1, r2⟩ := buf_step BW.out NO.out q2 q3; have Q1 := Lib.hid q1; have R1 := Lib.hid r1; have R2 := Lib.hid r2; clear q1 q2 q3 r1 r2)
        go_roundw
        case rel => exact ⟨j + 1, O', m + xn, oc', by omega, by go_num, rfl, by unfold Hid; rw [HS.out]; exact Q1.out, R1.out, R2.out⟩
        case measure => simp [intOf]; omega
      · have hjn : j = n := by omega
        have HB := Lib.hid (show Buf wr O m oc (cat L) by have := BO.out; rwa [hjn, ← HL.out.len, List.take_length] at this)
        clear BO NO
        obtain ⟨K, hK⟩ : ∃ K, kOf s = K := ⟨_, rfl⟩
        obtain ⟨zs, hzs⟩ : ∃ zs, cat L = zs := ⟨_, rfl⟩
        have AR := Lib.hid (cat_are HL.out)
        rw [hzs] at HT HM HB AR
        rw [hK] at HM
        obtain ⟨ps, hps⟩ : ∃ ps, pAll K zs = ps := ⟨_, rfl⟩
        obtain ⟨cs, hcs⟩ : ∃ cs, cAll K zs = cs := ⟨_, rfl⟩
        obtain ⟨us, hus⟩ : ∃ us, uAll K zs = us := ⟨_, rfl⟩
        have HK := Lib.hid hK; have HZ := Lib.hid hzs; have HP := Lib.hid hps; have HC := Lib.hid hcs; have HU := Lib.hid hus
        clear hK hzs hps hcs hus
        have L1 := Lib.hid (HL.out.on BW.out)
        go_wp2_with fail
        refine (pack_any s K A n c L zs ps cs wr s1 s2 HK.out L1.out (by omega) HZ.out HM.out (by have := HT.out; omega) HP.out HC.out).mono ?_
        rintro e w4 ⟨rfl, k4⟩
        have HB4 := Lib.hid (HB.out.on k4)
        have B4 := Lib.hid (BW.out.trans (k4.mono BW.out.size))
        clear k4 HB BW L1
        have L5 := Lib.hid (lists_one w4 ⟨O, m, oc, zs⟩ 26 _ rfl ⟨HB4.out.bytes.1, HB4.out.bytes.2, AR.out⟩)
        have K5 := Lib.hid (show Below w4.heap.size w4 (w4.alloc (.cells #[.slice O m oc] 26)) from (Below.refl _ _).alloc (Nat.le_refl _) _)
        go_wp2_with fail
        refine (pack_any s K _ 1 1 [⟨O, m, oc, zs⟩] zs ps cs _ s1 s2 HK.out L5.out (by omega) (by simp [cat]) HM.out (by have := HT.out; omega) HP.out HC.out).mono ?_
        rintro e w6 ⟨rfl, k6⟩
        have k7 := K5.out.trans (k6.mono K5.out.size)
        have B6 := Lib.hid (B4.out.trans (k7.mono B4.out.size))
        have HB6 := Lib.hid (HB4.out.on k7)
        have L6 := Lib.hid (HL.out.on B6.out)
        clear k6 k7 HB4 B4 L5 K5
        go_wp2_with fail
        refine (unpack_any s K A n c L zs us w6 s1 s2 HK.out L6.out (by omega) HZ.out (by have := HT.out; omega) HU.out).mono ?_
        rintro e w7 ⟨rfl, k7⟩
        have HB7 := Lib.hid (HB6.out.on k7)
        have B7 := Lib.hid (B6.out.trans (k7.mono B6.out.size))
        clear k7 HB6 B6 L6
        have L8 := Lib.hid (lists_one w7 ⟨O, m, oc, zs⟩ 26 _ rfl ⟨HB7.out.bytes.1, HB7.out.bytes.2, AR.out⟩)
        have K8 := Lib.hid (show Below w7.heap.size w7 (w7.alloc (.cells #[.slice O m oc] 26)) from (Below.refl _ _).alloc (Nat.le_refl _) _)
        go_wp2_with fail
        refine (unpack_any s K _ 1 1 [⟨O, m, oc, zs⟩] zs us _ s1 s2 HK.out L8.out (by omega) (by simp [cat]) (by have := HT.out; omega) HU.out).mono ?_
        rintro e w9 ⟨rfl, k9⟩
        have k10 := K8.out.trans (k9.mono K8.out.size)
        have B9 := Lib.hid (B7.out.trans (k10.mono B7.out.size))
        clear k9 k10 HB7 B7 L8 K8
        go_wp2_with fail
        refine (law_runs _).mono ?_
        rintro e w11 ⟨rfl, k11⟩
        go_wp2
        go_ret
        exact ⟨rfl, B9.out.trans (k11.mono B9.out.size)⟩

end Go.Proofs.Ytemehobohgcpdaa
