/- Contract of conv's All. -/
import Derived.Test.YtghihmmapignmaaConvH
import Derived.Test.YtghihmmapignmaaReadR
import Derived.WalkKit
import Derived.WalkSpells
import Derived.WalkLawsBesides
import Derived.Lib.Hide
namespace Go.Proofs.Ytghihmmapignmaa
open Go.RowKit

theorem a1_nil_le (x : Cf) (z : List Int) : (x.a1 [] z).length ≤ z.length := by have := a1_le x [] z; simpa using this
theorem O_le {x : Cf} (h : x.cb ≤ 500) (z : List Int) : (x.O z).length ≤ 500 * z.length + 500 := by
  unfold Cf.O Cf.cO
  rw [map_len]
  have h1 := rOut_le h [] (x.a1 [] z) (ok_nil x)
  have h2 := a1_nil_le x z
  omega
theorem L_le {x : Cf} (h : x.cb ≤ 500) (z : List Int) : (x.L z).length ≤ z.length + 500 := by
  unfold Cf.L Cf.cL
  have h1 := rRest_le h [] (x.a1 [] z) (ok_nil x)
  have h2 := a1_nil_le x z
  simp at h1
  omega
theorem C_le (x : Cf) (z : List Int) : x.C z ≤ z.length := by
  unfold Cf.C Cf.cC
  have h1 := rCut_le x [] (x.a1 [] z)
  have h2 := a1_nil_le x z
  omega
theorem ok_L (x : Cf) (z : List Int) : x.Ok (x.L z) := ok_rest x _ (ok_nil x)
theorem KS_le (x : Cf) (z : List Int) : (x.KS z).length ≤ 1 := od_len _ _
theorem eO_le {x : Cf} (h : x.cb ≤ 500) (z : List Int) : (x.eO (x.KS z) (x.L z)).length ≤ 2000 := by
  unfold Cf.eO Cf.eA Cf.eB
  have h1 := rOut_le h (x.L z) (mapL x.t1 (x.KS z)) (ok_L x z)
  have h2 := rEnd_le h (x.eL (x.KS z) (x.L z)) (ok_rest x _ (ok_L x z))
  have h3 := KS_le x z
  rw [map_len] at h1
  rw [List.length_append, map_len, map_len]
  omega

/-- Where All stands: behind the bytes z. -/
structure AMid (w : World) (b sb pb : Nat) (y : Cf) (z : List Int) (wr : World) (O : Option Addr) (m oc : Nat) (T : Nat → Prop) : Prop where
  obj : Cw b sb pb y (y.KS z) (y.L z) (y.C z) wr T
  mine : ∀ d, Bs b sb T d → w.heap.size ≤ d
  below : Below w.heap.size w wr
  out : Buf wr O m oc (y.O z)
  new : ∀ d, At O d → w.heap.size ≤ d ∧ ¬ Bs b sb T d

theorem cv_open {b sb pb : Nat} {x : Cf} {ks l : List Int} {ct : Nat} {w : World} {S : Nat → Prop} (h : Cv b sb pb x ks l ct w S) : ∃ T, S = Bs b sb T ∧ Cw b sb pb x ks l ct w T := h

/-- The first half of a round: what the object is, and what was out. -/
theorem AMid.put {w : World} {b sb pb : Nat} {y : Cf} {z : List Int} {wr w2 : World} {O : Option Addr} {m oc : Nat} {T T2 : Nat → Prop} (M : AMid w b sb pb y z wr O m oc T) (q4 : Only (Bs b sb T) wr w2) (q5 : ∀ d, Bs b sb T2 d → Bs b sb T d ∨ wr.heap.size ≤ d) :
    Buf w2 O m oc (y.O z) ∧ (∀ d, At O d → ¬ Bs b sb T2 d) ∧ (∀ d, Bs b sb T2 d → w.heap.size ≤ d) ∧ Below w.heap.size w w2 := by
  refine ⟨M.out.only q4 (fun g o s he hg => (M.new g ⟨o, s, he⟩).2 hg), fun d hd hb => ?_, fun d hd => ?_, M.below.trans (q4.below M.below.size M.mine)⟩
  · rcases q5 d hb with h | h
    · exact (M.new d hd).2 h
    · obtain ⟨o, s, he⟩ := hd; have := M.out.at d o s he; omega
  · rcases q5 d hd with h | h
    · exact M.mine d h
    · exact Nat.le_trans M.below.size h
theorem AMid.next {w : World} {b sb pb : Nat} {y : Cf} {z zs : List Int} {wr w2 w3 : World} {O O3 : Option Addr} {m oc m3 oc3 : Nat} {T T2 : Nat → Prop} (M : AMid w b sb pb y z wr O m oc T) (q3 : Cw b sb pb y (y.KS (z ++ zs)) (y.L (z ++ zs)) (y.C (z ++ zs)) w2 T2) (q4 : Only (Bs b sb T) wr w2) (q5 : ∀ d, Bs b sb T2 d → Bs b sb T d ∨ wr.heap.size ≤ d)
    (r1 : Buf w3 O3 m3 oc3 (y.O (z ++ zs))) (r2 : Only (fun d => ∃ o s, O = some ⟨d, o, s⟩) w2 w3) (r3 : O3 = O ∨ O3 = some ⟨w2.heap.size, 0, none⟩) : AMid w b sb pb y (z ++ zs) w3 O3 m3 oc3 T2 := by
  obtain ⟨_, p2, p3, p4⟩ := M.put q4 q5
  refine ⟨q3.only r2 (fun d hd ha => p2 d ha hd), p3, p4.trans (r2.below p4.size (fun d hd => (M.new d hd).1)), r1, fun d hd => ?_⟩
  rcases r3 with rfl | rfl
  · exact ⟨(M.new d hd).1, p2 d hd⟩
  · obtain ⟨o, s, he⟩ := hd
    injection he with he; injection he with he
    exact ⟨by have := p4.size; omega, fun hb => by have := q3.stlt d hb; omega⟩

set_option maxRecDepth 100000 in
set_option maxHeartbeats 4000000 in
theorem allc_any (x y : Cf) (A : Option Addr) (n c : Nat) (L : List El) (zs os : List Int) (w : World) (hy : x.eff = y) (hcb : y.cb ≤ 500) (h : Lists w A n L) (hn : n ≤ 100) (hz : cat L = zs) (hzl : zs.length ≤ 1500) (ho : y.all zs = os) :
    Calls Try.prog 10 #[x.val, .slice A n c] w (BytesPost os w) := by
  have H := Lib.hid h; have HY := Lib.hid hy; have HZ := Lib.hid hz; have HO := Lib.hid ho; have HZL := Lib.hid hzl
  have CN := Lib.hid (newc_any x)
  have HX : x.val = .agg #[.bool x.sw, .bool x.bl, .bool x.ub, .bool x.lc, .bool x.uc, .bool x.ac, .bool x.eb, .bool x.ib, .int .i64 x.cb] := rfl
  rw [HX]
  clear h hy hz ho hzl HX
  go_enter Try.func10, Try.ntmps10
  go_wp2_with fail
  refine (CN.out _).mono ?_
  rintro e w1 ⟨b, sb, pb, T, rfl, q1, q2, q3⟩
  rw [HY.out] at q1
  have K0 := Lib.hid ((Below.refl _ w).alloc (Nat.le_refl _) (.cells x.cells 23))
  have M0 := Lib.hid (show AMid w b sb pb y [] w1 none 0 0 T from ⟨by rw [KS_nil, L_nil, C_nil]; exact q1, fun d hd => Nat.le_trans K0.out.size (q2 d hd), K0.out.trans (q3.mono K0.out.size), by rw [O_nil]; exact Buf.nil _, (fun d ⟨_, _, h⟩ => by cases h)⟩)
  clear q1 q2 q3 CN K0
  go_wp2
  go_loopw [6, 13] (fun vo i wr => ∃ (j : Nat) (O : Option Addr) (m oc : Nat) (T : Nat → Prop), j ≤ n ∧ i = .int .i64 j ∧ vo = .slice O m oc ∧ Hid (AMid w b sb pb y (cat (L.take j)) wr O m oc T)) (fun _ i _ => n - (intOf i).toNat)
  case atStart => exact ⟨0, none, 0, 0, T, Nat.zero_le _, rfl, rfl, M0.out⟩
  case round =>
    clear M0
    obtain ⟨j, O, m, oc, T, hj, rfl, rfl, M⟩ := hrel
    have HT1 := Lib.hid (cat_take L j)
    have hz1 : (cat (L.take j)).length ≤ 1500 := by have := HT1.out; have := HZL.out; rw [← HZ.out] at this; omega
    have hm : m ≤ 800000 := by have := O_le hcb (cat (L.take j)); have := M.out.out.1; omega
    have hl1 : (y.L (cat (L.take j))).length ≤ 50000 := by have := L_le hcb (cat (L.take j)); omega
    have hc1 : y.C (cat (L.take j)) ≤ 50000 := by have := C_le y (cat (L.take j)); omega
    by_cases hlt : j < n
    · obtain ⟨lb, o, rfl, hb, hc⟩ := H.out.cells (by omega)
      have c0 := (M.out.below.cell (p := ⟨lb, o + j, none⟩) hb).trans (hc j hlt)
      have hjl : j < L.length := by have := H.out.len; omega
      have HS := Lib.hid (cat_snoc L j hjl)
      have HX := Lib.hid (H.out.ok j hlt)
      have HT2 := Lib.hid (cat_take L (j + 1))
      clear hc hb hjl
      generalize L.getD j default = e at *
      obtain ⟨xa, xn, xc, xz⟩ := e
      simp only at c0 HS
      generalize cat (L.take j) = z at *
      rw [HS.out] at HT2
      have hz2 : z.length + xz.length ≤ 1500 := by have := HT2.out; have := HZL.out; rw [← HZ.out] at this; rw [List.length_append] at *; omega
      have hxn : xn ≤ 1500 := by have := HX.out.bytes.1; simp only at *; omega
      obtain ⟨o2, ho2⟩ : ∃ o2, y.cO (y.KS z) (y.L z) xz = o2 := ⟨_, rfl⟩
      have EO := Lib.hid (show y.O (z ++ xz) = y.O z ++ o2 by rw [O_app, ho2])
      have ho3 : m + o2.length ≤ 1000000 := by
        have h1 := O_le hcb (z ++ xz)
        rw [EO.out, List.length_append, M.out.out.1, List.length_append] at h1
        omega
      have E1 := Lib.hid ho2; have E2 := Lib.hid (KS_app y z xz).symm; have E3 := Lib.hid (L_app y z xz).symm; have E4 := Lib.hid (C_app y z xz).symm
      have hxa := Lib.hid (show ∀ g o, xa = some ⟨g, o, none⟩ → 0 < xn → ¬ Bs b sb T g from fun g o he hp hs => by have := HX.out.bytes.at g o he hp; have := M.out.mine g hs; omega)
      clear ho2
      go_wp2_with fail
      refine (putc_any b sb pb y (y.KS z) (y.L z) (y.C z) T xa xn xc xz o2 (y.KS (z ++ xz)) (y.L (z ++ xz)) (y.C (z ++ xz)) wr M.out.obj (HX.out.bytes.on M.out.below) HX.out.nil hxa.out HX.out.are hcb (by omega) (by omega) (by omega) E1.out E2.out E3.out E4.out).mono ?_
      rintro e w2 ⟨A2, m2, cc2, S2, rfl, q1, q2, q3, q4, q5⟩
      obtain ⟨T2, rfl, p3⟩ := cv_open q3
      obtain rfl : m2 = o2.length := q1.1.symm
      have B2 := Lib.hid (M.out.put q4 q5).1
      have Q1 := Lib.hid q1; have Q3 := Lib.hid p3; have Q4 := Lib.hid q4; have Q5 := Lib.hid q5
      clear q1 q2 q3 q4 q5 c0 p3
      go_wp2_with (at_builtin; refine append_buf rfl _ _ rfl B2.out rfl Q1.out.bytes.1 Q1.out.bytes.2 rfl ho3 ?_; intro A5 c5 w5 q1 q2 q3; have M5 := Lib.hid (M.out.next Q3.out Q4.out Q5.out (by rw [EO.out]; exact q1) q2 q3); clear q1 q2 q3)
      go_roundw
      case rel => exact ⟨j + 1, A5, _, c5, T2, by omega, by go_num, rfl, by rw [HS.out]; exact M5.out⟩
      case measure => simp [intOf]; omega
    · have hjn : j = n := by omega
      have HTK := Lib.hid (show cat (L.take j) = zs by rw [hjn, ← H.out.len, List.take_length, HZ.out])
      rw [HTK.out] at M hz1 hl1 hc1
      clear HTK HT1
      obtain ⟨o2, ho2⟩ : ∃ o2, y.eO (y.KS zs) (y.L zs) = o2 := ⟨_, rfl⟩
      have EO := Lib.hid (show y.O zs ++ o2 = os by rw [← ho2, all_is, HO.out])
      have ho3 : m + o2.length ≤ 1000000 := by have := eO_le hcb zs; rw [ho2] at this; omega
      have E1 := Lib.hid ho2
      clear ho2
      go_wp2_with fail
      refine (endc_any b sb pb y (y.KS zs) (y.L zs) (y.C zs) T o2 _ wr M.out.obj hcb hl1 hc1 E1.out rfl).mono ?_
      rintro e w2 ⟨A2, m2, cc2, S2, rfl, q1, q2, q3, q4, q5⟩
      obtain rfl : m2 = o2.length := q1.1.symm
      have B2 := Lib.hid (M.out.out.only q4 (fun g o s he hg => (M.out.new g ⟨o, s, he⟩).2 hg))
      have K2 := Lib.hid (M.out.below.trans (q4.below M.out.below.size M.out.mine))
      have Q1 := Lib.hid q1
      clear q1 q2 q3 q4 q5
      go_wp2_with (at_builtin; refine append_buf rfl _ _ rfl B2.out rfl Q1.out.bytes.1 Q1.out.bytes.2 rfl ho3 ?_; intro A5 c5 w5 q1 q2 q3; have R1 := Lib.hid q1; have R2 := Lib.hid q2; have R3 := Lib.hid q3; clear q1 q2 q3)
      go_ret
      refine ⟨A5, _, c5, rfl, by rw [← EO.out]; exact R1.out, fun g o s he => ?_, K2.out.trans (R2.out.below K2.out.size (fun d hd => (M.out.new d hd).1))⟩
      rcases R3.out with h | h
      · rw [h] at he; exact (M.out.new g ⟨o, s, he⟩).1
      · rw [h] at he; injection he with he; injection he with he; have := K2.out.size; omega

end Go.Proofs.Ytghihmmapignmaa
