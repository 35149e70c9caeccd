/- The law ConvPieces, walked. -/
import Derived.Test.YtghihmmapignmaaLawU
import Derived.WalkKit
import Derived.WalkSpells
import Derived.WalkLawsBesides
import Derived.Lib.Hide
namespace Go.Proofs.Ytghihmmapignmaa
open Go.RowKit

def FewPost (L : List El) (w : World) (e : Ending) (w' : World) : Prop :=
  ∃ x : Bool, e = .returned (.bool x) ∧ (x = true → L.length ≤ 30 ∧ (cat L).length ≤ 300) ∧ w = w'

set_option maxHeartbeats 2000000 in
theorem few_any (A : Option Addr) (n c : Nat) (L : List El) (w : World) (h : Lists w A n L) (hm : n ≤ 9223372036854775807) : Calls Try.prog 15 #[.slice A n c] w (FewPost L w) := by
  have H := Lib.hid h
  clear h
  go_enter Try.func15, Try.ntmps15
  go_wp2
  go_loopw [3, 4] (fun sm i wr => ∃ (j t : Nat), j ≤ n ∧ j ≤ 60 ∧ i = .int .i64 j ∧ sm = .int .i64 t ∧ Hid (t = (cat (L.take j)).length) ∧ t ≤ j * 300 ∧ w = wr) (fun _ i _ => n - (intOf i).toNat)
  case atStart => exact ⟨0, 0, Nat.zero_le _, Nat.zero_le _, rfl, rfl, rfl, Nat.zero_le _, rfl⟩
  case round =>
    obtain ⟨j, t, hj, hj1, rfl, rfl, HT, ht, rfl⟩ := hrel
    by_cases hlt : j < n
    · by_cases hlt2 : j < 60
      · obtain ⟨b, o, rfl, hb, hc⟩ := H.out.cells (by omega)
        have c1 := hc j hlt
        have HS := Lib.hid (cat_snoc L j (by have := H.out.len; omega))
        have HX := Lib.hid (H.out.ok j hlt)
        clear hc hb
        generalize L.getD j default = x at *
        obtain ⟨xa, xn, xc, xz⟩ := x
        simp only at c1 HS
        have m1 : xn ≤ 9223372036854775807 := by have := HX.out.bytes.2.1; have := HX.out.bytes.2.2.1; unfold maxLen at this; simp only at *; omega
        have HN := Lib.hid (show xz.length = xn from HX.out.bytes.1)
        by_cases hx : 300 < xn
        · go_wp2
          go_ret
          exact ⟨false, rfl, (fun h => by cases h), by simp⟩
        · go_wp2
          go_roundw
          case rel => exact ⟨j + 1, t + xn, by omega, by omega, by go_num, by go_num, by unfold Hid; rw [HS.out, List.length_append, ← HT.out, HN.out], by omega, by simp⟩
          case measure => simp [intOf]; omega
      · have hj3 : j = 60 := by omega
        have hd : decide ((n : Int) ≤ 30) = false := by simp; omega
        go_wp2
        go_ret
        exact ⟨false, rfl, (fun h => by cases h), by simp⟩
    · have hjn : j = n := by omega
      have HL := Lib.hid (show t = (cat L).length by rw [HT.out, hjn, ← H.out.len, List.take_length])
      have HN := Lib.hid H.out.len
      clear H HT
      by_cases h1 : n ≤ 30
      · by_cases h2 : t ≤ 300
        · have hd : decide ((t : Int) ≤ 300) = true := by simp; omega
          go_wp2
          go_ret
          exact ⟨true, rfl, fun _ => ⟨by rw [HN.out]; exact h1, by rw [← HL.out]; exact h2⟩, by simp⟩
        · have hd : decide ((t : Int) ≤ 300) = false := by simp; omega
          go_wp2
          go_ret
          exact ⟨false, rfl, (fun h => by cases h), by simp⟩
      · have hd : decide ((n : Int) ≤ 30) = false := by simp; omega
        go_wp2
        go_ret
        exact ⟨false, rfl, (fun h => by cases h), by simp⟩

theorem cat_are : ∀ {L : List El}, (∀ k, k < L.length → Are (L.getD k default).zs) → Are (cat L)
  | [], _ => Are.nil
  | e :: L, h => by
    have h0 := h 0 (by simp)
    have h1 := @cat_are L (fun k hk => by have := h (k + 1) (by simpa using hk); simpa using this)
    exact Are.append (by simpa using h0) h1
theorem eff_cb {x : Cf} (h : ¬ (500 < x.cb ∧ x.cb ≤ 4096)) : x.eff.cb ≤ 500 := by
  cases hm : x.may
  · rw [eff_not hm]; decide
  · rw [eff_of hm]; have := (Cf.fit hm).le; omega

/-- Where the law stands: behind the bytes z, all of them in one list, too. -/
structure PMid (w : World) (b sb pb : Nat) (y : Cf) (z : List Int) (wr : World) (O : Option Addr) (m oc : Nat) (T : Nat → Prop) : Prop where
  obj : Cw b sb pb y (y.KS z) (y.L z) (y.C z) wr T
  mine : ∀ d, Bs b sb T d → w.heap.size ≤ d
  below : Below w.heap.size w wr
  all : Buf wr O m oc z
  new : ∀ d, At O d → w.heap.size ≤ d ∧ ¬ Bs b sb T d
/-- All has grown. -/
structure PHas (w : World) (b sb pb : Nat) (y : Cf) (z z2 : List Int) (wr : World) (O : Option Addr) (m oc : Nat) (T : Nat → Prop) : Prop where
  obj : Cw b sb pb y (y.KS z) (y.L z) (y.C z) wr T
  mine : ∀ d, Bs b sb T d → w.heap.size ≤ d
  below : Below w.heap.size w wr
  all : Buf wr O m oc z2
  new : ∀ d, At O d → w.heap.size ≤ d ∧ ¬ Bs b sb T d
theorem PMid.has {w : World} {b sb pb : Nat} {y : Cf} {z z2 : List Int} {wr w2 : World} {O O2 : Option Addr} {m oc m2 oc2 : Nat} {T : Nat → Prop} (M : PMid w b sb pb y z wr O m oc T) (q1 : Buf w2 O2 m2 oc2 z2) (q2 : Only (fun d => ∃ o s, O = some ⟨d, o, s⟩) wr w2) (q3 : O2 = O ∨ O2 = some ⟨wr.heap.size, 0, none⟩) : PHas w b sb pb y z z2 w2 O2 m2 oc2 T := by
  refine ⟨M.obj.only q2 (fun d hd ha => (M.new d ha).2 hd), M.mine, M.below.trans (q2.below M.below.size (fun d hd => (M.new d hd).1)), q1, fun d hd => ?_⟩
  rcases q3 with rfl | rfl
  · exact M.new d hd
  · obtain ⟨o, s, he⟩ := hd
    injection he with he; injection he with he
    exact ⟨by have := M.below.size; omega, fun hb => by have := M.obj.stlt d hb; omega⟩
theorem PHas.put {w : World} {b sb pb : Nat} {y : Cf} {z zs : List Int} {wr w2 : World} {O : Option Addr} {m oc : Nat} {T T2 : Nat → Prop} (M : PHas w b sb pb y z (z ++ zs) wr O m oc T) (q3 : Cw b sb pb y (y.KS (z ++ zs)) (y.L (z ++ zs)) (y.C (z ++ zs)) w2 T2) (q4 : Only (Bs b sb T) wr w2) (q5 : ∀ d, Bs b sb T2 d → Bs b sb T d ∨ wr.heap.size ≤ d) : PMid w b sb pb y (z ++ zs) w2 O m oc T2 := by
  refine ⟨q3, fun d hd => ?_, M.below.trans (q4.below M.below.size M.mine), M.all.only q4 (fun g o s he hg => (M.new g ⟨o, s, he⟩).2 hg), fun d hd => ⟨(M.new d hd).1, fun hb => ?_⟩⟩
  · rcases q5 d hd with h | h
    · exact M.mine d h
    · exact Nat.le_trans M.below.size h
  · rcases q5 d hb with h | h
    · exact (M.new d hd).2 h
    · obtain ⟨o, s, he⟩ := hd; have := M.all.at d o s he; omega

set_option maxRecDepth 100000 in
set_option maxHeartbeats 8000000 in
theorem pieces_walk (x : Cf) (A : Option Addr) (n c : Nat) (L : List El) (w : World) (hx : (Lit.int .i64 x.cb).wf = true) (hL : IsRows w A n L) :
    Calls Try.prog 6 #[x.val, .slice A n c] w fun e w' => e = .returned (.bool true) ∧ Below w.heap.size w w' := by
  obtain ⟨hm, hL⟩ := hL
  obtain ⟨b1, b2⟩ := i64_bounds hx
  have HL := Lib.hid hL
  clear hL hx
  have hm : n ≤ 9223372036854775807 := by unfold maxLen at hm; omega
  have CR := Lib.hid law_runs; have CN := Lib.hid (newc_any x)
  have K0 := Lib.hid (show Below w.heap.size w (w.alloc (.cells x.cells 23)) from (Below.refl _ _).alloc (Nat.le_refl _) _)
  have R0 := Lib.hid (row_new w x.cells 23)
  have XV := Lib.hid (show x.val = .agg #[.bool x.sw, .bool x.bl, .bool x.ub, .bool x.lc, .bool x.uc, .bool x.ac, .bool x.eb, .bool x.ib, .int .i64 x.cb] from rfl)
  have EC := Lib.hid (fun h => @eff_cb x h)
  rw [XV.out]
  go_enter Try.func6, Try.ntmps6
  go_wp2_with fail
  have L0 := Lib.hid (HL.out.on K0.out)
  refine (few_any A n c L _ L0.out hm).mono ?_
  rintro e w1 ⟨v, rfl, hv, rfl⟩
  obtain ⟨W0, hW0⟩ : ∃ W, w.alloc (.cells x.cells 23) = W := ⟨_, rfl⟩
  rw [hW0] at K0 R0 L0
  rw [hW0]
  clear hW0
  obtain ⟨_, c0, c1, c2, c3, c4, c5, c6, c7, c8⟩ := box_of_row R0.out
  simp only [Nat.zero_add] at c1 c2 c3 c4 c5 c6 c7 c8
  cases v with
  | false =>
    go_wp2_with fail
    refine (CR.out _).mono ?_
    rintro e w2 ⟨rfl, k2⟩
    have K2 := K0.out.trans (k2.mono K0.out.size)
    go_wp2
    go_ret
    exact ⟨rfl, K2⟩
  | true =>
    obtain ⟨hn30, htot⟩ := hv rfl
    rw [HL.out.len] at hn30
    by_cases hbig : 500 < x.cb ∧ x.cb ≤ 4096
    · have d1 : decide (500 < x.cb) = true := by simp; omega
      have d2 : decide (x.cb ≤ 4096) = true := by simp; omega
      go_wp2_with fail
      refine (CR.out _).mono ?_
      rintro e w2 ⟨rfl, k2⟩
      have K2 := K0.out.trans (k2.mono K0.out.size)
      go_wp2
      go_ret
      exact ⟨rfl, K2⟩
    obtain ⟨y, hy⟩ : ∃ y, x.eff = y := ⟨_, rfl⟩
    have hcb : y.cb ≤ 500 := by rw [← hy]; exact EC.out hbig
    have HY := Lib.hid hy
    obtain ⟨zs, hzs⟩ : ∃ zs, cat L = zs := ⟨_, rfl⟩
    obtain ⟨os, hos⟩ : ∃ os, y.all zs = os := ⟨_, rfl⟩
    have HZ := Lib.hid hzs; have HO := Lib.hid hos
    have HA := Lib.hid (show Are zs by rw [← hzs]; exact cat_are (fun k hk => (HL.out.ok k (by rw [← HL.out.len]; exact hk)).are))
    have hzl : zs.length ≤ 300 := by rw [← hzs]; exact htot
    clear hv htot hy hzs hos EC
    by_cases h5 : 500 < x.cb
    case' pos =>
      have d1 : decide (500 < x.cb) = true := by simp; omega
      have d2 : decide (x.cb ≤ 4096) = false := by simp; omega
      go_wp2_with fail
    case' neg =>
      have d1 : decide (500 < x.cb) = false := by simp; omega
      go_wp2_with fail
    all_goals
      refine (CN.out _).mono ?_
      rintro e w1 ⟨b, sb, pb, T, rfl, q1, q2, q3⟩
      rw [HY.out] at q1
      have M0 := Lib.hid (show PMid W0 b sb pb y [] w1 none 0 0 T from ⟨by rw [KS_nil, L_nil, C_nil]; exact q1, q2, q3, Buf.nil _, (fun d ⟨_, _, h⟩ => by cases h)⟩)
      have ON := Lib.hid (O_nil y)
      clear q1 q2 q3 CN c0 c1 c2 c3 c4 c5 c6 c7 c8
      go_wp2
      go_loopw [6, 7, 8] (fun va vo i wr => ∃ (j : Nat) (O : Option Addr) (m oc : Nat) (T : Nat → Prop) (z o1 : List Int), j ≤ n ∧ i = .int .i64 j ∧ va = .slice O m oc ∧ vo = .string (strOfNums o1) ∧ Hid (z = cat (L.take j) ∧ o1 = y.O z) ∧ Hid (PMid W0 b sb pb y z wr O m oc T)) (fun _ _ i _ => n - (intOf i).toNat)
      case atStart => exact ⟨0, none, 0, 0, T, [], [], Nat.zero_le _, rfl, rfl, rfl, ⟨rfl, ON.out.symm⟩, M0.out⟩
      case round =>
        clear M0 ON
        obtain ⟨j, O, m, oc, T, z, o1, hj, rfl, rfl, rfl, EE, M⟩ := hrel
        have HT1 := Lib.hid (cat_take L j)
        have hz1 : z.length ≤ 300 := by have := HT1.out; rw [← EE.out.1, HZ.out] at this; omega
        have hmz : m ≤ 300 := by have := M.out.all.1; omega
        have hl1 : (y.L z).length ≤ 50000 := by have := L_le hcb z; omega
        have hc1 : y.C z ≤ 50000 := by have := C_le y z; omega
        have ho1 : o1.length ≤ 200000 := by have := O_le hcb z; rw [← EE.out.2] at this; omega
        by_cases hlt : j < n
        · obtain ⟨lb, o, rfl, hb, hc⟩ := L0.out.cells (by omega)
          have e0 := (M.out.below.cell (p := ⟨lb, o + j, none⟩) hb).trans (hc j hlt)
          have hjl : j < L.length := by have := HL.out.len; omega
          have HS := Lib.hid (cat_snoc L j hjl)
          have HX := Lib.hid (L0.out.ok j hlt)
          have HT2 := Lib.hid (cat_take L (j + 1))
          have hce := Lib.hid (hc j hlt); have HB0 := Lib.hid hb
          clear hc hb hjl
          generalize L.getD j default = e at *
          obtain ⟨xa, xn, xc, xz⟩ := e
          simp only at e0 HS hce
          rw [HS.out, ← EE.out.1, HZ.out, List.length_append] at HT2
          have hz2 : z.length + xz.length ≤ 300 := by have := HT2.out; omega
          have hxn : xn ≤ 300 := by have := HX.out.bytes.1; simp only at *; omega
          obtain ⟨o2, ho2⟩ : ∃ o2, y.cO (y.KS z) (y.L z) xz = o2 := ⟨_, rfl⟩
          obtain ⟨o3, ho3⟩ : ∃ o3, o1 ++ o2 = o3 := ⟨_, rfl⟩
          have EO := Lib.hid (show o3 = y.O (z ++ xz) by rw [O_app, ho2, ← EE.out.2, ho3])
          have ho3l : o3.length ≤ 1000000 := by have h1 := O_le hcb (z ++ xz); rw [← EO.out, List.length_append] at h1; omega
          have sa : ∀ w' : World, (Op.stringOp .add (strOfNums o1) (strOfNums o2)).run Try.prog w' = .ok (.string (strOfNums o3)) w' := str_add _ _ _ ho3 ho3l
          have E1 := Lib.hid ho2; have E2 := Lib.hid (KS_app y z xz).symm; have E3 := Lib.hid (L_app y z xz).symm; have E4 := Lib.hid (C_app y z xz).symm
          have hxa := Lib.hid (show ∀ g o, xa = some ⟨g, o, none⟩ → 0 < xn → ¬ Bs b sb T g from fun g o he hp hs => by have := HX.out.bytes.at g o he hp; have := M.out.mine g hs; omega)
          have HXW := Lib.hid (HX.out.on M.out.below)
          have hsum : m + xn ≤ 1000000 := by omega
          clear ho2 ho3
          go_wp2_with (at_builtin; refine append_buf rfl _ _ rfl M.out.all rfl HXW.out.bytes HXW.out.nil rfl hsum ?_; intro A5 c5 w5 q1 q2 q3; have M5 := Lib.hid (M.out.has q1 q2 q3); clear q1 q2 q3; have e5 := (M5.out.below.cell (p := ⟨lb, o + j, none⟩) HB0.out).trans hce.out)
          refine (putc_any b sb pb y (y.KS z) (y.L z) (y.C z) T xa xn xc xz o2 (y.KS (z ++ xz)) (y.L (z ++ xz)) (y.C (z ++ xz)) w5 M5.out.obj (HX.out.bytes.on M5.out.below) HX.out.nil hxa.out HX.out.are hcb (by omega) (by omega) (by omega) E1.out E2.out E3.out E4.out).mono ?_
          rintro e w2 ⟨A2, m2, cc2, S2, rfl, q1, q2, q3, q4, q5⟩
          obtain ⟨T2, rfl, p3⟩ := cv_open q3
          have M6 := Lib.hid (M5.out.put p3 q4 q5)
          have t1 := text_of q1.bytes.1 q1.bytes.2
          clear q1 q2 q3 q4 q5 p3 e0 e5
          go_wp2
          go_roundw
          case rel => exact ⟨j + 1, A5, _, c5, T2, z ++ xz, o3, by omega, by go_num, rfl, rfl, ⟨by rw [HS.out, EE.out.1], EO.out⟩, M6.out⟩
          case measure => simp [intOf]; omega
        · have hjn : j = n := by omega
          have HTK := Lib.hid (show z = zs by rw [EE.out.1, hjn, ← HL.out.len, List.take_length, HZ.out])
          have EO1 := Lib.hid EE.out.2
          rw [HTK.out] at M hz1 hl1 hc1 EO1
          clear HTK HT1 EE
          obtain ⟨o2, ho2⟩ : ∃ o2, y.eO (y.KS zs) (y.L zs) = o2 := ⟨_, rfl⟩
          have EO := Lib.hid (show o1 ++ o2 = os by rw [← ho2, EO1.out, all_is, HO.out])
          have ho3 : o2.length ≤ 2000 := by have := eO_le hcb zs; rw [ho2] at this; omega
          have hol : os.length ≤ 1000000 := by rw [← EO.out, List.length_append]; omega
          have sa : ∀ w' : World, (Op.stringOp .add (strOfNums o1) (strOfNums o2)).run Try.prog w' = .ok (.string (strOfNums os)) w' := str_add _ _ _ EO.out hol
          have E1 := Lib.hid ho2
          clear ho2
          go_wp2_with fail
          refine (endc_any b sb pb y (y.KS zs) (y.L zs) (y.C zs) T o2 _ wr M.out.obj hcb hl1 hc1 E1.out rfl).mono ?_
          rintro e w2 ⟨A2, m2, cc2, S2, rfl, q1, q2, q3, q4, q5⟩
          have B2 := Lib.hid (M.out.all.only q4 (fun g o s he hg => (M.out.new g ⟨o, s, he⟩).2 hg))
          have K2 := Lib.hid (M.out.below.trans (q4.below M.out.below.size M.out.mine))
          have t1 := text_of q1.bytes.1 q1.bytes.2
          clear q1 q2 q3 q4 q5
          obtain ⟨_, c0, c1, c2, c3, c4, c5, c6, c7, c8⟩ := box_of_row (R0.out.on K2.out)
          simp only [Nat.zero_add] at c1 c2 c3 c4 c5 c6 c7 c8
          go_wp2_with fail
          refine (allc_any x y A n c L zs os w2 HY.out hcb (L0.out.on K2.out) (by omega) HZ.out (by omega) HO.out).mono ?_
          rintro e w3 ⟨A3, m3, cc3, rfl, q1, q2, q3⟩
          have B3 := Lib.hid (B2.out.on q3); have K3 := Lib.hid (K2.out.trans (q3.mono K2.out.size))
          have t2 := text_of q1.bytes.1 q1.bytes.2
          clear q1 q2 q3 c0 c1 c2 c3 c4 c5 c6 c7 c8 t1 B2
          obtain ⟨_, c0, c1, c2, c3, c4, c5, c6, c7, c8⟩ := box_of_row (R0.out.on K3.out)
          simp only [Nat.zero_add] at c1 c2 c3 c4 c5 c6 c7 c8
          go_wp2_with fail
          refine (all_one x y O m oc zs os w3 HY.out hcb (B3.out.el HA.out) (by omega) HO.out).mono ?_
          rintro e w4 ⟨A4, m4, cc4, rfl, q1, q2, q3⟩
          have K4 := Lib.hid (K3.out.trans (q3.mono K3.out.size))
          have t3 := text_of q1.bytes.1 q1.bytes.2
          clear q1 q2 q3 c0 c1 c2 c3 c4 c5 c6 c7 c8 t2 B3 K3
          go_wp2_with fail
          refine (CR.out _).mono ?_
          rintro e w5 ⟨rfl, k5⟩
          have K5 := Lib.hid (K0.out.trans ((K4.out.trans (k5.mono K4.out.size)).mono K0.out.size))
          clear k5 K4 t3
          go_wp2
          go_ret
          exact ⟨rfl, K5.out⟩

end Go.Proofs.Ytghihmmapignmaa
