/- The law ConvPlays, walked. -/
import Derived.Test.YtghihmmapignmaaLawP
import Derived.Test.YtghihmmapignmaaRefR
import Derived.WalkKit
import Derived.WalkSpells
import Derived.WalkLawsBesides
import Derived.Lib.Hide
import Derived.Deep.RegionHeld3
namespace Go.Proofs.Ytghihmmapignmaa
open Go.RowKit

theorem hold1 {w w' : World} {lb p : Nat} {v : Value} (hb : lb < w.heap.size) (h1 : w.cell? ⟨lb, p, none⟩ = some v) (k : Below w.heap.size w w') : w'.cell? ⟨lb, p, none⟩ = some v ∧ Below w.heap.size w w' :=
  ⟨(k.cell (p := ⟨lb, p, none⟩) hb).trans h1, k⟩
theorem putv_any (b sb pb : Nat) (x : Cf) (ks l : List Int) (ct : Nat) (S : Nat → Prop) (A : Option Addr) (n c : Nat) (zs os ks2 l2 : List Int) (ct2 : Nat) (w : World) (h : Cv b sb pb x ks l ct w S) (hB : Bytes w A n c zs) (hN : A = none → n = 0 ∧ c = 0) (hA : ∀ g o, A = some ⟨g, o, none⟩ → 0 < n → ¬ S g) (hare : Are zs) (hcb : x.cb ≤ 500) (hn : n ≤ 1600) (hl : l.length ≤ 100000) (hct : ct ≤ 100000)
    (ho : x.cO ks l zs = os) (hk2 : x.cK ks zs = ks2) (hl2 : x.cL ks l zs = l2) (hc2 : ct + x.cC ks l zs = ct2) :
    Calls Try.prog 18 #[.pointer (some ⟨b, 0, none⟩), .slice A n c] w (Gives (Cv b sb pb x ks2 l2 ct2) S os w) := by
  obtain ⟨T, rfl, h⟩ := h
  exact putc_any b sb pb x ks l ct T A n c zs os ks2 l2 ct2 w h hB hN hA hare hcb hn hl hct ho hk2 hl2 hc2
theorem endv_any (b sb pb : Nat) (x : Cf) (ks l : List Int) (ct : Nat) (S : Nat → Prop) (os : List Int) (ct2 : Nat) (w : World) (h : Cv b sb pb x ks l ct w S) (hcb : x.cb ≤ 500) (hl : l.length ≤ 50000) (hct : ct ≤ 50000)
    (ho : x.eO ks l = os) (hc2 : ct + x.eC ks l = ct2) :
    Calls Try.prog 21 #[.pointer (some ⟨b, 0, none⟩)] w (Gives (Cv b sb pb x [] [] ct2) S os w) := by
  obtain ⟨T, rfl, h⟩ := h
  exact endc_any b sb pb x ks l ct T os ct2 w h hcb hl hct ho hc2
theorem cutv_any {b sb pb : Nat} {x : Cf} {ks l : List Int} {ct : Nat} {S : Nat → Prop} (w : World) (h : Cv b sb pb x ks l ct w S) : Calls Try.prog 20 #[.pointer (some ⟨b, 0, none⟩)] w fun e w' => e = .returned (.int .i64 (ct : Nat)) ∧ w = w' := by
  obtain ⟨T, rfl, h⟩ := h
  exact cutc_any w h
theorem cL_le {y : Cf} (hcb : y.cb ≤ 500) {ks l : List Int} (h : Side y ks l) (z : List Int) : (y.cL ks l z).length ≤ l.length + z.length + 501 := by
  have h1 := rRest_le hcb l (y.a1 ks z) h.ok; have h2 := a1_le y ks z; have h3 := h.one
  unfold Cf.cL
  omega
theorem cC_le {y : Cf} {ks l : List Int} (h : Side y ks l) (z : List Int) : y.cC ks l z ≤ z.length + 1 := by
  have h1 := rCut_le y l (y.a1 ks z); have h2 := a1_le y ks z; have h3 := h.one
  unfold Cf.cC
  omega
theorem cK_le (y : Cf) (ks z : List Int) : (y.cK ks z).length ≤ 1 := od_len _ _
theorem eC_le (y : Cf) (ks l : List Int) (h : ks.length ≤ 1) : y.eC ks l ≤ 2 := by
  have h1 := rCut_le y l (mapL y.t1 ks); have h2 := rOver_le y (y.eL ks l)
  rw [map_len] at h1
  unfold Cf.eC
  omega

set_option maxRecDepth 100000 in
set_option maxHeartbeats 32000000 in
theorem plays_walk (x : Cf) (A : Option Addr) (n c : Nat) (L : List El) (E : Option Addr) (en ec : Nat) (U : List Bool) (w : World) (hx : (Lit.int .i64 x.cb).wf = true) (hL : IsRows w A n L) (hU : IsBools w E en U) :
    Calls Try.prog 5 #[x.val, .slice A n c, .slice E en ec] w fun e w' => e = .returned (.bool true) ∧ Below w.heap.size w w' := by
  obtain ⟨hm, hL⟩ := hL
  obtain ⟨he, hU⟩ := hU
  obtain ⟨b1, b2⟩ := i64_bounds hx
  have HL := Lib.hid hL; have HU := Lib.hid hU
  clear hL hU hx
  have hm : n ≤ 9223372036854775807 := by unfold maxLen at hm; omega
  have he : en ≤ 9223372036854775807 := by unfold maxLen at he; omega
  have CR := Lib.hid law_runs; have CN := Lib.hid (newc_any x); have CRN := Lib.hid (rnewc_any x)
  have K0 := Lib.hid (show Below w.heap.size w (w.alloc (.cells x.cells 23)) from (Below.refl _ _).alloc (Nat.le_refl _) _)
  have R0 := Lib.hid (row_new w x.cells 23)
  have XV := Lib.hid (show x.val = .agg #[.bool x.sw, .bool x.bl, .bool x.ub, .bool x.lc, .bool x.uc, .bool x.ac, .bool x.eb, .bool x.ib, .int .i64 x.cb] from rfl)
  have EC := Lib.hid (fun h => @eff_cb x h)
  rw [XV.out]
  go_enter Try.func5, Try.ntmps5
  go_wp2_with fail
  have L0 := Lib.hid (HL.out.on K0.out)
  have U0 := Lib.hid (HU.out.on K0.out)
  refine (few_any A n c L _ L0.out hm).mono ?_
  rintro e w1 ⟨v, rfl, hv, rfl⟩
  obtain ⟨W0, hW0⟩ : ∃ W, w.alloc (.cells x.cells 23) = W := ⟨_, rfl⟩
  rw [hW0] at K0 R0 L0 U0
  rw [hW0]
  clear hW0
  obtain ⟨_, c0, c1, c2, c3, c4, c5, c6, c7, c8⟩ := box_of_row R0.out
  simp only [Nat.zero_add] at c1 c2 c3 c4 c5 c6 c7 c8
  cases v with
  | false =>
    go_wp2_with fail
    refine (CR.out _).mono ?_
    rintro e w2 ⟨rfl, k2⟩
    have K2 := K0.out.trans (k2.mono K0.out.size)
    go_wp2
    go_ret
    exact ⟨rfl, K2⟩
  | true =>
    obtain ⟨hn30, htot⟩ := hv rfl
    rw [HL.out.len] at hn30
    by_cases hbig : 500 < x.cb ∧ x.cb ≤ 4096
    · have d1 : decide (500 < x.cb) = true := by simp; omega
      have d2 : decide (x.cb ≤ 4096) = true := by simp; omega
      go_wp2_with fail
      refine (CR.out _).mono ?_
      rintro e w2 ⟨rfl, k2⟩
      have K2 := K0.out.trans (k2.mono K0.out.size)
      go_wp2
      go_ret
      exact ⟨rfl, K2⟩
    obtain ⟨y, hy⟩ : ∃ y, x.eff = y := ⟨_, rfl⟩
    have hcb : y.cb ≤ 500 := by rw [← hy]; exact EC.out hbig
    have HY := Lib.hid hy
    have HT := Lib.hid htot
    have D0 := Lib.hid (show Below W0.heap.size W0 W0.drew from (Below.refl _ _).drew)
    clear hv htot hy EC
    by_cases h5 : 500 < x.cb
    case pos =>
      have d1 : decide (500 < x.cb) = true := by simp; omega
      have d2 : decide (x.cb ≤ 4096) = false := by simp; omega
      go_wp2_with fail
      have hS := R0.out.on D0.out
      refine wp_region_held_drew (S := fun w' => Row w' w.heap.size 23 x.cells) (by kernel_rfl) hS (fun hHeld => ?_)
      clear hS c0 c1 c2 c3 c4 c5 c6 c7 c8
      show wpAnyH _ _ _ _ _ 6 _ _ _
      refine take_box 0 24 (fuel := 5) _ w.heap.size x rfl rfl (by kernel_rfl) (by kernel_rfl) (by kernel_rfl) (fun _ _ _ h => h) (by rfl) hHeld rfl rfl (fun _ h => h) ?_
      simp only [Act.put, List.setIfInBounds_toArray, List.set_cons_zero, List.set_cons_succ]
      refine take_box 2 26 (fuel := 4) _ w.heap.size x rfl rfl (by kernel_rfl) (by kernel_rfl) (by kernel_rfl) (fun _ _ _ h => h) (by rfl) hHeld rfl rfl (fun _ h => h) ?_
      simp only [Act.put, List.setIfInBounds_toArray, List.set_cons_zero, List.set_cons_succ]
      refine wpAnyH_ready (rs := [1]) (fuel := 3) (by kernel_rfl) (by simp) ?_
      refine AllReadyH.cons rfl (fun Kq hK => ?_) AllReadyH.nil
      go_simp
      refine (CN.out _).mono ?_
      rintro e w1 ⟨b, sb, pb, Tn, rfl, q1, q2, q3⟩
      rw [HY.out] at q1
      have M1 := Lib.hid (show Mine W0 w1 (Cv b sb pb y [] [] 0) (Bs b sb Tn) from ⟨⟨Tn, rfl, q1⟩, fun d hd => Nat.le_trans D0.out.size (q2 d hd), D0.out.trans (q3.mono D0.out.size)⟩)
      go_simp
      refine hK.out _ _ (R0.out.on M1.out.below) (fun hH1 => ?_)
      clear hK Kq hHeld q1 q2 q3
      (try simp only [Act.put, List.setIfInBounds_toArray, List.set_cons_zero, List.set_cons_succ])
      refine wpAnyH_ready (rs := [3]) (fuel := 2) (by kernel_rfl) (by simp) ?_
      refine AllReadyH.cons rfl (fun Kq hK => ?_) AllReadyH.nil
      go_simp
      refine (CRN.out _).mono ?_
      rintro e w2 ⟨r, Sr, rfl, q1, q2, q3⟩
      rw [HY.out] at q1
      have B0 := Lib.hid (M1.out.both (Cv.keeps _ _ _ _ _ _ _) q1 q2 q3)
      go_simp
      refine hK.out _ _ (R0.out.on B0.out.f.below) (fun hH2 => ?_)
      clear hK Kq hH1 q1 q2 q3
      (try simp only [Act.put, List.setIfInBounds_toArray, List.set_cons_zero, List.set_cons_succ])
      refine take_at 4 7 (v := ?vn4) (fuel := 1) rfl rfl (by kernel_rfl) (by kernel_rfl) (by kernel_rfl) (fun _ _ _ h => h) (by rfl) hH2 ?hyn4 ?restn4
      case hyn4 => (intro w' hSw; (try dsimp only at hSw); go_simp <;> with_reducible rfl)
      simp only [Act.put, List.setIfInBounds_toArray, List.set_cons_zero, List.set_cons_succ]
      refine take_at 5 8 (v := ?vn5) (fuel := 0) rfl rfl (by kernel_rfl) (by kernel_rfl) (by kernel_rfl) (fun _ _ _ h => h) (by rfl) hH2 ?hyn5 ?restn5
      case hyn5 => (intro w' hSw; (try dsimp only at hSw); go_simp <;> with_reducible rfl)
      simp only [Act.put, List.setIfInBounds_toArray, List.set_cons_zero, List.set_cons_succ]
      refine wpAnyH_done (by kernel_rfl) ?_ _
      clear hH2 M1 CN CRN HY R0 D0 d1
      (try clear d2)
      go_wp2
      go_loopw [9] (fun i wr => ∃ (j : Nat) (S T : Nat → Prop) (ks l1 : List Int) (cr : Nat), j ≤ n ∧ i = .int .i64 j ∧ Hid (Both W0 wr (Cv b sb pb y ks l1 cr) S (Rv r y ks l1 cr) T) ∧ Hid (l1.length ≤ (cat (L.take j)).length + 501 * j ∧ cr ≤ (cat (L.take j)).length + 3 * j)) (fun i _ => n - (intOf i).toNat)
      case atStart => exact ⟨0, _, _, [], [], 0, Nat.zero_le _, rfl, B0.out, by unfold Hid; exact ⟨Nat.zero_le _, Nat.zero_le _⟩⟩
      case round =>
       clear B0
       obtain ⟨j, S, T, ks, l1, cr, hj, rfl, BB, IL⟩ := hrel
       have HTJ := Lib.hid (cat_take L j)
       have hl1 : l1.length ≤ 20000 := by have := IL.out.1; have := HTJ.out; have := HT.out; omega
       have hcr : cr ≤ 400 := by have := IL.out.2; have := HTJ.out; have := HT.out; omega
       have SD := Lib.hid BB.out.g.obj.side
       by_cases hlt : j < n
       · obtain ⟨lb, o, rfl, hlb, hc⟩ := L0.out.cells (by omega)
         have e1 := Lib.hid (hc j hlt)
         have hjl : j < L.length := by have := HL.out.len; omega
         have HX := Lib.hid (L0.out.ok j hlt)
         have HC := Lib.hid (cat_le L j hjl)
         have HSN := Lib.hid (cat_snoc L j hjl)
         clear hc hjl
         generalize L.getD j default = e at *
         obtain ⟨xa, xn, xc, xz⟩ := e
         simp only at e1 HC HSN
         have hxn : xn ≤ 300 := by have := HX.out.bytes.1; have := HC.out; have := HT.out; simp only at *; omega
         obtain ⟨o2, ho2⟩ : ∃ o2, y.cO ks l1 xz = o2 := ⟨_, rfl⟩
         obtain ⟨ks2, hk2⟩ : ∃ k2, y.cK ks xz = k2 := ⟨_, rfl⟩
         obtain ⟨l2, hl2e⟩ : ∃ l2, y.cL ks l1 xz = l2 := ⟨_, rfl⟩
         obtain ⟨c2, hc2⟩ : ∃ c2, cr + y.cC ks l1 xz = c2 := ⟨_, rfl⟩
         obtain ⟨o3, ho3⟩ : ∃ o3, y.eO ks2 l2 = o3 := ⟨_, rfl⟩
         obtain ⟨c3, hc3⟩ : ∃ c3, c2 + y.eC ks2 l2 = c3 := ⟨_, rfl⟩
         have IL2 := Lib.hid (show l2.length ≤ (cat (L.take (j + 1))).length + 501 * (j + 1) ∧ c2 ≤ (cat (L.take (j + 1))).length + 3 * j + 1 by
           have h1 := cL_le hcb SD.out xz; have h2 := cC_le SD.out xz; have h3 := IL.out
           rw [hl2e] at h1
           rw [HSN.out, List.length_append]
           omega)
         have IL3 := Lib.hid (show c3 ≤ (cat (L.take (j + 1))).length + 3 * (j + 1) by
           have h1 := IL2.out.2; have h2 := eC_le y ks2 l2 (by rw [← hk2]; exact cK_le y ks xz)
           omega)
         have hl2 : l2.length ≤ 20000 := by have := IL2.out.1; have := (cat_take L (j + 1)); have := HT.out; omega
         have hc2b : c2 ≤ 400 := by have := IL2.out.2; have := (cat_take L (j + 1)); have := HT.out; omega
         have hc3b : c3 ≤ 400 := by have := IL3.out; have := (cat_take L (j + 1)); have := HT.out; omega
         have HO := Lib.hid ho2; have HK2 := Lib.hid hk2; have HL2 := Lib.hid hl2e; have HC2 := Lib.hid hc2; have HO3 := Lib.hid ho3; have HC3 := Lib.hid hc3
         clear ho2 hk2 hl2e hc2 ho3 hc3 HTJ HC HSN SD
         have j0 : (0 : Int) ≤ (j : Int) := by omega
         have j1 : (j : Int) < (n : Int) := by omega
         have BD := Lib.hid (BB.out.on (Cv.keeps _ _ _ _ _ _ _) (Rv.keeps _ _ _ _ _) (Below.refl _ _).drew)
         have HE := Lib.hid (El_away BD.out.f HX.out)
         clear BB
         go_wp2_with fail
         have hS := hold1 hlb e1.out BD.out.f.below
         refine wp_region_held_drew (S := fun w' => w'.cell? ⟨lb, o + j, none⟩ = some (.slice xa xn xc) ∧ Below W0.heap.size W0 w') (by kernel_rfl) hS (fun hHeld => ?_)
         clear hS
         show wpAnyH _ _ _ _ _ 25 _ _ _
         refine take_at 0 36 (v := ?vp0) (fuel := 24) rfl rfl (by kernel_rfl) (by kernel_rfl) (by kernel_rfl) (fun _ _ _ h => h) (by rfl) hHeld ?hyp0 ?restp0
         case hyp0 => (intro w' hSw; (try dsimp only at hSw); go_simp <;> with_reducible rfl)
         simp only [Act.put, List.setIfInBounds_toArray, List.set_cons_zero, List.set_cons_succ]
         refine take_at 1 37 (v := ?vp1) (fuel := 23) rfl rfl (by kernel_rfl) (by kernel_rfl) (by kernel_rfl) (fun _ _ _ h => h) (by rfl) hHeld ?hyp1 ?restp1
         case hyp1 => (intro w' hSw; (try dsimp only at hSw); go_simp <;> with_reducible rfl)
         simp only [Act.put, List.setIfInBounds_toArray, List.set_cons_zero, List.set_cons_succ]
         refine take_at 2 38 (v := ?vp2) (fuel := 22) rfl rfl (by kernel_rfl) (by kernel_rfl) (by kernel_rfl) (fun _ _ _ h => h) (by rfl) hHeld ?hyp2 ?restp2
         case hyp2 => (intro w' hSw; (try dsimp only at hSw); go_simp <;> with_reducible rfl)
         simp only [Act.put, List.setIfInBounds_toArray, List.set_cons_zero, List.set_cons_succ]
         refine take_at 3 39 (v := ?vp3) (fuel := 21) rfl rfl (by kernel_rfl) (by kernel_rfl) (by kernel_rfl) (fun _ _ _ h => h) (by rfl) hHeld ?hyp3 ?restp3
         case hyp3 => (intro w' hSw; (try dsimp only at hSw); go_simp <;> with_reducible rfl)
         simp only [Act.put, List.setIfInBounds_toArray, List.set_cons_zero, List.set_cons_succ]
         refine take_at 4 40 (v := ?vp4) (fuel := 20) rfl rfl (by kernel_rfl) (by kernel_rfl) (by kernel_rfl) (fun _ _ _ h => h) (by rfl) hHeld ?hyp4 ?restp4
         case hyp4 => (intro w' hSw; (try dsimp only at hSw); go_simp <;> with_reducible rfl)
         simp only [Act.put, List.setIfInBounds_toArray, List.set_cons_zero, List.set_cons_succ]
         refine take_at 7 43 (v := ?vp7) (fuel := 19) rfl rfl (by kernel_rfl) (by kernel_rfl) (by kernel_rfl) (fun _ _ _ h => h) (by rfl) hHeld ?hyp7 ?restp7
         case hyp7 => (intro w' hSw; (try dsimp only at hSw); go_simp <;> with_reducible rfl)
         simp only [Act.put, List.setIfInBounds_toArray, List.set_cons_zero, List.set_cons_succ]
         refine take_at 8 44 (v := ?vp8) (fuel := 18) rfl rfl (by kernel_rfl) (by kernel_rfl) (by kernel_rfl) (fun _ _ _ h => h) (by rfl) hHeld ?hyp8 ?restp8
         case hyp8 => (intro w' hSw; (try dsimp only at hSw); go_simp <;> with_reducible rfl)
         simp only [Act.put, List.setIfInBounds_toArray, List.set_cons_zero, List.set_cons_succ]
         refine take_at 9 45 (v := ?vp9) (fuel := 17) rfl rfl (by kernel_rfl) (by kernel_rfl) (by kernel_rfl) (fun _ _ _ h => h) (by rfl) hHeld ?hyp9 ?restp9
         case hyp9 => (intro w' hSw; (try dsimp only at hSw); go_simp <;> with_reducible rfl)
         simp only [Act.put, List.setIfInBounds_toArray, List.set_cons_zero, List.set_cons_succ]
         refine take_at 10 46 (v := ?vp10) (fuel := 16) rfl rfl (by kernel_rfl) (by kernel_rfl) (by kernel_rfl) (fun _ _ _ h => h) (by rfl) hHeld ?hyp10 ?restp10
         case hyp10 => (intro w' hSw; (try dsimp only at hSw); go_simp <;> with_reducible rfl)
         simp only [Act.put, List.setIfInBounds_toArray, List.set_cons_zero, List.set_cons_succ]
         refine take_at 11 47 (v := ?vp11) (fuel := 15) rfl rfl (by kernel_rfl) (by kernel_rfl) (by kernel_rfl) (fun _ _ _ h => h) (by rfl) hHeld ?hyp11 ?restp11
         case hyp11 => (intro w' hSw; (try dsimp only at hSw); go_simp <;> with_reducible rfl)
         simp only [Act.put, List.setIfInBounds_toArray, List.set_cons_zero, List.set_cons_succ]
         refine wpAnyH_ready (rs := [5]) (fuel := 14) (by kernel_rfl) (by simp) ?_
         refine AllReadyH.cons rfl (fun Kq hK => ?_) AllReadyH.nil
         go_simp
         refine (putv_any b sb pb y ks l1 cr S xa xn xc xz o2 ks2 l2 c2 _ BD.out.f.obj HE.out.1.bytes HX.out.nil HE.out.2 HX.out.are hcb (by omega) (by omega) (by omega) HO.out HK2.out HL2.out HC2.out).mono ?_
         rintro e w5 ⟨A1, m1, cc1, S5, rfl, q1, q2, q3, q4, q5⟩
         have B5 := Lib.hid (BD.out.fst (Rv.keeps _ _ _ _ _) q3 q4 q5)
         have T1 := Lib.hid q1; have N1 := Lib.hid (show ∀ g o s, A1 = some ⟨g, o, s⟩ → ¬ T g from fun g o s he ht => by have := (q2 g o s he).1; have := (Rv.keeps _ _ _ _ _).lt BD.out.g.obj g ht; omega)
         have HE5 := Lib.hid (El_away B5.out.g HX.out)
         go_simp
         refine hK.out _ _ (hold1 hlb e1.out B5.out.f.below) (fun hH1 => ?_)
         refine wpAnyH_more (S' := fun w' => (w'.cell? ⟨lb, o + j, none⟩ = some (.slice xa xn xc) ∧ Below W0.heap.size W0 w') ∧ Bytes w' A1 m1 cc1 o2) (fun _ h => h.1) _ _ _ _ ?_
         have hH2 := (show (fun w' : World => (w'.cell? ⟨lb, o + j, none⟩ = some (.slice xa xn xc) ∧ Below W0.heap.size W0 w') ∧ Bytes w' A1 m1 cc1 o2) w5 from ⟨hH1, T1.out.bytes.1⟩)
         clear hK Kq hHeld hH1 q1 q2 q3 q4 q5
         (try simp only [Act.put, List.setIfInBounds_toArray, List.set_cons_zero, List.set_cons_succ])
         refine take_text 6 42 (fuel := 13) _ A1 m1 cc1 o2 rfl rfl (by kernel_rfl) (by kernel_rfl) (by kernel_rfl) (fun _ _ _ h => h) (by rfl) hH2 rfl rfl (fun _ h => h.2) T1.out.bytes.2 ?_
         simp only [Act.put, List.setIfInBounds_toArray, List.set_cons_zero, List.set_cons_succ]
         refine wpAnyH_ready (rs := [12]) (fuel := 12) (by kernel_rfl) (by simp) ?_
         refine AllReadyH.cons rfl (fun Kq hK => ?_) AllReadyH.nil
         go_simp
         refine (rputc_any r y ks l1 cr T xa xn xc xz o2 ks2 l2 c2 _ B5.out.g.obj HE5.out.1.bytes HX.out.nil HX.out.are hcb (by omega) (by omega) (by omega) HO.out HK2.out HL2.out HC2.out).mono ?_
         rintro e w6 ⟨A2, m2, cc2, T6s, rfl, q1, q2, q3, q4, q5⟩
         have B6 := Lib.hid (B5.out.snd (Cv.keeps _ _ _ _ _ _ _) q3 q4 q5)
         have T6 := Lib.hid q1
         go_simp
         refine hK.out _ _ ⟨hold1 hlb e1.out B6.out.f.below, (T1.out.only q4 N1.out).bytes.1⟩ (fun hH3 => ?_)
         refine wpAnyH_more (S' := fun w' => ((w'.cell? ⟨lb, o + j, none⟩ = some (.slice xa xn xc) ∧ Below W0.heap.size W0 w') ∧ Bytes w' A1 m1 cc1 o2) ∧ Bytes w' A2 m2 cc2 o2 ∧ w'.cell? ⟨r, 12, none⟩ = some (.int .i64 (c2 : Nat))) (fun _ h => h.1) _ _ _ _ ?_
         have hH4 := (show (fun w' : World => ((w'.cell? ⟨lb, o + j, none⟩ = some (.slice xa xn xc) ∧ Below W0.heap.size W0 w') ∧ Bytes w' A1 m1 cc1 o2) ∧ Bytes w' A2 m2 cc2 o2 ∧ w'.cell? ⟨r, 12, none⟩ = some (.int .i64 (c2 : Nat))) w6 from ⟨hH3, T6.out.bytes.1, B6.out.g.obj.cut⟩)
         clear hK Kq hH2 hH3 q1 q2 q3 q4 q5
         (try simp only [Act.put, List.setIfInBounds_toArray, List.set_cons_zero, List.set_cons_succ])
         refine take_text 13 49 (fuel := 11) _ A2 m2 cc2 o2 rfl rfl (by kernel_rfl) (by kernel_rfl) (by kernel_rfl) (fun _ _ _ h => h) (by rfl) hH4 rfl rfl (fun _ h => h.2.1) T6.out.bytes.2 ?_
         simp only [Act.put, List.setIfInBounds_toArray, List.set_cons_zero, List.set_cons_succ]
         refine take_at 14 50 (v := ?vp14) (fuel := 10) rfl rfl (by kernel_rfl) (by kernel_rfl) (by kernel_rfl) (fun _ _ _ h => h) (by rfl) hH4 ?hyp14 ?restp14
         case hyp14 => (intro w' hSw; (try dsimp only at hSw); go_simp <;> with_reducible rfl)
         simp only [Act.put, List.setIfInBounds_toArray, List.set_cons_zero, List.set_cons_succ]
         refine take_at 15 51 (v := ?vp15) (fuel := 9) rfl rfl (by kernel_rfl) (by kernel_rfl) (by kernel_rfl) (fun _ _ _ h => h) (by rfl) hH4 ?hyp15 ?restp15
         case hyp15 => (intro w' hSw; (try dsimp only at hSw); go_simp <;> with_reducible rfl)
         simp only [Act.put, List.setIfInBounds_toArray, List.set_cons_zero, List.set_cons_succ]
         refine take_at 16 52 (v := ?vp16) (fuel := 8) rfl rfl (by kernel_rfl) (by kernel_rfl) (by kernel_rfl) (fun _ _ _ h => h) (by rfl) hH4 ?hyp16 ?restp16
         case hyp16 => (intro w' hSw; (try dsimp only at hSw); go_simp <;> with_reducible rfl)
         simp only [Act.put, List.setIfInBounds_toArray, List.set_cons_zero, List.set_cons_succ]
         refine take_at 18 54 (v := ?vp18) (fuel := 7) rfl rfl (by kernel_rfl) (by kernel_rfl) (by kernel_rfl) (fun _ _ _ h => h) (by rfl) hH4 ?hyp18 ?restp18
         case hyp18 => (intro w' hSw; (try dsimp only at hSw); go_simp <;> with_reducible rfl)
         simp only [Act.put, List.setIfInBounds_toArray, List.set_cons_zero, List.set_cons_succ]
         refine take_at 19 55 (v := ?vp19) (fuel := 6) rfl rfl (by kernel_rfl) (by kernel_rfl) (by kernel_rfl) (fun _ _ _ h => h) (by rfl) hH4 ?hyp19 ?restp19
         case hyp19 => (intro w' hSw; (try dsimp only at hSw); go_simp <;> with_reducible rfl)
         simp only [Act.put, List.setIfInBounds_toArray, List.set_cons_zero, List.set_cons_succ]
         refine take_at 20 56 (v := ?vp20) (fuel := 5) rfl rfl (by kernel_rfl) (by kernel_rfl) (by kernel_rfl) (fun _ _ _ h => h) (by rfl) hH4 ?hyp20 ?restp20
         case hyp20 => (intro w' hSw; (try dsimp only at hSw); go_simp <;> with_reducible rfl)
         simp only [Act.put, List.setIfInBounds_toArray, List.set_cons_zero, List.set_cons_succ]
         refine take_at 21 57 (v := ?vp21) (fuel := 4) rfl rfl (by kernel_rfl) (by kernel_rfl) (by kernel_rfl) (fun _ _ _ h => h) (by rfl) hH4 ?hyp21 ?restp21
         case hyp21 => (intro w' hSw; (try dsimp only at hSw); go_simp <;> with_reducible rfl)
         simp only [Act.put, List.setIfInBounds_toArray, List.set_cons_zero, List.set_cons_succ]
         refine take_at 22 58 (v := ?vp22) (fuel := 3) rfl rfl (by kernel_rfl) (by kernel_rfl) (by kernel_rfl) (fun _ _ _ h => h) (by rfl) hH4 ?hyp22 ?restp22
         case hyp22 => (intro w' hSw; (try dsimp only at hSw); go_simp <;> with_reducible rfl)
         simp only [Act.put, List.setIfInBounds_toArray, List.set_cons_zero, List.set_cons_succ]
         refine wpAnyH_ready (rs := [17]) (fuel := 2) (by kernel_rfl) (by simp) ?_
         refine AllReadyH.cons rfl (fun Kq hK => ?_) AllReadyH.nil
         go_simp
         refine (cutv_any _ B6.out.f.obj).mono ?_
         rintro e wq1 ⟨rfl, rfl⟩
         go_simp
         refine hK.out _ _ hH4 (fun hQ1 => ?_)
         clear hK Kq hH4
         (try simp only [Act.put, List.setIfInBounds_toArray, List.set_cons_zero, List.set_cons_succ])
         refine take_at 23 59 (v := ?vp23) (fuel := 1) rfl rfl (by kernel_rfl) (by kernel_rfl) (by kernel_rfl) (fun _ _ _ h => h) (by rfl) hQ1 ?hyp23 ?restp23
         case hyp23 => (intro w' hSw; (try dsimp only at hSw); go_simp <;> with_reducible rfl)
         simp only [Act.put, List.setIfInBounds_toArray, List.set_cons_zero, List.set_cons_succ]
         refine take_at 24 60 (v := ?vp24) (fuel := 0) rfl rfl (by kernel_rfl) (by kernel_rfl) (by kernel_rfl) (fun _ _ _ h => h) (by rfl) hQ1 ?hyp24 ?restp24
         case hyp24 => (intro w' hSw; (try dsimp only at hSw); go_simp <;> with_reducible rfl)
         simp only [Act.put, List.setIfInBounds_toArray, List.set_cons_zero, List.set_cons_succ]
         refine wpAnyH_done (by kernel_rfl) ?_ _
         clear hQ1 HE HE5 T1 N1 T6 B5 BD
         have BQ := Lib.hid (B6.out.on (Cv.keeps _ _ _ _ _ _ _) (Rv.keeps _ _ _ _ _) (Below.refl _ _).drew)
         clear B6
         by_cases hje : j < en
         · obtain ⟨eb, eo, rfl, heb, hec⟩ := U0.out.cells (by omega)
           have e2 := Lib.hid (hec j hje)
           clear hec
           have j2 : (j : Int) < (en : Int) := by omega
           generalize U.getD j false = u at e2
           cases u with
           | true =>
             go_wp2_with fail
             have hS := hold1 heb e2.out BQ.out.f.below
             refine wp_region_held_drew (S := fun w' => w'.cell? ⟨eb, eo + j, none⟩ = some (.bool true) ∧ Below W0.heap.size W0 w') (by kernel_rfl) hS (fun hHeld => ?_)
             clear hS
             show wpAnyH _ _ _ _ _ 29 _ _ _
             refine take_at 0 61 (v := ?va0) (fuel := 28) rfl rfl (by kernel_rfl) (by kernel_rfl) (by kernel_rfl) (fun _ _ _ h => h) (by rfl) hHeld ?hya0 ?resta0
             case hya0 => (intro w' hSw; (try dsimp only at hSw); go_simp <;> with_reducible rfl)
             simp only [Act.put, List.setIfInBounds_toArray, List.set_cons_zero, List.set_cons_succ]
             refine take_at 1 62 (v := ?va1) (fuel := 27) rfl rfl (by kernel_rfl) (by kernel_rfl) (by kernel_rfl) (fun _ _ _ h => h) (by rfl) hHeld ?hya1 ?resta1
             case hya1 => (intro w' hSw; (try dsimp only at hSw); go_simp <;> with_reducible rfl)
             simp only [Act.put, List.setIfInBounds_toArray, List.set_cons_zero, List.set_cons_succ]
             refine take_at 2 63 (v := ?va2) (fuel := 26) rfl rfl (by kernel_rfl) (by kernel_rfl) (by kernel_rfl) (fun _ _ _ h => h) (by rfl) hHeld ?hya2 ?resta2
             case hya2 => (intro w' hSw; (try dsimp only at hSw); go_simp <;> with_reducible rfl)
             simp only [Act.put, List.setIfInBounds_toArray, List.set_cons_zero, List.set_cons_succ]
             refine take_at 3 64 (v := ?va3) (fuel := 25) rfl rfl (by kernel_rfl) (by kernel_rfl) (by kernel_rfl) (fun _ _ _ h => h) (by rfl) hHeld ?hya3 ?resta3
             case hya3 => (intro w' hSw; (try dsimp only at hSw); go_simp <;> with_reducible rfl)
             simp only [Act.put, List.setIfInBounds_toArray, List.set_cons_zero, List.set_cons_succ]
             refine take_at 4 65 (v := ?va4) (fuel := 24) rfl rfl (by kernel_rfl) (by kernel_rfl) (by kernel_rfl) (fun _ _ _ h => h) (by rfl) hHeld ?hya4 ?resta4
             case hya4 => (intro w' hSw; (try dsimp only at hSw); go_simp <;> with_reducible rfl)
             simp only [Act.put, List.setIfInBounds_toArray, List.set_cons_zero, List.set_cons_succ]
             refine take_at 5 66 (v := ?va5) (fuel := 23) rfl rfl (by kernel_rfl) (by kernel_rfl) (by kernel_rfl) (fun _ _ _ h => h) (by rfl) hHeld ?hya5 ?resta5
             case hya5 => (intro w' hSw; (try dsimp only at hSw); go_simp <;> with_reducible rfl)
             simp only [Act.put, List.setIfInBounds_toArray, List.set_cons_zero, List.set_cons_succ]
             refine take_at 6 67 (v := ?va6) (fuel := 22) rfl rfl (by kernel_rfl) (by kernel_rfl) (by kernel_rfl) (fun _ _ _ h => h) (by rfl) hHeld ?hya6 ?resta6
             case hya6 => (intro w' hSw; (try dsimp only at hSw); go_simp <;> with_reducible rfl)
             simp only [Act.put, List.setIfInBounds_toArray, List.set_cons_zero, List.set_cons_succ]
             refine take_at 7 68 (v := ?va7) (fuel := 21) rfl rfl (by kernel_rfl) (by kernel_rfl) (by kernel_rfl) (fun _ _ _ h => h) (by rfl) hHeld ?hya7 ?resta7
             case hya7 => (intro w' hSw; (try dsimp only at hSw); go_simp <;> with_reducible rfl)
             simp only [Act.put, List.setIfInBounds_toArray, List.set_cons_zero, List.set_cons_succ]
             refine take_at 8 69 (v := ?va8) (fuel := 20) rfl rfl (by kernel_rfl) (by kernel_rfl) (by kernel_rfl) (fun _ _ _ h => h) (by rfl) hHeld ?hya8 ?resta8
             case hya8 => (intro w' hSw; (try dsimp only at hSw); go_simp <;> with_reducible rfl)
             simp only [Act.put, List.setIfInBounds_toArray, List.set_cons_zero, List.set_cons_succ]
             refine take_at 9 70 (v := ?va9) (fuel := 19) rfl rfl (by kernel_rfl) (by kernel_rfl) (by kernel_rfl) (fun _ _ _ h => h) (by rfl) hHeld ?hya9 ?resta9
             case hya9 => (intro w' hSw; (try dsimp only at hSw); go_simp <;> with_reducible rfl)
             simp only [Act.put, List.setIfInBounds_toArray, List.set_cons_zero, List.set_cons_succ]
             refine take_at 10 71 (v := ?va10) (fuel := 18) rfl rfl (by kernel_rfl) (by kernel_rfl) (by kernel_rfl) (fun _ _ _ h => h) (by rfl) hHeld ?hya10 ?resta10
             case hya10 => (intro w' hSw; (try dsimp only at hSw); go_simp <;> with_reducible rfl)
             simp only [Act.put, List.setIfInBounds_toArray, List.set_cons_zero, List.set_cons_succ]
             refine take_at 11 72 (v := ?va11) (fuel := 17) rfl rfl (by kernel_rfl) (by kernel_rfl) (by kernel_rfl) (fun _ _ _ h => h) (by rfl) hHeld ?hya11 ?resta11
             case hya11 => (intro w' hSw; (try dsimp only at hSw); go_simp <;> with_reducible rfl)
             simp only [Act.put, List.setIfInBounds_toArray, List.set_cons_zero, List.set_cons_succ]
             refine take_at 14 75 (v := ?va14) (fuel := 16) rfl rfl (by kernel_rfl) (by kernel_rfl) (by kernel_rfl) (fun _ _ _ h => h) (by rfl) hHeld ?hya14 ?resta14
             case hya14 => (intro w' hSw; (try dsimp only at hSw); go_simp <;> with_reducible rfl)
             simp only [Act.put, List.setIfInBounds_toArray, List.set_cons_zero, List.set_cons_succ]
             refine wpAnyH_ready (rs := [12]) (fuel := 15) (by kernel_rfl) (by simp) ?_
             refine AllReadyH.cons rfl (fun Kq hK => ?_) AllReadyH.nil
             go_simp
             refine (endv_any b sb pb y ks2 l2 c2 S5 o3 c3 _ BQ.out.f.obj hcb (by omega) (by omega) HO3.out HC3.out).mono ?_
             rintro e w8 ⟨A3, m3, cc3, S8, rfl, q1, q2, q3, q4, q5⟩
             have B8 := Lib.hid (BQ.out.fst (Rv.keeps _ _ _ _ _) q3 q4 q5)
             have T3 := Lib.hid q1; have N3 := Lib.hid (show ∀ g o s, A3 = some ⟨g, o, s⟩ → ¬ T6s g from fun g o s he ht => by have := (q2 g o s he).1; have := (Rv.keeps _ _ _ _ _).lt BQ.out.g.obj g ht; omega)
             go_simp
             refine hK.out _ _ (hold1 heb e2.out B8.out.f.below) (fun hH1 => ?_)
             refine wpAnyH_more (S' := fun w' => (w'.cell? ⟨eb, eo + j, none⟩ = some (.bool true) ∧ Below W0.heap.size W0 w') ∧ Bytes w' A3 m3 cc3 o3) (fun _ h => h.1) _ _ _ _ ?_
             have hH2 := (show (fun w' : World => (w'.cell? ⟨eb, eo + j, none⟩ = some (.bool true) ∧ Below W0.heap.size W0 w') ∧ Bytes w' A3 m3 cc3 o3) w8 from ⟨hH1, T3.out.bytes.1⟩)
             clear hK Kq hHeld hH1 q1 q2 q3 q4 q5
             (try simp only [Act.put, List.setIfInBounds_toArray, List.set_cons_zero, List.set_cons_succ])
             refine take_text 13 74 (fuel := 14) _ A3 m3 cc3 o3 rfl rfl (by kernel_rfl) (by kernel_rfl) (by kernel_rfl) (fun _ _ _ h => h) (by rfl) hH2 rfl rfl (fun _ h => h.2) T3.out.bytes.2 ?_
             simp only [Act.put, List.setIfInBounds_toArray, List.set_cons_zero, List.set_cons_succ]
             refine wpAnyH_ready (rs := [15]) (fuel := 13) (by kernel_rfl) (by simp) ?_
             refine AllReadyH.cons rfl (fun Kq hK => ?_) AllReadyH.nil
             go_simp
             refine (rendc_any r y ks2 l2 c2 T6s o3 c3 _ B8.out.g.obj hcb (by omega) (by omega) HO3.out HC3.out).mono ?_
             rintro e w9 ⟨A4, m4, cc4, T9, rfl, q1, q3, q4, q5⟩
             have B9 := Lib.hid (B8.out.snd (Cv.keeps _ _ _ _ _ _ _) q3 q4 q5)
             have T4 := Lib.hid q1
             go_simp
             refine hK.out _ _ ⟨hold1 heb e2.out B9.out.f.below, (T3.out.only q4 N3.out).bytes.1⟩ (fun hH3 => ?_)
             refine wpAnyH_more (S' := fun w' => ((w'.cell? ⟨eb, eo + j, none⟩ = some (.bool true) ∧ Below W0.heap.size W0 w') ∧ Bytes w' A3 m3 cc3 o3) ∧ Bytes w' A4 m4 cc4 o3 ∧ w'.cell? ⟨r, 12, none⟩ = some (.int .i64 (c3 : Nat))) (fun _ h => h.1) _ _ _ _ ?_
             have hH4 := (show (fun w' : World => ((w'.cell? ⟨eb, eo + j, none⟩ = some (.bool true) ∧ Below W0.heap.size W0 w') ∧ Bytes w' A3 m3 cc3 o3) ∧ Bytes w' A4 m4 cc4 o3 ∧ w'.cell? ⟨r, 12, none⟩ = some (.int .i64 (c3 : Nat))) w9 from ⟨hH3, T4.out.bytes.1, B9.out.g.obj.cut⟩)
             clear hK Kq hH2 hH3 q1 q3 q4 q5
             (try simp only [Act.put, List.setIfInBounds_toArray, List.set_cons_zero, List.set_cons_succ])
             refine take_text 16 77 (fuel := 12) _ A4 m4 cc4 o3 rfl rfl (by kernel_rfl) (by kernel_rfl) (by kernel_rfl) (fun _ _ _ h => h) (by rfl) hH4 rfl rfl (fun _ h => h.2.1) T4.out.bytes.2 ?_
             simp only [Act.put, List.setIfInBounds_toArray, List.set_cons_zero, List.set_cons_succ]
             refine take_at 17 78 (v := ?va17) (fuel := 11) rfl rfl (by kernel_rfl) (by kernel_rfl) (by kernel_rfl) (fun _ _ _ h => h) (by rfl) hH4 ?hya17 ?resta17
             case hya17 => (intro w' hSw; (try dsimp only at hSw); go_simp <;> with_reducible rfl)
             simp only [Act.put, List.setIfInBounds_toArray, List.set_cons_zero, List.set_cons_succ]
             refine take_at 18 79 (v := ?va18) (fuel := 10) rfl rfl (by kernel_rfl) (by kernel_rfl) (by kernel_rfl) (fun _ _ _ h => h) (by rfl) hH4 ?hya18 ?resta18
             case hya18 => (intro w' hSw; (try dsimp only at hSw); go_simp <;> with_reducible rfl)
             simp only [Act.put, List.setIfInBounds_toArray, List.set_cons_zero, List.set_cons_succ]
             refine take_at 19 80 (v := ?va19) (fuel := 9) rfl rfl (by kernel_rfl) (by kernel_rfl) (by kernel_rfl) (fun _ _ _ h => h) (by rfl) hH4 ?hya19 ?resta19
             case hya19 => (intro w' hSw; (try dsimp only at hSw); go_simp <;> with_reducible rfl)
             simp only [Act.put, List.setIfInBounds_toArray, List.set_cons_zero, List.set_cons_succ]
             refine take_at 21 82 (v := ?va21) (fuel := 8) rfl rfl (by kernel_rfl) (by kernel_rfl) (by kernel_rfl) (fun _ _ _ h => h) (by rfl) hH4 ?hya21 ?resta21
             case hya21 => (intro w' hSw; (try dsimp only at hSw); go_simp <;> with_reducible rfl)
             simp only [Act.put, List.setIfInBounds_toArray, List.set_cons_zero, List.set_cons_succ]
             refine take_at 22 83 (v := ?va22) (fuel := 7) rfl rfl (by kernel_rfl) (by kernel_rfl) (by kernel_rfl) (fun _ _ _ h => h) (by rfl) hH4 ?hya22 ?resta22
             case hya22 => (intro w' hSw; (try dsimp only at hSw); go_simp <;> with_reducible rfl)
             simp only [Act.put, List.setIfInBounds_toArray, List.set_cons_zero, List.set_cons_succ]
             refine take_at 23 84 (v := ?va23) (fuel := 6) rfl rfl (by kernel_rfl) (by kernel_rfl) (by kernel_rfl) (fun _ _ _ h => h) (by rfl) hH4 ?hya23 ?resta23
             case hya23 => (intro w' hSw; (try dsimp only at hSw); go_simp <;> with_reducible rfl)
             simp only [Act.put, List.setIfInBounds_toArray, List.set_cons_zero, List.set_cons_succ]
             refine take_at 24 85 (v := ?va24) (fuel := 5) rfl rfl (by kernel_rfl) (by kernel_rfl) (by kernel_rfl) (fun _ _ _ h => h) (by rfl) hH4 ?hya24 ?resta24
             case hya24 => (intro w' hSw; (try dsimp only at hSw); go_simp <;> with_reducible rfl)
             simp only [Act.put, List.setIfInBounds_toArray, List.set_cons_zero, List.set_cons_succ]
             refine take_at 25 86 (v := ?va25) (fuel := 4) rfl rfl (by kernel_rfl) (by kernel_rfl) (by kernel_rfl) (fun _ _ _ h => h) (by rfl) hH4 ?hya25 ?resta25
             case hya25 => (intro w' hSw; (try dsimp only at hSw); go_simp <;> with_reducible rfl)
             simp only [Act.put, List.setIfInBounds_toArray, List.set_cons_zero, List.set_cons_succ]
             refine wpAnyH_ready (rs := [20]) (fuel := 3) (by kernel_rfl) (by simp) ?_
             refine AllReadyH.cons rfl (fun Kq hK => ?_) AllReadyH.nil
             go_simp
             refine (cutv_any _ B9.out.f.obj).mono ?_
             rintro e wq2 ⟨rfl, rfl⟩
             go_simp
             refine hK.out _ _ hH4 (fun hQ2 => ?_)
             clear hK Kq hH4
             (try simp only [Act.put, List.setIfInBounds_toArray, List.set_cons_zero, List.set_cons_succ])
             refine take_at 26 87 (v := ?va26) (fuel := 2) rfl rfl (by kernel_rfl) (by kernel_rfl) (by kernel_rfl) (fun _ _ _ h => h) (by rfl) hQ2 ?hya26 ?resta26
             case hya26 => (intro w' hSw; (try dsimp only at hSw); go_simp <;> with_reducible rfl)
             simp only [Act.put, List.setIfInBounds_toArray, List.set_cons_zero, List.set_cons_succ]
             refine take_at 27 88 (v := ?va27) (fuel := 1) rfl rfl (by kernel_rfl) (by kernel_rfl) (by kernel_rfl) (fun _ _ _ h => h) (by rfl) hQ2 ?hya27 ?resta27
             case hya27 => (intro w' hSw; (try dsimp only at hSw); go_simp <;> with_reducible rfl)
             simp only [Act.put, List.setIfInBounds_toArray, List.set_cons_zero, List.set_cons_succ]
             refine take_at 28 89 (v := ?va28) (fuel := 0) rfl rfl (by kernel_rfl) (by kernel_rfl) (by kernel_rfl) (fun _ _ _ h => h) (by rfl) hQ2 ?hya28 ?resta28
             case hya28 => (intro w' hSw; (try dsimp only at hSw); go_simp <;> with_reducible rfl)
             simp only [Act.put, List.setIfInBounds_toArray, List.set_cons_zero, List.set_cons_succ]
             refine wpAnyH_done (by kernel_rfl) ?_ _
             clear hQ2 T3 N3 T4 B8 BQ
             go_wp2
             go_roundw
             case rel => exact ⟨j + 1, S8, T9, [], [], c3, by omega, by go_num, B9.out, ⟨Nat.zero_le _, IL3.out⟩⟩
             case measure => simp [intOf]; omega
           | false =>
             go_wp2_with fail
             have hS := hold1 heb e2.out BQ.out.f.below
             refine wp_region_held_drew (S := fun w' => w'.cell? ⟨eb, eo + j, none⟩ = some (.bool false) ∧ Below W0.heap.size W0 w') (by kernel_rfl) hS (fun hHeld => ?_)
             clear hS
             show wpAnyH _ _ _ _ _ 29 _ _ _
             refine take_at 0 61 (v := ?vb0) (fuel := 28) rfl rfl (by kernel_rfl) (by kernel_rfl) (by kernel_rfl) (fun _ _ _ h => h) (by rfl) hHeld ?hyb0 ?restb0
             case hyb0 => (intro w' hSw; (try dsimp only at hSw); go_simp <;> with_reducible rfl)
             simp only [Act.put, List.setIfInBounds_toArray, List.set_cons_zero, List.set_cons_succ]
             refine take_at 1 62 (v := ?vb1) (fuel := 27) rfl rfl (by kernel_rfl) (by kernel_rfl) (by kernel_rfl) (fun _ _ _ h => h) (by rfl) hHeld ?hyb1 ?restb1
             case hyb1 => (intro w' hSw; (try dsimp only at hSw); go_simp <;> with_reducible rfl)
             simp only [Act.put, List.setIfInBounds_toArray, List.set_cons_zero, List.set_cons_succ]
             refine take_at 2 63 (v := ?vb2) (fuel := 26) rfl rfl (by kernel_rfl) (by kernel_rfl) (by kernel_rfl) (fun _ _ _ h => h) (by rfl) hHeld ?hyb2 ?restb2
             case hyb2 => (intro w' hSw; (try dsimp only at hSw); go_simp <;> with_reducible rfl)
             simp only [Act.put, List.setIfInBounds_toArray, List.set_cons_zero, List.set_cons_succ]
             refine take_at 3 64 (v := ?vb3) (fuel := 25) rfl rfl (by kernel_rfl) (by kernel_rfl) (by kernel_rfl) (fun _ _ _ h => h) (by rfl) hHeld ?hyb3 ?restb3
             case hyb3 => (intro w' hSw; (try dsimp only at hSw); go_simp <;> with_reducible rfl)
             simp only [Act.put, List.setIfInBounds_toArray, List.set_cons_zero, List.set_cons_succ]
             refine take_at 4 65 (v := ?vb4) (fuel := 24) rfl rfl (by kernel_rfl) (by kernel_rfl) (by kernel_rfl) (fun _ _ _ h => h) (by rfl) hHeld ?hyb4 ?restb4
             case hyb4 => (intro w' hSw; (try dsimp only at hSw); go_simp <;> with_reducible rfl)
             simp only [Act.put, List.setIfInBounds_toArray, List.set_cons_zero, List.set_cons_succ]
             refine take_at 5 66 (v := ?vb5) (fuel := 23) rfl rfl (by kernel_rfl) (by kernel_rfl) (by kernel_rfl) (fun _ _ _ h => h) (by rfl) hHeld ?hyb5 ?restb5
             case hyb5 => (intro w' hSw; (try dsimp only at hSw); go_simp <;> with_reducible rfl)
             simp only [Act.put, List.setIfInBounds_toArray, List.set_cons_zero, List.set_cons_succ]
             refine take_at 6 67 (v := ?vb6) (fuel := 22) rfl rfl (by kernel_rfl) (by kernel_rfl) (by kernel_rfl) (fun _ _ _ h => h) (by rfl) hHeld ?hyb6 ?restb6
             case hyb6 => (intro w' hSw; (try dsimp only at hSw); go_simp <;> with_reducible rfl)
             simp only [Act.put, List.setIfInBounds_toArray, List.set_cons_zero, List.set_cons_succ]
             refine take_at 7 68 (v := ?vb7) (fuel := 21) rfl rfl (by kernel_rfl) (by kernel_rfl) (by kernel_rfl) (fun _ _ _ h => h) (by rfl) hHeld ?hyb7 ?restb7
             case hyb7 => (intro w' hSw; (try dsimp only at hSw); go_simp <;> with_reducible rfl)
             simp only [Act.put, List.setIfInBounds_toArray, List.set_cons_zero, List.set_cons_succ]
             refine take_at 8 69 (v := ?vb8) (fuel := 20) rfl rfl (by kernel_rfl) (by kernel_rfl) (by kernel_rfl) (fun _ _ _ h => h) (by rfl) hHeld ?hyb8 ?restb8
             case hyb8 => (intro w' hSw; (try dsimp only at hSw); go_simp <;> with_reducible rfl)
             simp only [Act.put, List.setIfInBounds_toArray, List.set_cons_zero, List.set_cons_succ]
             refine take_at 9 70 (v := ?vb9) (fuel := 19) rfl rfl (by kernel_rfl) (by kernel_rfl) (by kernel_rfl) (fun _ _ _ h => h) (by rfl) hHeld ?hyb9 ?restb9
             case hyb9 => (intro w' hSw; (try dsimp only at hSw); go_simp <;> with_reducible rfl)
             simp only [Act.put, List.setIfInBounds_toArray, List.set_cons_zero, List.set_cons_succ]
             refine take_at 10 71 (v := ?vb10) (fuel := 18) rfl rfl (by kernel_rfl) (by kernel_rfl) (by kernel_rfl) (fun _ _ _ h => h) (by rfl) hHeld ?hyb10 ?restb10
             case hyb10 => (intro w' hSw; (try dsimp only at hSw); go_simp <;> with_reducible rfl)
             simp only [Act.put, List.setIfInBounds_toArray, List.set_cons_zero, List.set_cons_succ]
             refine skip_at 11 72 (fuel := 17) rfl rfl (by kernel_rfl) (by kernel_rfl) (by kernel_rfl) (fun _ _ _ h => h) (by rfl) hHeld ?_
             simp only [Act.put, List.setIfInBounds_toArray, List.set_cons_zero, List.set_cons_succ]
             refine skip_at 12 73 (fuel := 16) rfl rfl (by kernel_rfl) (by kernel_rfl) (by kernel_rfl) (fun _ _ _ h => h) (by rfl) hHeld ?_
             simp only [Act.put, List.setIfInBounds_toArray, List.set_cons_zero, List.set_cons_succ]
             refine skip_at 13 74 (fuel := 15) rfl rfl (by kernel_rfl) (by kernel_rfl) (by kernel_rfl) (fun _ _ _ h => h) (by rfl) hHeld ?_
             simp only [Act.put, List.setIfInBounds_toArray, List.set_cons_zero, List.set_cons_succ]
             refine skip_at 14 75 (fuel := 14) rfl rfl (by kernel_rfl) (by kernel_rfl) (by kernel_rfl) (fun _ _ _ h => h) (by rfl) hHeld ?_
             simp only [Act.put, List.setIfInBounds_toArray, List.set_cons_zero, List.set_cons_succ]
             refine skip_at 15 76 (fuel := 13) rfl rfl (by kernel_rfl) (by kernel_rfl) (by kernel_rfl) (fun _ _ _ h => h) (by rfl) hHeld ?_
             simp only [Act.put, List.setIfInBounds_toArray, List.set_cons_zero, List.set_cons_succ]
             refine skip_at 16 77 (fuel := 12) rfl rfl (by kernel_rfl) (by kernel_rfl) (by kernel_rfl) (fun _ _ _ h => h) (by rfl) hHeld ?_
             simp only [Act.put, List.setIfInBounds_toArray, List.set_cons_zero, List.set_cons_succ]
             refine skip_at 17 78 (fuel := 11) rfl rfl (by kernel_rfl) (by kernel_rfl) (by kernel_rfl) (fun _ _ _ h => h) (by rfl) hHeld ?_
             simp only [Act.put, List.setIfInBounds_toArray, List.set_cons_zero, List.set_cons_succ]
             refine skip_at 18 79 (fuel := 10) rfl rfl (by kernel_rfl) (by kernel_rfl) (by kernel_rfl) (fun _ _ _ h => h) (by rfl) hHeld ?_
             simp only [Act.put, List.setIfInBounds_toArray, List.set_cons_zero, List.set_cons_succ]
             refine skip_at 19 80 (fuel := 9) rfl rfl (by kernel_rfl) (by kernel_rfl) (by kernel_rfl) (fun _ _ _ h => h) (by rfl) hHeld ?_
             simp only [Act.put, List.setIfInBounds_toArray, List.set_cons_zero, List.set_cons_succ]
             refine skip_at 20 81 (fuel := 8) rfl rfl (by kernel_rfl) (by kernel_rfl) (by kernel_rfl) (fun _ _ _ h => h) (by rfl) hHeld ?_
             simp only [Act.put, List.setIfInBounds_toArray, List.set_cons_zero, List.set_cons_succ]
             refine skip_at 21 82 (fuel := 7) rfl rfl (by kernel_rfl) (by kernel_rfl) (by kernel_rfl) (fun _ _ _ h => h) (by rfl) hHeld ?_
             simp only [Act.put, List.setIfInBounds_toArray, List.set_cons_zero, List.set_cons_succ]
             refine skip_at 22 83 (fuel := 6) rfl rfl (by kernel_rfl) (by kernel_rfl) (by kernel_rfl) (fun _ _ _ h => h) (by rfl) hHeld ?_
             simp only [Act.put, List.setIfInBounds_toArray, List.set_cons_zero, List.set_cons_succ]
             refine skip_at 23 84 (fuel := 5) rfl rfl (by kernel_rfl) (by kernel_rfl) (by kernel_rfl) (fun _ _ _ h => h) (by rfl) hHeld ?_
             simp only [Act.put, List.setIfInBounds_toArray, List.set_cons_zero, List.set_cons_succ]
             refine skip_at 24 85 (fuel := 4) rfl rfl (by kernel_rfl) (by kernel_rfl) (by kernel_rfl) (fun _ _ _ h => h) (by rfl) hHeld ?_
             simp only [Act.put, List.setIfInBounds_toArray, List.set_cons_zero, List.set_cons_succ]
             refine skip_at 25 86 (fuel := 3) rfl rfl (by kernel_rfl) (by kernel_rfl) (by kernel_rfl) (fun _ _ _ h => h) (by rfl) hHeld ?_
             simp only [Act.put, List.setIfInBounds_toArray, List.set_cons_zero, List.set_cons_succ]
             refine skip_at 26 87 (fuel := 2) rfl rfl (by kernel_rfl) (by kernel_rfl) (by kernel_rfl) (fun _ _ _ h => h) (by rfl) hHeld ?_
             simp only [Act.put, List.setIfInBounds_toArray, List.set_cons_zero, List.set_cons_succ]
             refine skip_at 27 88 (fuel := 1) rfl rfl (by kernel_rfl) (by kernel_rfl) (by kernel_rfl) (fun _ _ _ h => h) (by rfl) hHeld ?_
             simp only [Act.put, List.setIfInBounds_toArray, List.set_cons_zero, List.set_cons_succ]
             refine take_at 28 89 (v := ?vb28) (fuel := 0) rfl rfl (by kernel_rfl) (by kernel_rfl) (by kernel_rfl) (fun _ _ _ h => h) (by rfl) hHeld ?hyb28 ?restb28
             case hyb28 => (intro w' hSw; (try dsimp only at hSw); go_simp <;> with_reducible rfl)
             simp only [Act.put, List.setIfInBounds_toArray, List.set_cons_zero, List.set_cons_succ]
             refine wpAnyH_done (by kernel_rfl) ?_ _
             clear hHeld
             go_wp2
             go_roundw
             case rel => exact ⟨j + 1, S5, T6s, ks2, l2, c2, by omega, by go_num, BQ.out, ⟨IL2.out.1, by have := IL2.out.2; omega⟩⟩
             case measure => simp [intOf]; omega
         · have j2 : decide ((j : Int) < (en : Int)) = false := by simp; omega
           have j3 : ¬ (j : Int) < (en : Int) := by omega
           go_wp2_with fail
           have hS := BQ.out.f.below
           refine wp_region_held_drew (S := fun w' => Below W0.heap.size W0 w') (by kernel_rfl) hS (fun hHeld => ?_)
           clear hS
           show wpAnyH _ _ _ _ _ 29 _ _ _
           refine take_at 0 61 (v := ?vc0) (fuel := 28) rfl rfl (by kernel_rfl) (by kernel_rfl) (by kernel_rfl) (fun _ _ _ h => h) (by rfl) hHeld ?hyc0 ?restc0
           case hyc0 => (intro w' hSw; (try dsimp only at hSw); go_simp <;> with_reducible rfl)
           simp only [Act.put, List.setIfInBounds_toArray, List.set_cons_zero, List.set_cons_succ]
           refine take_at 1 62 (v := ?vc1) (fuel := 27) rfl rfl (by kernel_rfl) (by kernel_rfl) (by kernel_rfl) (fun _ _ _ h => h) (by rfl) hHeld ?hyc1 ?restc1
           case hyc1 => (intro w' hSw; (try dsimp only at hSw); go_simp <;> with_reducible rfl)
           simp only [Act.put, List.setIfInBounds_toArray, List.set_cons_zero, List.set_cons_succ]
           refine take_at 2 63 (v := ?vc2) (fuel := 26) rfl rfl (by kernel_rfl) (by kernel_rfl) (by kernel_rfl) (fun _ _ _ h => h) (by rfl) hHeld ?hyc2 ?restc2
           case hyc2 => (intro w' hSw; (try dsimp only at hSw); go_simp <;> with_reducible rfl)
           simp only [Act.put, List.setIfInBounds_toArray, List.set_cons_zero, List.set_cons_succ]
           refine take_at 3 64 (v := ?vc3) (fuel := 25) rfl rfl (by kernel_rfl) (by kernel_rfl) (by kernel_rfl) (fun _ _ _ h => h) (by rfl) hHeld ?hyc3 ?restc3
           case hyc3 => (intro w' hSw; (try dsimp only at hSw); go_simp <;> with_reducible rfl)
           simp only [Act.put, List.setIfInBounds_toArray, List.set_cons_zero, List.set_cons_succ]
           refine take_at 4 65 (v := ?vc4) (fuel := 24) rfl rfl (by kernel_rfl) (by kernel_rfl) (by kernel_rfl) (fun _ _ _ h => h) (by rfl) hHeld ?hyc4 ?restc4
           case hyc4 => (intro w' hSw; (try dsimp only at hSw); go_simp <;> with_reducible rfl)
           simp only [Act.put, List.setIfInBounds_toArray, List.set_cons_zero, List.set_cons_succ]
           refine skip_at 5 66 (fuel := 23) rfl rfl (by kernel_rfl) (by kernel_rfl) (by kernel_rfl) (fun _ _ _ h => h) (by rfl) hHeld ?_
           simp only [Act.put, List.setIfInBounds_toArray, List.set_cons_zero, List.set_cons_succ]
           refine skip_at 6 67 (fuel := 22) rfl rfl (by kernel_rfl) (by kernel_rfl) (by kernel_rfl) (fun _ _ _ h => h) (by rfl) hHeld ?_
           simp only [Act.put, List.setIfInBounds_toArray, List.set_cons_zero, List.set_cons_succ]
           refine skip_at 7 68 (fuel := 21) rfl rfl (by kernel_rfl) (by kernel_rfl) (by kernel_rfl) (fun _ _ _ h => h) (by rfl) hHeld ?_
           simp only [Act.put, List.setIfInBounds_toArray, List.set_cons_zero, List.set_cons_succ]
           refine skip_at 8 69 (fuel := 20) rfl rfl (by kernel_rfl) (by kernel_rfl) (by kernel_rfl) (fun _ _ _ h => h) (by rfl) hHeld ?_
           simp only [Act.put, List.setIfInBounds_toArray, List.set_cons_zero, List.set_cons_succ]
           refine take_at 9 70 (v := ?vc9) (fuel := 19) rfl rfl (by kernel_rfl) (by kernel_rfl) (by kernel_rfl) (fun _ _ _ h => h) (by rfl) hHeld ?hyc9 ?restc9
           case hyc9 => (intro w' hSw; (try dsimp only at hSw); go_simp <;> with_reducible rfl)
           simp only [Act.put, List.setIfInBounds_toArray, List.set_cons_zero, List.set_cons_succ]
           refine take_at 10 71 (v := ?vc10) (fuel := 18) rfl rfl (by kernel_rfl) (by kernel_rfl) (by kernel_rfl) (fun _ _ _ h => h) (by rfl) hHeld ?hyc10 ?restc10
           case hyc10 => (intro w' hSw; (try dsimp only at hSw); go_simp <;> with_reducible rfl)
           simp only [Act.put, List.setIfInBounds_toArray, List.set_cons_zero, List.set_cons_succ]
           refine skip_at 11 72 (fuel := 17) rfl rfl (by kernel_rfl) (by kernel_rfl) (by kernel_rfl) (fun _ _ _ h => h) (by rfl) hHeld ?_
           simp only [Act.put, List.setIfInBounds_toArray, List.set_cons_zero, List.set_cons_succ]
           refine skip_at 12 73 (fuel := 16) rfl rfl (by kernel_rfl) (by kernel_rfl) (by kernel_rfl) (fun _ _ _ h => h) (by rfl) hHeld ?_
           simp only [Act.put, List.setIfInBounds_toArray, List.set_cons_zero, List.set_cons_succ]
           refine skip_at 13 74 (fuel := 15) rfl rfl (by kernel_rfl) (by kernel_rfl) (by kernel_rfl) (fun _ _ _ h => h) (by rfl) hHeld ?_
           simp only [Act.put, List.setIfInBounds_toArray, List.set_cons_zero, List.set_cons_succ]
           refine skip_at 14 75 (fuel := 14) rfl rfl (by kernel_rfl) (by kernel_rfl) (by kernel_rfl) (fun _ _ _ h => h) (by rfl) hHeld ?_
           simp only [Act.put, List.setIfInBounds_toArray, List.set_cons_zero, List.set_cons_succ]
           refine skip_at 15 76 (fuel := 13) rfl rfl (by kernel_rfl) (by kernel_rfl) (by kernel_rfl) (fun _ _ _ h => h) (by rfl) hHeld ?_
           simp only [Act.put, List.setIfInBounds_toArray, List.set_cons_zero, List.set_cons_succ]
           refine skip_at 16 77 (fuel := 12) rfl rfl (by kernel_rfl) (by kernel_rfl) (by kernel_rfl) (fun _ _ _ h => h) (by rfl) hHeld ?_
           simp only [Act.put, List.setIfInBounds_toArray, List.set_cons_zero, List.set_cons_succ]
           refine skip_at 17 78 (fuel := 11) rfl rfl (by kernel_rfl) (by kernel_rfl) (by kernel_rfl) (fun _ _ _ h => h) (by rfl) hHeld ?_
           simp only [Act.put, List.setIfInBounds_toArray, List.set_cons_zero, List.set_cons_succ]
           refine skip_at 18 79 (fuel := 10) rfl rfl (by kernel_rfl) (by kernel_rfl) (by kernel_rfl) (fun _ _ _ h => h) (by rfl) hHeld ?_
           simp only [Act.put, List.setIfInBounds_toArray, List.set_cons_zero, List.set_cons_succ]
           refine skip_at 19 80 (fuel := 9) rfl rfl (by kernel_rfl) (by kernel_rfl) (by kernel_rfl) (fun _ _ _ h => h) (by rfl) hHeld ?_
           simp only [Act.put, List.setIfInBounds_toArray, List.set_cons_zero, List.set_cons_succ]
           refine skip_at 20 81 (fuel := 8) rfl rfl (by kernel_rfl) (by kernel_rfl) (by kernel_rfl) (fun _ _ _ h => h) (by rfl) hHeld ?_
           simp only [Act.put, List.setIfInBounds_toArray, List.set_cons_zero, List.set_cons_succ]
           refine skip_at 21 82 (fuel := 7) rfl rfl (by kernel_rfl) (by kernel_rfl) (by kernel_rfl) (fun _ _ _ h => h) (by rfl) hHeld ?_
           simp only [Act.put, List.setIfInBounds_toArray, List.set_cons_zero, List.set_cons_succ]
           refine skip_at 22 83 (fuel := 6) rfl rfl (by kernel_rfl) (by kernel_rfl) (by kernel_rfl) (fun _ _ _ h => h) (by rfl) hHeld ?_
           simp only [Act.put, List.setIfInBounds_toArray, List.set_cons_zero, List.set_cons_succ]
           refine skip_at 23 84 (fuel := 5) rfl rfl (by kernel_rfl) (by kernel_rfl) (by kernel_rfl) (fun _ _ _ h => h) (by rfl) hHeld ?_
           simp only [Act.put, List.setIfInBounds_toArray, List.set_cons_zero, List.set_cons_succ]
           refine skip_at 24 85 (fuel := 4) rfl rfl (by kernel_rfl) (by kernel_rfl) (by kernel_rfl) (fun _ _ _ h => h) (by rfl) hHeld ?_
           simp only [Act.put, List.setIfInBounds_toArray, List.set_cons_zero, List.set_cons_succ]
           refine skip_at 25 86 (fuel := 3) rfl rfl (by kernel_rfl) (by kernel_rfl) (by kernel_rfl) (fun _ _ _ h => h) (by rfl) hHeld ?_
           simp only [Act.put, List.setIfInBounds_toArray, List.set_cons_zero, List.set_cons_succ]
           refine skip_at 26 87 (fuel := 2) rfl rfl (by kernel_rfl) (by kernel_rfl) (by kernel_rfl) (fun _ _ _ h => h) (by rfl) hHeld ?_
           simp only [Act.put, List.setIfInBounds_toArray, List.set_cons_zero, List.set_cons_succ]
           refine skip_at 27 88 (fuel := 1) rfl rfl (by kernel_rfl) (by kernel_rfl) (by kernel_rfl) (fun _ _ _ h => h) (by rfl) hHeld ?_
           simp only [Act.put, List.setIfInBounds_toArray, List.set_cons_zero, List.set_cons_succ]
           refine take_at 28 89 (v := ?vc28) (fuel := 0) rfl rfl (by kernel_rfl) (by kernel_rfl) (by kernel_rfl) (fun _ _ _ h => h) (by rfl) hHeld ?hyc28 ?restc28
           case hyc28 => (intro w' hSw; (try dsimp only at hSw); go_simp <;> with_reducible rfl)
           simp only [Act.put, List.setIfInBounds_toArray, List.set_cons_zero, List.set_cons_succ]
           refine wpAnyH_done (by kernel_rfl) ?_ _
           clear hHeld
           go_wp2
           go_roundw
           case rel => exact ⟨j + 1, S5, T6s, ks2, l2, c2, by omega, by go_num, BQ.out, ⟨IL2.out.1, by have := IL2.out.2; omega⟩⟩
           case measure => simp [intOf]; omega
       · have BQ := Lib.hid (BB.out.on (Cv.keeps _ _ _ _ _ _ _) (Rv.keeps _ _ _ _ _) (Below.refl _ _).drew)
         obtain ⟨o3, ho3⟩ : ∃ o3, y.eO ks l1 = o3 := ⟨_, rfl⟩
         obtain ⟨c3, hc3⟩ : ∃ c3, cr + y.eC ks l1 = c3 := ⟨_, rfl⟩
         have hc3b : c3 ≤ 500 := by have := eC_le y ks l1 SD.out.one; omega
         have HO3 := Lib.hid ho3; have HC3 := Lib.hid hc3
         clear ho3 hc3 BB SD
         go_wp2_with fail
         have hS := BQ.out.f.below
         refine wp_region_held_drew (S := fun w' => Below W0.heap.size W0 w') (by kernel_rfl) hS (fun hHeld => ?_)
         clear hS
         show wpAnyH _ _ _ _ _ 21 _ _ _
         refine take_at 0 90 (v := ?ve0) (fuel := 20) rfl rfl (by kernel_rfl) (by kernel_rfl) (by kernel_rfl) (fun _ _ _ h => h) (by rfl) hHeld ?hye0 ?reste0
         case hye0 => (intro w' hSw; (try dsimp only at hSw); go_simp <;> with_reducible rfl)
         simp only [Act.put, List.setIfInBounds_toArray, List.set_cons_zero, List.set_cons_succ]
         refine take_at 3 93 (v := ?ve3) (fuel := 19) rfl rfl (by kernel_rfl) (by kernel_rfl) (by kernel_rfl) (fun _ _ _ h => h) (by rfl) hHeld ?hye3 ?reste3
         case hye3 => (intro w' hSw; (try dsimp only at hSw); go_simp <;> with_reducible rfl)
         simp only [Act.put, List.setIfInBounds_toArray, List.set_cons_zero, List.set_cons_succ]
         refine wpAnyH_ready (rs := [1]) (fuel := 18) (by kernel_rfl) (by simp) ?_
         refine AllReadyH.cons rfl (fun Kq hK => ?_) AllReadyH.nil
         go_simp
         refine (endv_any b sb pb y ks l1 cr S o3 c3 _ BQ.out.f.obj hcb (by omega) (by omega) HO3.out HC3.out).mono ?_
         rintro e w8 ⟨A3, m3, cc3, S8, rfl, q1, q2, q3, q4, q5⟩
         have B8 := Lib.hid (BQ.out.fst (Rv.keeps _ _ _ _ _) q3 q4 q5)
         have T3 := Lib.hid q1; have N3 := Lib.hid (show ∀ g o s, A3 = some ⟨g, o, s⟩ → ¬ T g from fun g o s he ht => by have := (q2 g o s he).1; have := (Rv.keeps _ _ _ _ _).lt BQ.out.g.obj g ht; omega)
         go_simp
         refine hK.out _ _ (id B8.out.f.below) (fun hH1 => ?_)
         refine wpAnyH_more (S' := fun w' => (Below W0.heap.size W0 w') ∧ Bytes w' A3 m3 cc3 o3) (fun _ h => h.1) _ _ _ _ ?_
         have hH2 := (show (fun w' : World => (Below W0.heap.size W0 w') ∧ Bytes w' A3 m3 cc3 o3) w8 from ⟨hH1, T3.out.bytes.1⟩)
         clear hK Kq hHeld hH1 q1 q2 q3 q4 q5
         (try simp only [Act.put, List.setIfInBounds_toArray, List.set_cons_zero, List.set_cons_succ])
         refine take_text 2 92 (fuel := 17) _ A3 m3 cc3 o3 rfl rfl (by kernel_rfl) (by kernel_rfl) (by kernel_rfl) (fun _ _ _ h => h) (by rfl) hH2 rfl rfl (fun _ h => h.2) T3.out.bytes.2 ?_
         simp only [Act.put, List.setIfInBounds_toArray, List.set_cons_zero, List.set_cons_succ]
         refine wpAnyH_ready (rs := [4]) (fuel := 16) (by kernel_rfl) (by simp) ?_
         refine AllReadyH.cons rfl (fun Kq hK => ?_) AllReadyH.nil
         go_simp
         refine (rendc_any r y ks l1 cr T o3 c3 _ B8.out.g.obj hcb (by omega) (by omega) HO3.out HC3.out).mono ?_
         rintro e w9 ⟨A4, m4, cc4, T9, rfl, q1, q3, q4, q5⟩
         have B9 := Lib.hid (B8.out.snd (Cv.keeps _ _ _ _ _ _ _) q3 q4 q5)
         have T4 := Lib.hid q1
         go_simp
         refine hK.out _ _ ⟨id B9.out.f.below, (T3.out.only q4 N3.out).bytes.1⟩ (fun hH3 => ?_)
         refine wpAnyH_more (S' := fun w' => ((Below W0.heap.size W0 w') ∧ Bytes w' A3 m3 cc3 o3) ∧ Bytes w' A4 m4 cc4 o3 ∧ w'.cell? ⟨r, 12, none⟩ = some (.int .i64 (c3 : Nat))) (fun _ h => h.1) _ _ _ _ ?_
         have hH4 := (show (fun w' : World => ((Below W0.heap.size W0 w') ∧ Bytes w' A3 m3 cc3 o3) ∧ Bytes w' A4 m4 cc4 o3 ∧ w'.cell? ⟨r, 12, none⟩ = some (.int .i64 (c3 : Nat))) w9 from ⟨hH3, T4.out.bytes.1, B9.out.g.obj.cut⟩)
         clear hK Kq hH2 hH3 q1 q3 q4 q5
         (try simp only [Act.put, List.setIfInBounds_toArray, List.set_cons_zero, List.set_cons_succ])
         refine take_text 5 95 (fuel := 15) _ A4 m4 cc4 o3 rfl rfl (by kernel_rfl) (by kernel_rfl) (by kernel_rfl) (fun _ _ _ h => h) (by rfl) hH4 rfl rfl (fun _ h => h.2.1) T4.out.bytes.2 ?_
         simp only [Act.put, List.setIfInBounds_toArray, List.set_cons_zero, List.set_cons_succ]
         refine take_at 6 96 (v := ?ve6) (fuel := 14) rfl rfl (by kernel_rfl) (by kernel_rfl) (by kernel_rfl) (fun _ _ _ h => h) (by rfl) hH4 ?hye6 ?reste6
         case hye6 => (intro w' hSw; (try dsimp only at hSw); go_simp <;> with_reducible rfl)
         simp only [Act.put, List.setIfInBounds_toArray, List.set_cons_zero, List.set_cons_succ]
         refine take_at 7 97 (v := ?ve7) (fuel := 13) rfl rfl (by kernel_rfl) (by kernel_rfl) (by kernel_rfl) (fun _ _ _ h => h) (by rfl) hH4 ?hye7 ?reste7
         case hye7 => (intro w' hSw; (try dsimp only at hSw); go_simp <;> with_reducible rfl)
         simp only [Act.put, List.setIfInBounds_toArray, List.set_cons_zero, List.set_cons_succ]
         refine take_at 8 98 (v := ?ve8) (fuel := 12) rfl rfl (by kernel_rfl) (by kernel_rfl) (by kernel_rfl) (fun _ _ _ h => h) (by rfl) hH4 ?hye8 ?reste8
         case hye8 => (intro w' hSw; (try dsimp only at hSw); go_simp <;> with_reducible rfl)
         simp only [Act.put, List.setIfInBounds_toArray, List.set_cons_zero, List.set_cons_succ]
         refine take_at 10 100 (v := ?ve10) (fuel := 11) rfl rfl (by kernel_rfl) (by kernel_rfl) (by kernel_rfl) (fun _ _ _ h => h) (by rfl) hH4 ?hye10 ?reste10
         case hye10 => (intro w' hSw; (try dsimp only at hSw); go_simp <;> with_reducible rfl)
         simp only [Act.put, List.setIfInBounds_toArray, List.set_cons_zero, List.set_cons_succ]
         refine take_at 11 101 (v := ?ve11) (fuel := 10) rfl rfl (by kernel_rfl) (by kernel_rfl) (by kernel_rfl) (fun _ _ _ h => h) (by rfl) hH4 ?hye11 ?reste11
         case hye11 => (intro w' hSw; (try dsimp only at hSw); go_simp <;> with_reducible rfl)
         simp only [Act.put, List.setIfInBounds_toArray, List.set_cons_zero, List.set_cons_succ]
         refine take_at 12 102 (v := ?ve12) (fuel := 9) rfl rfl (by kernel_rfl) (by kernel_rfl) (by kernel_rfl) (fun _ _ _ h => h) (by rfl) hH4 ?hye12 ?reste12
         case hye12 => (intro w' hSw; (try dsimp only at hSw); go_simp <;> with_reducible rfl)
         simp only [Act.put, List.setIfInBounds_toArray, List.set_cons_zero, List.set_cons_succ]
         refine take_at 13 103 (v := ?ve13) (fuel := 8) rfl rfl (by kernel_rfl) (by kernel_rfl) (by kernel_rfl) (fun _ _ _ h => h) (by rfl) hH4 ?hye13 ?reste13
         case hye13 => (intro w' hSw; (try dsimp only at hSw); go_simp <;> with_reducible rfl)
         simp only [Act.put, List.setIfInBounds_toArray, List.set_cons_zero, List.set_cons_succ]
         refine take_at 14 104 (v := ?ve14) (fuel := 7) rfl rfl (by kernel_rfl) (by kernel_rfl) (by kernel_rfl) (fun _ _ _ h => h) (by rfl) hH4 ?hye14 ?reste14
         case hye14 => (intro w' hSw; (try dsimp only at hSw); go_simp <;> with_reducible rfl)
         simp only [Act.put, List.setIfInBounds_toArray, List.set_cons_zero, List.set_cons_succ]
         refine wpAnyH_ready (rs := [9]) (fuel := 6) (by kernel_rfl) (by simp) ?_
         refine AllReadyH.cons rfl (fun Kq hK => ?_) AllReadyH.nil
         go_simp
         refine (cutv_any _ B9.out.f.obj).mono ?_
         rintro e wq3 ⟨rfl, rfl⟩
         go_simp
         refine hK.out _ _ hH4 (fun hQ3 => ?_)
         clear hK Kq hH4
         (try simp only [Act.put, List.setIfInBounds_toArray, List.set_cons_zero, List.set_cons_succ])
         refine take_at 15 105 (v := ?ve15) (fuel := 5) rfl rfl (by kernel_rfl) (by kernel_rfl) (by kernel_rfl) (fun _ _ _ h => h) (by rfl) hQ3 ?hye15 ?reste15
         case hye15 => (intro w' hSw; (try dsimp only at hSw); go_simp <;> with_reducible rfl)
         simp only [Act.put, List.setIfInBounds_toArray, List.set_cons_zero, List.set_cons_succ]
         refine take_at 16 106 (v := ?ve16) (fuel := 4) rfl rfl (by kernel_rfl) (by kernel_rfl) (by kernel_rfl) (fun _ _ _ h => h) (by rfl) hQ3 ?hye16 ?reste16
         case hye16 => (intro w' hSw; (try dsimp only at hSw); go_simp <;> with_reducible rfl)
         simp only [Act.put, List.setIfInBounds_toArray, List.set_cons_zero, List.set_cons_succ]
         refine take_at 17 107 (v := ?ve17) (fuel := 3) rfl rfl (by kernel_rfl) (by kernel_rfl) (by kernel_rfl) (fun _ _ _ h => h) (by rfl) hQ3 ?hye17 ?reste17
         case hye17 => (intro w' hSw; (try dsimp only at hSw); go_simp <;> with_reducible rfl)
         simp only [Act.put, List.setIfInBounds_toArray, List.set_cons_zero, List.set_cons_succ]
         refine wpAnyH_ready (rs := [18]) (fuel := 2) (by kernel_rfl) (by simp) ?_
         refine AllReadyH.cons rfl (fun Kq hK => ?_) AllReadyH.nil
         go_simp
         refine (law_runs _).mono ?_
         rintro e w11 ⟨rfl, k1⟩
         go_simp
         refine hK.out _ _ ⟨⟨hQ3.1.1.trans (k1.mono hQ3.1.1.size), hQ3.1.2.on k1⟩, hQ3.2.1.on k1, (B9.out.on (Cv.keeps _ _ _ _ _ _ _) (Rv.keeps _ _ _ _ _) k1).g.obj.cut⟩ (fun hH6 => ?_)
         clear hK Kq hQ3 k1
         (try simp only [Act.put, List.setIfInBounds_toArray, List.set_cons_zero, List.set_cons_succ])
         refine take_at 19 109 (v := ?ve19) (fuel := 1) rfl rfl (by kernel_rfl) (by kernel_rfl) (by kernel_rfl) (fun _ _ _ h => h) (by rfl) hH6 ?hye19 ?reste19
         case hye19 => (intro w' hSw; (try dsimp only at hSw); go_simp <;> with_reducible rfl)
         simp only [Act.put, List.setIfInBounds_toArray, List.set_cons_zero, List.set_cons_succ]
         refine take_at 20 6 (v := ?ve20) (fuel := 0) rfl rfl (by kernel_rfl) (by kernel_rfl) (by kernel_rfl) (fun _ _ _ h => h) (by rfl) hH6 ?hye20 ?reste20
         case hye20 => (intro w' hSw; (try dsimp only at hSw); go_simp <;> with_reducible rfl)
         simp only [Act.put, List.setIfInBounds_toArray, List.set_cons_zero, List.set_cons_succ]
         refine wpAnyH_done (by kernel_rfl) ?_ _
         have KF := Lib.hid (K0.out.trans (hH6.1.1.mono K0.out.size))
         clear hH6 T3 N3 T4 B8 BQ B9
         go_wp2
         go_ret
         exact ⟨rfl, KF.out⟩
    case neg =>
      have d1 : decide (500 < x.cb) = false := by simp; omega
      go_wp2_with fail
      have hS := R0.out.on D0.out
      refine wp_region_held_drew (S := fun w' => Row w' w.heap.size 23 x.cells) (by kernel_rfl) hS (fun hHeld => ?_)
      clear hS c0 c1 c2 c3 c4 c5 c6 c7 c8
      show wpAnyH _ _ _ _ _ 6 _ _ _
      refine take_box 0 24 (fuel := 5) _ w.heap.size x rfl rfl (by kernel_rfl) (by kernel_rfl) (by kernel_rfl) (fun _ _ _ h => h) (by rfl) hHeld rfl rfl (fun _ h => h) ?_
      simp only [Act.put, List.setIfInBounds_toArray, List.set_cons_zero, List.set_cons_succ]
      refine take_box 2 26 (fuel := 4) _ w.heap.size x rfl rfl (by kernel_rfl) (by kernel_rfl) (by kernel_rfl) (fun _ _ _ h => h) (by rfl) hHeld rfl rfl (fun _ h => h) ?_
      simp only [Act.put, List.setIfInBounds_toArray, List.set_cons_zero, List.set_cons_succ]
      refine wpAnyH_ready (rs := [1]) (fuel := 3) (by kernel_rfl) (by simp) ?_
      refine AllReadyH.cons rfl (fun Kq hK => ?_) AllReadyH.nil
      go_simp
      refine (CN.out _).mono ?_
      rintro e w1 ⟨b, sb, pb, Tn, rfl, q1, q2, q3⟩
      rw [HY.out] at q1
      have M1 := Lib.hid (show Mine W0 w1 (Cv b sb pb y [] [] 0) (Bs b sb Tn) from ⟨⟨Tn, rfl, q1⟩, fun d hd => Nat.le_trans D0.out.size (q2 d hd), D0.out.trans (q3.mono D0.out.size)⟩)
      go_simp
      refine hK.out _ _ (R0.out.on M1.out.below) (fun hH1 => ?_)
      clear hK Kq hHeld q1 q2 q3
      (try simp only [Act.put, List.setIfInBounds_toArray, List.set_cons_zero, List.set_cons_succ])
      refine wpAnyH_ready (rs := [3]) (fuel := 2) (by kernel_rfl) (by simp) ?_
      refine AllReadyH.cons rfl (fun Kq hK => ?_) AllReadyH.nil
      go_simp
      refine (CRN.out _).mono ?_
      rintro e w2 ⟨r, Sr, rfl, q1, q2, q3⟩
      rw [HY.out] at q1
      have B0 := Lib.hid (M1.out.both (Cv.keeps _ _ _ _ _ _ _) q1 q2 q3)
      go_simp
      refine hK.out _ _ (R0.out.on B0.out.f.below) (fun hH2 => ?_)
      clear hK Kq hH1 q1 q2 q3
      (try simp only [Act.put, List.setIfInBounds_toArray, List.set_cons_zero, List.set_cons_succ])
      refine take_at 4 7 (v := ?vnq4) (fuel := 1) rfl rfl (by kernel_rfl) (by kernel_rfl) (by kernel_rfl) (fun _ _ _ h => h) (by rfl) hH2 ?hynq4 ?restnq4
      case hynq4 => (intro w' hSw; (try dsimp only at hSw); go_simp <;> with_reducible rfl)
      simp only [Act.put, List.setIfInBounds_toArray, List.set_cons_zero, List.set_cons_succ]
      refine take_at 5 8 (v := ?vnq5) (fuel := 0) rfl rfl (by kernel_rfl) (by kernel_rfl) (by kernel_rfl) (fun _ _ _ h => h) (by rfl) hH2 ?hynq5 ?restnq5
      case hynq5 => (intro w' hSw; (try dsimp only at hSw); go_simp <;> with_reducible rfl)
      simp only [Act.put, List.setIfInBounds_toArray, List.set_cons_zero, List.set_cons_succ]
      refine wpAnyH_done (by kernel_rfl) ?_ _
      clear hH2 M1 CN CRN HY R0 D0 d1
      (try clear d2)
      go_wp2
      go_loopw [9] (fun i wr => ∃ (j : Nat) (S T : Nat → Prop) (ks l1 : List Int) (cr : Nat), j ≤ n ∧ i = .int .i64 j ∧ Hid (Both W0 wr (Cv b sb pb y ks l1 cr) S (Rv r y ks l1 cr) T) ∧ Hid (l1.length ≤ (cat (L.take j)).length + 501 * j ∧ cr ≤ (cat (L.take j)).length + 3 * j)) (fun i _ => n - (intOf i).toNat)
      case atStart => exact ⟨0, _, _, [], [], 0, Nat.zero_le _, rfl, B0.out, by unfold Hid; exact ⟨Nat.zero_le _, Nat.zero_le _⟩⟩
      case round =>
       clear B0
       obtain ⟨j, S, T, ks, l1, cr, hj, rfl, BB, IL⟩ := hrel
       have HTJ := Lib.hid (cat_take L j)
       have hl1 : l1.length ≤ 20000 := by have := IL.out.1; have := HTJ.out; have := HT.out; omega
       have hcr : cr ≤ 400 := by have := IL.out.2; have := HTJ.out; have := HT.out; omega
       have SD := Lib.hid BB.out.g.obj.side
       by_cases hlt : j < n
       · obtain ⟨lb, o, rfl, hlb, hc⟩ := L0.out.cells (by omega)
         have e1 := Lib.hid (hc j hlt)
         have hjl : j < L.length := by have := HL.out.len; omega
         have HX := Lib.hid (L0.out.ok j hlt)
         have HC := Lib.hid (cat_le L j hjl)
         have HSN := Lib.hid (cat_snoc L j hjl)
         clear hc hjl
         generalize L.getD j default = e at *
         obtain ⟨xa, xn, xc, xz⟩ := e
         simp only at e1 HC HSN
         have hxn : xn ≤ 300 := by have := HX.out.bytes.1; have := HC.out; have := HT.out; simp only at *; omega
         obtain ⟨o2, ho2⟩ : ∃ o2, y.cO ks l1 xz = o2 := ⟨_, rfl⟩
         obtain ⟨ks2, hk2⟩ : ∃ k2, y.cK ks xz = k2 := ⟨_, rfl⟩
         obtain ⟨l2, hl2e⟩ : ∃ l2, y.cL ks l1 xz = l2 := ⟨_, rfl⟩
         obtain ⟨c2, hc2⟩ : ∃ c2, cr + y.cC ks l1 xz = c2 := ⟨_, rfl⟩
         obtain ⟨o3, ho3⟩ : ∃ o3, y.eO ks2 l2 = o3 := ⟨_, rfl⟩
         obtain ⟨c3, hc3⟩ : ∃ c3, c2 + y.eC ks2 l2 = c3 := ⟨_, rfl⟩
         have IL2 := Lib.hid (show l2.length ≤ (cat (L.take (j + 1))).length + 501 * (j + 1) ∧ c2 ≤ (cat (L.take (j + 1))).length + 3 * j + 1 by
           have h1 := cL_le hcb SD.out xz; have h2 := cC_le SD.out xz; have h3 := IL.out
           rw [hl2e] at h1
           rw [HSN.out, List.length_append]
           omega)
         have IL3 := Lib.hid (show c3 ≤ (cat (L.take (j + 1))).length + 3 * (j + 1) by
           have h1 := IL2.out.2; have h2 := eC_le y ks2 l2 (by rw [← hk2]; exact cK_le y ks xz)
           omega)
         have hl2 : l2.length ≤ 20000 := by have := IL2.out.1; have := (cat_take L (j + 1)); have := HT.out; omega
         have hc2b : c2 ≤ 400 := by have := IL2.out.2; have := (cat_take L (j + 1)); have := HT.out; omega
         have hc3b : c3 ≤ 400 := by have := IL3.out; have := (cat_take L (j + 1)); have := HT.out; omega
         have HO := Lib.hid ho2; have HK2 := Lib.hid hk2; have HL2 := Lib.hid hl2e; have HC2 := Lib.hid hc2; have HO3 := Lib.hid ho3; have HC3 := Lib.hid hc3
         clear ho2 hk2 hl2e hc2 ho3 hc3 HTJ HC HSN SD
         have j0 : (0 : Int) ≤ (j : Int) := by omega
         have j1 : (j : Int) < (n : Int) := by omega
         have BD := Lib.hid (BB.out.on (Cv.keeps _ _ _ _ _ _ _) (Rv.keeps _ _ _ _ _) (Below.refl _ _).drew)
         have HE := Lib.hid (El_away BD.out.f HX.out)
         clear BB
         go_wp2_with fail
         have hS := hold1 hlb e1.out BD.out.f.below
         refine wp_region_held_drew (S := fun w' => w'.cell? ⟨lb, o + j, none⟩ = some (.slice xa xn xc) ∧ Below W0.heap.size W0 w') (by kernel_rfl) hS (fun hHeld => ?_)
         clear hS
         show wpAnyH _ _ _ _ _ 25 _ _ _
         refine take_at 0 36 (v := ?vpq0) (fuel := 24) rfl rfl (by kernel_rfl) (by kernel_rfl) (by kernel_rfl) (fun _ _ _ h => h) (by rfl) hHeld ?hypq0 ?restpq0
         case hypq0 => (intro w' hSw; (try dsimp only at hSw); go_simp <;> with_reducible rfl)
         simp only [Act.put, List.setIfInBounds_toArray, List.set_cons_zero, List.set_cons_succ]
         refine take_at 1 37 (v := ?vpq1) (fuel := 23) rfl rfl (by kernel_rfl) (by kernel_rfl) (by kernel_rfl) (fun _ _ _ h => h) (by rfl) hHeld ?hypq1 ?restpq1
         case hypq1 => (intro w' hSw; (try dsimp only at hSw); go_simp <;> with_reducible rfl)
         simp only [Act.put, List.setIfInBounds_toArray, List.set_cons_zero, List.set_cons_succ]
         refine take_at 2 38 (v := ?vpq2) (fuel := 22) rfl rfl (by kernel_rfl) (by kernel_rfl) (by kernel_rfl) (fun _ _ _ h => h) (by rfl) hHeld ?hypq2 ?restpq2
         case hypq2 => (intro w' hSw; (try dsimp only at hSw); go_simp <;> with_reducible rfl)
         simp only [Act.put, List.setIfInBounds_toArray, List.set_cons_zero, List.set_cons_succ]
         refine take_at 3 39 (v := ?vpq3) (fuel := 21) rfl rfl (by kernel_rfl) (by kernel_rfl) (by kernel_rfl) (fun _ _ _ h => h) (by rfl) hHeld ?hypq3 ?restpq3
         case hypq3 => (intro w' hSw; (try dsimp only at hSw); go_simp <;> with_reducible rfl)
         simp only [Act.put, List.setIfInBounds_toArray, List.set_cons_zero, List.set_cons_succ]
         refine take_at 4 40 (v := ?vpq4) (fuel := 20) rfl rfl (by kernel_rfl) (by kernel_rfl) (by kernel_rfl) (fun _ _ _ h => h) (by rfl) hHeld ?hypq4 ?restpq4
         case hypq4 => (intro w' hSw; (try dsimp only at hSw); go_simp <;> with_reducible rfl)
         simp only [Act.put, List.setIfInBounds_toArray, List.set_cons_zero, List.set_cons_succ]
         refine take_at 7 43 (v := ?vpq7) (fuel := 19) rfl rfl (by kernel_rfl) (by kernel_rfl) (by kernel_rfl) (fun _ _ _ h => h) (by rfl) hHeld ?hypq7 ?restpq7
         case hypq7 => (intro w' hSw; (try dsimp only at hSw); go_simp <;> with_reducible rfl)
         simp only [Act.put, List.setIfInBounds_toArray, List.set_cons_zero, List.set_cons_succ]
         refine take_at 8 44 (v := ?vpq8) (fuel := 18) rfl rfl (by kernel_rfl) (by kernel_rfl) (by kernel_rfl) (fun _ _ _ h => h) (by rfl) hHeld ?hypq8 ?restpq8
         case hypq8 => (intro w' hSw; (try dsimp only at hSw); go_simp <;> with_reducible rfl)
         simp only [Act.put, List.setIfInBounds_toArray, List.set_cons_zero, List.set_cons_succ]
         refine take_at 9 45 (v := ?vpq9) (fuel := 17) rfl rfl (by kernel_rfl) (by kernel_rfl) (by kernel_rfl) (fun _ _ _ h => h) (by rfl) hHeld ?hypq9 ?restpq9
         case hypq9 => (intro w' hSw; (try dsimp only at hSw); go_simp <;> with_reducible rfl)
         simp only [Act.put, List.setIfInBounds_toArray, List.set_cons_zero, List.set_cons_succ]
         refine take_at 10 46 (v := ?vpq10) (fuel := 16) rfl rfl (by kernel_rfl) (by kernel_rfl) (by kernel_rfl) (fun _ _ _ h => h) (by rfl) hHeld ?hypq10 ?restpq10
         case hypq10 => (intro w' hSw; (try dsimp only at hSw); go_simp <;> with_reducible rfl)
         simp only [Act.put, List.setIfInBounds_toArray, List.set_cons_zero, List.set_cons_succ]
         refine take_at 11 47 (v := ?vpq11) (fuel := 15) rfl rfl (by kernel_rfl) (by kernel_rfl) (by kernel_rfl) (fun _ _ _ h => h) (by rfl) hHeld ?hypq11 ?restpq11
         case hypq11 => (intro w' hSw; (try dsimp only at hSw); go_simp <;> with_reducible rfl)
         simp only [Act.put, List.setIfInBounds_toArray, List.set_cons_zero, List.set_cons_succ]
         refine wpAnyH_ready (rs := [5]) (fuel := 14) (by kernel_rfl) (by simp) ?_
         refine AllReadyH.cons rfl (fun Kq hK => ?_) AllReadyH.nil
         go_simp
         refine (putv_any b sb pb y ks l1 cr S xa xn xc xz o2 ks2 l2 c2 _ BD.out.f.obj HE.out.1.bytes HX.out.nil HE.out.2 HX.out.are hcb (by omega) (by omega) (by omega) HO.out HK2.out HL2.out HC2.out).mono ?_
         rintro e w5 ⟨A1, m1, cc1, S5, rfl, q1, q2, q3, q4, q5⟩
         have B5 := Lib.hid (BD.out.fst (Rv.keeps _ _ _ _ _) q3 q4 q5)
         have T1 := Lib.hid q1; have N1 := Lib.hid (show ∀ g o s, A1 = some ⟨g, o, s⟩ → ¬ T g from fun g o s he ht => by have := (q2 g o s he).1; have := (Rv.keeps _ _ _ _ _).lt BD.out.g.obj g ht; omega)
         have HE5 := Lib.hid (El_away B5.out.g HX.out)
         go_simp
         refine hK.out _ _ (hold1 hlb e1.out B5.out.f.below) (fun hH1 => ?_)
         refine wpAnyH_more (S' := fun w' => (w'.cell? ⟨lb, o + j, none⟩ = some (.slice xa xn xc) ∧ Below W0.heap.size W0 w') ∧ Bytes w' A1 m1 cc1 o2) (fun _ h => h.1) _ _ _ _ ?_
         have hH2 := (show (fun w' : World => (w'.cell? ⟨lb, o + j, none⟩ = some (.slice xa xn xc) ∧ Below W0.heap.size W0 w') ∧ Bytes w' A1 m1 cc1 o2) w5 from ⟨hH1, T1.out.bytes.1⟩)
         clear hK Kq hHeld hH1 q1 q2 q3 q4 q5
         (try simp only [Act.put, List.setIfInBounds_toArray, List.set_cons_zero, List.set_cons_succ])
         refine take_text 6 42 (fuel := 13) _ A1 m1 cc1 o2 rfl rfl (by kernel_rfl) (by kernel_rfl) (by kernel_rfl) (fun _ _ _ h => h) (by rfl) hH2 rfl rfl (fun _ h => h.2) T1.out.bytes.2 ?_
         simp only [Act.put, List.setIfInBounds_toArray, List.set_cons_zero, List.set_cons_succ]
         refine wpAnyH_ready (rs := [12]) (fuel := 12) (by kernel_rfl) (by simp) ?_
         refine AllReadyH.cons rfl (fun Kq hK => ?_) AllReadyH.nil
         go_simp
         refine (rputc_any r y ks l1 cr T xa xn xc xz o2 ks2 l2 c2 _ B5.out.g.obj HE5.out.1.bytes HX.out.nil HX.out.are hcb (by omega) (by omega) (by omega) HO.out HK2.out HL2.out HC2.out).mono ?_
         rintro e w6 ⟨A2, m2, cc2, T6s, rfl, q1, q2, q3, q4, q5⟩
         have B6 := Lib.hid (B5.out.snd (Cv.keeps _ _ _ _ _ _ _) q3 q4 q5)
         have T6 := Lib.hid q1
         go_simp
         refine hK.out _ _ ⟨hold1 hlb e1.out B6.out.f.below, (T1.out.only q4 N1.out).bytes.1⟩ (fun hH3 => ?_)
         refine wpAnyH_more (S' := fun w' => ((w'.cell? ⟨lb, o + j, none⟩ = some (.slice xa xn xc) ∧ Below W0.heap.size W0 w') ∧ Bytes w' A1 m1 cc1 o2) ∧ Bytes w' A2 m2 cc2 o2 ∧ w'.cell? ⟨r, 12, none⟩ = some (.int .i64 (c2 : Nat))) (fun _ h => h.1) _ _ _ _ ?_
         have hH4 := (show (fun w' : World => ((w'.cell? ⟨lb, o + j, none⟩ = some (.slice xa xn xc) ∧ Below W0.heap.size W0 w') ∧ Bytes w' A1 m1 cc1 o2) ∧ Bytes w' A2 m2 cc2 o2 ∧ w'.cell? ⟨r, 12, none⟩ = some (.int .i64 (c2 : Nat))) w6 from ⟨hH3, T6.out.bytes.1, B6.out.g.obj.cut⟩)
         clear hK Kq hH2 hH3 q1 q2 q3 q4 q5
         (try simp only [Act.put, List.setIfInBounds_toArray, List.set_cons_zero, List.set_cons_succ])
         refine take_text 13 49 (fuel := 11) _ A2 m2 cc2 o2 rfl rfl (by kernel_rfl) (by kernel_rfl) (by kernel_rfl) (fun _ _ _ h => h) (by rfl) hH4 rfl rfl (fun _ h => h.2.1) T6.out.bytes.2 ?_
         simp only [Act.put, List.setIfInBounds_toArray, List.set_cons_zero, List.set_cons_succ]
         refine take_at 14 50 (v := ?vpq14) (fuel := 10) rfl rfl (by kernel_rfl) (by kernel_rfl) (by kernel_rfl) (fun _ _ _ h => h) (by rfl) hH4 ?hypq14 ?restpq14
         case hypq14 => (intro w' hSw; (try dsimp only at hSw); go_simp <;> with_reducible rfl)
         simp only [Act.put, List.setIfInBounds_toArray, List.set_cons_zero, List.set_cons_succ]
         refine take_at 15 51 (v := ?vpq15) (fuel := 9) rfl rfl (by kernel_rfl) (by kernel_rfl) (by kernel_rfl) (fun _ _ _ h => h) (by rfl) hH4 ?hypq15 ?restpq15
         case hypq15 => (intro w' hSw; (try dsimp only at hSw); go_simp <;> with_reducible rfl)
         simp only [Act.put, List.setIfInBounds_toArray, List.set_cons_zero, List.set_cons_succ]
         refine take_at 16 52 (v := ?vpq16) (fuel := 8) rfl rfl (by kernel_rfl) (by kernel_rfl) (by kernel_rfl) (fun _ _ _ h => h) (by rfl) hH4 ?hypq16 ?restpq16
         case hypq16 => (intro w' hSw; (try dsimp only at hSw); go_simp <;> with_reducible rfl)
         simp only [Act.put, List.setIfInBounds_toArray, List.set_cons_zero, List.set_cons_succ]
         refine take_at 18 54 (v := ?vpq18) (fuel := 7) rfl rfl (by kernel_rfl) (by kernel_rfl) (by kernel_rfl) (fun _ _ _ h => h) (by rfl) hH4 ?hypq18 ?restpq18
         case hypq18 => (intro w' hSw; (try dsimp only at hSw); go_simp <;> with_reducible rfl)
         simp only [Act.put, List.setIfInBounds_toArray, List.set_cons_zero, List.set_cons_succ]
         refine take_at 19 55 (v := ?vpq19) (fuel := 6) rfl rfl (by kernel_rfl) (by kernel_rfl) (by kernel_rfl) (fun _ _ _ h => h) (by rfl) hH4 ?hypq19 ?restpq19
         case hypq19 => (intro w' hSw; (try dsimp only at hSw); go_simp <;> with_reducible rfl)
         simp only [Act.put, List.setIfInBounds_toArray, List.set_cons_zero, List.set_cons_succ]
         refine take_at 20 56 (v := ?vpq20) (fuel := 5) rfl rfl (by kernel_rfl) (by kernel_rfl) (by kernel_rfl) (fun _ _ _ h => h) (by rfl) hH4 ?hypq20 ?restpq20
         case hypq20 => (intro w' hSw; (try dsimp only at hSw); go_simp <;> with_reducible rfl)
         simp only [Act.put, List.setIfInBounds_toArray, List.set_cons_zero, List.set_cons_succ]
         refine take_at 21 57 (v := ?vpq21) (fuel := 4) rfl rfl (by kernel_rfl) (by kernel_rfl) (by kernel_rfl) (fun _ _ _ h => h) (by rfl) hH4 ?hypq21 ?restpq21
         case hypq21 => (intro w' hSw; (try dsimp only at hSw); go_simp <;> with_reducible rfl)
         simp only [Act.put, List.setIfInBounds_toArray, List.set_cons_zero, List.set_cons_succ]
         refine take_at 22 58 (v := ?vpq22) (fuel := 3) rfl rfl (by kernel_rfl) (by kernel_rfl) (by kernel_rfl) (fun _ _ _ h => h) (by rfl) hH4 ?hypq22 ?restpq22
         case hypq22 => (intro w' hSw; (try dsimp only at hSw); go_simp <;> with_reducible rfl)
         simp only [Act.put, List.setIfInBounds_toArray, List.set_cons_zero, List.set_cons_succ]
         refine wpAnyH_ready (rs := [17]) (fuel := 2) (by kernel_rfl) (by simp) ?_
         refine AllReadyH.cons rfl (fun Kq hK => ?_) AllReadyH.nil
         go_simp
         refine (cutv_any _ B6.out.f.obj).mono ?_
         rintro e wq1 ⟨rfl, rfl⟩
         go_simp
         refine hK.out _ _ hH4 (fun hQ1 => ?_)
         clear hK Kq hH4
         (try simp only [Act.put, List.setIfInBounds_toArray, List.set_cons_zero, List.set_cons_succ])
         refine take_at 23 59 (v := ?vpq23) (fuel := 1) rfl rfl (by kernel_rfl) (by kernel_rfl) (by kernel_rfl) (fun _ _ _ h => h) (by rfl) hQ1 ?hypq23 ?restpq23
         case hypq23 => (intro w' hSw; (try dsimp only at hSw); go_simp <;> with_reducible rfl)
         simp only [Act.put, List.setIfInBounds_toArray, List.set_cons_zero, List.set_cons_succ]
         refine take_at 24 60 (v := ?vpq24) (fuel := 0) rfl rfl (by kernel_rfl) (by kernel_rfl) (by kernel_rfl) (fun _ _ _ h => h) (by rfl) hQ1 ?hypq24 ?restpq24
         case hypq24 => (intro w' hSw; (try dsimp only at hSw); go_simp <;> with_reducible rfl)
         simp only [Act.put, List.setIfInBounds_toArray, List.set_cons_zero, List.set_cons_succ]
         refine wpAnyH_done (by kernel_rfl) ?_ _
         clear hQ1 HE HE5 T1 N1 T6 B5 BD
         have BQ := Lib.hid (B6.out.on (Cv.keeps _ _ _ _ _ _ _) (Rv.keeps _ _ _ _ _) (Below.refl _ _).drew)
         clear B6
         by_cases hje : j < en
         · obtain ⟨eb, eo, rfl, heb, hec⟩ := U0.out.cells (by omega)
           have e2 := Lib.hid (hec j hje)
           clear hec
           have j2 : (j : Int) < (en : Int) := by omega
           generalize U.getD j false = u at e2
           cases u with
           | true =>
             go_wp2_with fail
             have hS := hold1 heb e2.out BQ.out.f.below
             refine wp_region_held_drew (S := fun w' => w'.cell? ⟨eb, eo + j, none⟩ = some (.bool true) ∧ Below W0.heap.size W0 w') (by kernel_rfl) hS (fun hHeld => ?_)
             clear hS
             show wpAnyH _ _ _ _ _ 29 _ _ _
             refine take_at 0 61 (v := ?vaq0) (fuel := 28) rfl rfl (by kernel_rfl) (by kernel_rfl) (by kernel_rfl) (fun _ _ _ h => h) (by rfl) hHeld ?hyaq0 ?restaq0
             case hyaq0 => (intro w' hSw; (try dsimp only at hSw); go_simp <;> with_reducible rfl)
             simp only [Act.put, List.setIfInBounds_toArray, List.set_cons_zero, List.set_cons_succ]
             refine take_at 1 62 (v := ?vaq1) (fuel := 27) rfl rfl (by kernel_rfl) (by kernel_rfl) (by kernel_rfl) (fun _ _ _ h => h) (by rfl) hHeld ?hyaq1 ?restaq1
             case hyaq1 => (intro w' hSw; (try dsimp only at hSw); go_simp <;> with_reducible rfl)
             simp only [Act.put, List.setIfInBounds_toArray, List.set_cons_zero, List.set_cons_succ]
             refine take_at 2 63 (v := ?vaq2) (fuel := 26) rfl rfl (by kernel_rfl) (by kernel_rfl) (by kernel_rfl) (fun _ _ _ h => h) (by rfl) hHeld ?hyaq2 ?restaq2
             case hyaq2 => (intro w' hSw; (try dsimp only at hSw); go_simp <;> with_reducible rfl)
             simp only [Act.put, List.setIfInBounds_toArray, List.set_cons_zero, List.set_cons_succ]
             refine take_at 3 64 (v := ?vaq3) (fuel := 25) rfl rfl (by kernel_rfl) (by kernel_rfl) (by kernel_rfl) (fun _ _ _ h => h) (by rfl) hHeld ?hyaq3 ?restaq3
             case hyaq3 => (intro w' hSw; (try dsimp only at hSw); go_simp <;> with_reducible rfl)
             simp only [Act.put, List.setIfInBounds_toArray, List.set_cons_zero, List.set_cons_succ]
             refine take_at 4 65 (v := ?vaq4) (fuel := 24) rfl rfl (by kernel_rfl) (by kernel_rfl) (by kernel_rfl) (fun _ _ _ h => h) (by rfl) hHeld ?hyaq4 ?restaq4
             case hyaq4 => (intro w' hSw; (try dsimp only at hSw); go_simp <;> with_reducible rfl)
             simp only [Act.put, List.setIfInBounds_toArray, List.set_cons_zero, List.set_cons_succ]
             refine take_at 5 66 (v := ?vaq5) (fuel := 23) rfl rfl (by kernel_rfl) (by kernel_rfl) (by kernel_rfl) (fun _ _ _ h => h) (by rfl) hHeld ?hyaq5 ?restaq5
             case hyaq5 => (intro w' hSw; (try dsimp only at hSw); go_simp <;> with_reducible rfl)
             simp only [Act.put, List.setIfInBounds_toArray, List.set_cons_zero, List.set_cons_succ]
             refine take_at 6 67 (v := ?vaq6) (fuel := 22) rfl rfl (by kernel_rfl) (by kernel_rfl) (by kernel_rfl) (fun _ _ _ h => h) (by rfl) hHeld ?hyaq6 ?restaq6
             case hyaq6 => (intro w' hSw; (try dsimp only at hSw); go_simp <;> with_reducible rfl)
             simp only [Act.put, List.setIfInBounds_toArray, List.set_cons_zero, List.set_cons_succ]
             refine take_at 7 68 (v := ?vaq7) (fuel := 21) rfl rfl (by kernel_rfl) (by kernel_rfl) (by kernel_rfl) (fun _ _ _ h => h) (by rfl) hHeld ?hyaq7 ?restaq7
             case hyaq7 => (intro w' hSw; (try dsimp only at hSw); go_simp <;> with_reducible rfl)
             simp only [Act.put, List.setIfInBounds_toArray, List.set_cons_zero, List.set_cons_succ]
             refine take_at 8 69 (v := ?vaq8) (fuel := 20) rfl rfl (by kernel_rfl) (by kernel_rfl) (by kernel_rfl) (fun _ _ _ h => h) (by rfl) hHeld ?hyaq8 ?restaq8
             case hyaq8 => (intro w' hSw; (try dsimp only at hSw); go_simp <;> with_reducible rfl)
             simp only [Act.put, List.setIfInBounds_toArray, List.set_cons_zero, List.set_cons_succ]
             refine take_at 9 70 (v := ?vaq9) (fuel := 19) rfl rfl (by kernel_rfl) (by kernel_rfl) (by kernel_rfl) (fun _ _ _ h => h) (by rfl) hHeld ?hyaq9 ?restaq9
             case hyaq9 => (intro w' hSw; (try dsimp only at hSw); go_simp <;> with_reducible rfl)
             simp only [Act.put, List.setIfInBounds_toArray, List.set_cons_zero, List.set_cons_succ]
             refine take_at 10 71 (v := ?vaq10) (fuel := 18) rfl rfl (by kernel_rfl) (by kernel_rfl) (by kernel_rfl) (fun _ _ _ h => h) (by rfl) hHeld ?hyaq10 ?restaq10
             case hyaq10 => (intro w' hSw; (try dsimp only at hSw); go_simp <;> with_reducible rfl)
             simp only [Act.put, List.setIfInBounds_toArray, List.set_cons_zero, List.set_cons_succ]
             refine take_at 11 72 (v := ?vaq11) (fuel := 17) rfl rfl (by kernel_rfl) (by kernel_rfl) (by kernel_rfl) (fun _ _ _ h => h) (by rfl) hHeld ?hyaq11 ?restaq11
             case hyaq11 => (intro w' hSw; (try dsimp only at hSw); go_simp <;> with_reducible rfl)
             simp only [Act.put, List.setIfInBounds_toArray, List.set_cons_zero, List.set_cons_succ]
             refine take_at 14 75 (v := ?vaq14) (fuel := 16) rfl rfl (by kernel_rfl) (by kernel_rfl) (by kernel_rfl) (fun _ _ _ h => h) (by rfl) hHeld ?hyaq14 ?restaq14
             case hyaq14 => (intro w' hSw; (try dsimp only at hSw); go_simp <;> with_reducible rfl)
             simp only [Act.put, List.setIfInBounds_toArray, List.set_cons_zero, List.set_cons_succ]
             refine wpAnyH_ready (rs := [12]) (fuel := 15) (by kernel_rfl) (by simp) ?_
             refine AllReadyH.cons rfl (fun Kq hK => ?_) AllReadyH.nil
             go_simp
             refine (endv_any b sb pb y ks2 l2 c2 S5 o3 c3 _ BQ.out.f.obj hcb (by omega) (by omega) HO3.out HC3.out).mono ?_
             rintro e w8 ⟨A3, m3, cc3, S8, rfl, q1, q2, q3, q4, q5⟩
             have B8 := Lib.hid (BQ.out.fst (Rv.keeps _ _ _ _ _) q3 q4 q5)
             have T3 := Lib.hid q1; have N3 := Lib.hid (show ∀ g o s, A3 = some ⟨g, o, s⟩ → ¬ T6s g from fun g o s he ht => by have := (q2 g o s he).1; have := (Rv.keeps _ _ _ _ _).lt BQ.out.g.obj g ht; omega)
             go_simp
             refine hK.out _ _ (hold1 heb e2.out B8.out.f.below) (fun hH1 => ?_)
             refine wpAnyH_more (S' := fun w' => (w'.cell? ⟨eb, eo + j, none⟩ = some (.bool true) ∧ Below W0.heap.size W0 w') ∧ Bytes w' A3 m3 cc3 o3) (fun _ h => h.1) _ _ _ _ ?_
             have hH2 := (show (fun w' : World => (w'.cell? ⟨eb, eo + j, none⟩ = some (.bool true) ∧ Below W0.heap.size W0 w') ∧ Bytes w' A3 m3 cc3 o3) w8 from ⟨hH1, T3.out.bytes.1⟩)
             clear hK Kq hHeld hH1 q1 q2 q3 q4 q5
             (try simp only [Act.put, List.setIfInBounds_toArray, List.set_cons_zero, List.set_cons_succ])
             refine take_text 13 74 (fuel := 14) _ A3 m3 cc3 o3 rfl rfl (by kernel_rfl) (by kernel_rfl) (by kernel_rfl) (fun _ _ _ h => h) (by rfl) hH2 rfl rfl (fun _ h => h.2) T3.out.bytes.2 ?_
             simp only [Act.put, List.setIfInBounds_toArray, List.set_cons_zero, List.set_cons_succ]
             refine wpAnyH_ready (rs := [15]) (fuel := 13) (by kernel_rfl) (by simp) ?_
             refine AllReadyH.cons rfl (fun Kq hK => ?_) AllReadyH.nil
             go_simp
             refine (rendc_any r y ks2 l2 c2 T6s o3 c3 _ B8.out.g.obj hcb (by omega) (by omega) HO3.out HC3.out).mono ?_
             rintro e w9 ⟨A4, m4, cc4, T9, rfl, q1, q3, q4, q5⟩
             have B9 := Lib.hid (B8.out.snd (Cv.keeps _ _ _ _ _ _ _) q3 q4 q5)
             have T4 := Lib.hid q1
             go_simp
             refine hK.out _ _ ⟨hold1 heb e2.out B9.out.f.below, (T3.out.only q4 N3.out).bytes.1⟩ (fun hH3 => ?_)
             refine wpAnyH_more (S' := fun w' => ((w'.cell? ⟨eb, eo + j, none⟩ = some (.bool true) ∧ Below W0.heap.size W0 w') ∧ Bytes w' A3 m3 cc3 o3) ∧ Bytes w' A4 m4 cc4 o3 ∧ w'.cell? ⟨r, 12, none⟩ = some (.int .i64 (c3 : Nat))) (fun _ h => h.1) _ _ _ _ ?_
             have hH4 := (show (fun w' : World => ((w'.cell? ⟨eb, eo + j, none⟩ = some (.bool true) ∧ Below W0.heap.size W0 w') ∧ Bytes w' A3 m3 cc3 o3) ∧ Bytes w' A4 m4 cc4 o3 ∧ w'.cell? ⟨r, 12, none⟩ = some (.int .i64 (c3 : Nat))) w9 from ⟨hH3, T4.out.bytes.1, B9.out.g.obj.cut⟩)
             clear hK Kq hH2 hH3 q1 q3 q4 q5
             (try simp only [Act.put, List.setIfInBounds_toArray, List.set_cons_zero, List.set_cons_succ])
             refine take_text 16 77 (fuel := 12) _ A4 m4 cc4 o3 rfl rfl (by kernel_rfl) (by kernel_rfl) (by kernel_rfl) (fun _ _ _ h => h) (by rfl) hH4 rfl rfl (fun _ h => h.2.1) T4.out.bytes.2 ?_
             simp only [Act.put, List.setIfInBounds_toArray, List.set_cons_zero, List.set_cons_succ]
             refine take_at 17 78 (v := ?vaq17) (fuel := 11) rfl rfl (by kernel_rfl) (by kernel_rfl) (by kernel_rfl) (fun _ _ _ h => h) (by rfl) hH4 ?hyaq17 ?restaq17
             case hyaq17 => (intro w' hSw; (try dsimp only at hSw); go_simp <;> with_reducible rfl)
             simp only [Act.put, List.setIfInBounds_toArray, List.set_cons_zero, List.set_cons_succ]
             refine take_at 18 79 (v := ?vaq18) (fuel := 10) rfl rfl (by kernel_rfl) (by kernel_rfl) (by kernel_rfl) (fun _ _ _ h => h) (by rfl) hH4 ?hyaq18 ?restaq18
             case hyaq18 => (intro w' hSw; (try dsimp only at hSw); go_simp <;> with_reducible rfl)
             simp only [Act.put, List.setIfInBounds_toArray, List.set_cons_zero, List.set_cons_succ]
             refine take_at 19 80 (v := ?vaq19) (fuel := 9) rfl rfl (by kernel_rfl) (by kernel_rfl) (by kernel_rfl) (fun _ _ _ h => h) (by rfl) hH4 ?hyaq19 ?restaq19
             case hyaq19 => (intro w' hSw; (try dsimp only at hSw); go_simp <;> with_reducible rfl)
             simp only [Act.put, List.setIfInBounds_toArray, List.set_cons_zero, List.set_cons_succ]
             refine take_at 21 82 (v := ?vaq21) (fuel := 8) rfl rfl (by kernel_rfl) (by kernel_rfl) (by kernel_rfl) (fun _ _ _ h => h) (by rfl) hH4 ?hyaq21 ?restaq21
             case hyaq21 => (intro w' hSw; (try dsimp only at hSw); go_simp <;> with_reducible rfl)
             simp only [Act.put, List.setIfInBounds_toArray, List.set_cons_zero, List.set_cons_succ]
             refine take_at 22 83 (v := ?vaq22) (fuel := 7) rfl rfl (by kernel_rfl) (by kernel_rfl) (by kernel_rfl) (fun _ _ _ h => h) (by rfl) hH4 ?hyaq22 ?restaq22
             case hyaq22 => (intro w' hSw; (try dsimp only at hSw); go_simp <;> with_reducible rfl)
             simp only [Act.put, List.setIfInBounds_toArray, List.set_cons_zero, List.set_cons_succ]
             refine take_at 23 84 (v := ?vaq23) (fuel := 6) rfl rfl (by kernel_rfl) (by kernel_rfl) (by kernel_rfl) (fun _ _ _ h => h) (by rfl) hH4 ?hyaq23 ?restaq23
             case hyaq23 => (intro w' hSw; (try dsimp only at hSw); go_simp <;> with_reducible rfl)
             simp only [Act.put, List.setIfInBounds_toArray, List.set_cons_zero, List.set_cons_succ]
             refine take_at 24 85 (v := ?vaq24) (fuel := 5) rfl rfl (by kernel_rfl) (by kernel_rfl) (by kernel_rfl) (fun _ _ _ h => h) (by rfl) hH4 ?hyaq24 ?restaq24
             case hyaq24 => (intro w' hSw; (try dsimp only at hSw); go_simp <;> with_reducible rfl)
             simp only [Act.put, List.setIfInBounds_toArray, List.set_cons_zero, List.set_cons_succ]
             refine take_at 25 86 (v := ?vaq25) (fuel := 4) rfl rfl (by kernel_rfl) (by kernel_rfl) (by kernel_rfl) (fun _ _ _ h => h) (by rfl) hH4 ?hyaq25 ?restaq25
             case hyaq25 => (intro w' hSw; (try dsimp only at hSw); go_simp <;> with_reducible rfl)
             simp only [Act.put, List.setIfInBounds_toArray, List.set_cons_zero, List.set_cons_succ]
             refine wpAnyH_ready (rs := [20]) (fuel := 3) (by kernel_rfl) (by simp) ?_
             refine AllReadyH.cons rfl (fun Kq hK => ?_) AllReadyH.nil
             go_simp
             refine (cutv_any _ B9.out.f.obj).mono ?_
             rintro e wq2 ⟨rfl, rfl⟩
             go_simp
             refine hK.out _ _ hH4 (fun hQ2 => ?_)
             clear hK Kq hH4
             (try simp only [Act.put, List.setIfInBounds_toArray, List.set_cons_zero, List.set_cons_succ])
             refine take_at 26 87 (v := ?vaq26) (fuel := 2) rfl rfl (by kernel_rfl) (by kernel_rfl) (by kernel_rfl) (fun _ _ _ h => h) (by rfl) hQ2 ?hyaq26 ?restaq26
             case hyaq26 => (intro w' hSw; (try dsimp only at hSw); go_simp <;> with_reducible rfl)
             simp only [Act.put, List.setIfInBounds_toArray, List.set_cons_zero, List.set_cons_succ]
             refine take_at 27 88 (v := ?vaq27) (fuel := 1) rfl rfl (by kernel_rfl) (by kernel_rfl) (by kernel_rfl) (fun _ _ _ h => h) (by rfl) hQ2 ?hyaq27 ?restaq27
             case hyaq27 => (intro w' hSw; (try dsimp only at hSw); go_simp <;> with_reducible rfl)
             simp only [Act.put, List.setIfInBounds_toArray, List.set_cons_zero, List.set_cons_succ]
             refine take_at 28 89 (v := ?vaq28) (fuel := 0) rfl rfl (by kernel_rfl) (by kernel_rfl) (by kernel_rfl) (fun _ _ _ h => h) (by rfl) hQ2 ?hyaq28 ?restaq28
             case hyaq28 => (intro w' hSw; (try dsimp only at hSw); go_simp <;> with_reducible rfl)
             simp only [Act.put, List.setIfInBounds_toArray, List.set_cons_zero, List.set_cons_succ]
             refine wpAnyH_done (by kernel_rfl) ?_ _
             clear hQ2 T3 N3 T4 B8 BQ
             go_wp2
             go_roundw
             case rel => exact ⟨j + 1, S8, T9, [], [], c3, by omega, by go_num, B9.out, ⟨Nat.zero_le _, IL3.out⟩⟩
             case measure => simp [intOf]; omega
           | false =>
             go_wp2_with fail
             have hS := hold1 heb e2.out BQ.out.f.below
             refine wp_region_held_drew (S := fun w' => w'.cell? ⟨eb, eo + j, none⟩ = some (.bool false) ∧ Below W0.heap.size W0 w') (by kernel_rfl) hS (fun hHeld => ?_)
             clear hS
             show wpAnyH _ _ _ _ _ 29 _ _ _
             refine take_at 0 61 (v := ?vbq0) (fuel := 28) rfl rfl (by kernel_rfl) (by kernel_rfl) (by kernel_rfl) (fun _ _ _ h => h) (by rfl) hHeld ?hybq0 ?restbq0
             case hybq0 => (intro w' hSw; (try dsimp only at hSw); go_simp <;> with_reducible rfl)
             simp only [Act.put, List.setIfInBounds_toArray, List.set_cons_zero, List.set_cons_succ]
             refine take_at 1 62 (v := ?vbq1) (fuel := 27) rfl rfl (by kernel_rfl) (by kernel_rfl) (by kernel_rfl) (fun _ _ _ h => h) (by rfl) hHeld ?hybq1 ?restbq1
             case hybq1 => (intro w' hSw; (try dsimp only at hSw); go_simp <;> with_reducible rfl)
             simp only [Act.put, List.setIfInBounds_toArray, List.set_cons_zero, List.set_cons_succ]
             refine take_at 2 63 (v := ?vbq2) (fuel := 26) rfl rfl (by kernel_rfl) (by kernel_rfl) (by kernel_rfl) (fun _ _ _ h => h) (by rfl) hHeld ?hybq2 ?restbq2
             case hybq2 => (intro w' hSw; (try dsimp only at hSw); go_simp <;> with_reducible rfl)
             simp only [Act.put, List.setIfInBounds_toArray, List.set_cons_zero, List.set_cons_succ]
             refine take_at 3 64 (v := ?vbq3) (fuel := 25) rfl rfl (by kernel_rfl) (by kernel_rfl) (by kernel_rfl) (fun _ _ _ h => h) (by rfl) hHeld ?hybq3 ?restbq3
             case hybq3 => (intro w' hSw; (try dsimp only at hSw); go_simp <;> with_reducible rfl)
             simp only [Act.put, List.setIfInBounds_toArray, List.set_cons_zero, List.set_cons_succ]
             refine take_at 4 65 (v := ?vbq4) (fuel := 24) rfl rfl (by kernel_rfl) (by kernel_rfl) (by kernel_rfl) (fun _ _ _ h => h) (by rfl) hHeld ?hybq4 ?restbq4
             case hybq4 => (intro w' hSw; (try dsimp only at hSw); go_simp <;> with_reducible rfl)
             simp only [Act.put, List.setIfInBounds_toArray, List.set_cons_zero, List.set_cons_succ]
             refine take_at 5 66 (v := ?vbq5) (fuel := 23) rfl rfl (by kernel_rfl) (by kernel_rfl) (by kernel_rfl) (fun _ _ _ h => h) (by rfl) hHeld ?hybq5 ?restbq5
             case hybq5 => (intro w' hSw; (try dsimp only at hSw); go_simp <;> with_reducible rfl)
             simp only [Act.put, List.setIfInBounds_toArray, List.set_cons_zero, List.set_cons_succ]
             refine take_at 6 67 (v := ?vbq6) (fuel := 22) rfl rfl (by kernel_rfl) (by kernel_rfl) (by kernel_rfl) (fun _ _ _ h => h) (by rfl) hHeld ?hybq6 ?restbq6
             case hybq6 => (intro w' hSw; (try dsimp only at hSw); go_simp <;> with_reducible rfl)
             simp only [Act.put, List.setIfInBounds_toArray, List.set_cons_zero, List.set_cons_succ]
             refine take_at 7 68 (v := ?vbq7) (fuel := 21) rfl rfl (by kernel_rfl) (by kernel_rfl) (by kernel_rfl) (fun _ _ _ h => h) (by rfl) hHeld ?hybq7 ?restbq7
             case hybq7 => (intro w' hSw; (try dsimp only at hSw); go_simp <;> with_reducible rfl)
             simp only [Act.put, List.setIfInBounds_toArray, List.set_cons_zero, List.set_cons_succ]
             refine take_at 8 69 (v := ?vbq8) (fuel := 20) rfl rfl (by kernel_rfl) (by kernel_rfl) (by kernel_rfl) (fun _ _ _ h => h) (by rfl) hHeld ?hybq8 ?restbq8
             case hybq8 => (intro w' hSw; (try dsimp only at hSw); go_simp <;> with_reducible rfl)
             simp only [Act.put, List.setIfInBounds_toArray, List.set_cons_zero, List.set_cons_succ]
             refine take_at 9 70 (v := ?vbq9) (fuel := 19) rfl rfl (by kernel_rfl) (by kernel_rfl) (by kernel_rfl) (fun _ _ _ h => h) (by rfl) hHeld ?hybq9 ?restbq9
             case hybq9 => (intro w' hSw; (try dsimp only at hSw); go_simp <;> with_reducible rfl)
             simp only [Act.put, List.setIfInBounds_toArray, List.set_cons_zero, List.set_cons_succ]
             refine take_at 10 71 (v := ?vbq10) (fuel := 18) rfl rfl (by kernel_rfl) (by kernel_rfl) (by kernel_rfl) (fun _ _ _ h => h) (by rfl) hHeld ?hybq10 ?restbq10
             case hybq10 => (intro w' hSw; (try dsimp only at hSw); go_simp <;> with_reducible rfl)
             simp only [Act.put, List.setIfInBounds_toArray, List.set_cons_zero, List.set_cons_succ]
             refine skip_at 11 72 (fuel := 17) rfl rfl (by kernel_rfl) (by kernel_rfl) (by kernel_rfl) (fun _ _ _ h => h) (by rfl) hHeld ?_
             simp only [Act.put, List.setIfInBounds_toArray, List.set_cons_zero, List.set_cons_succ]
             refine skip_at 12 73 (fuel := 16) rfl rfl (by kernel_rfl) (by kernel_rfl) (by kernel_rfl) (fun _ _ _ h => h) (by rfl) hHeld ?_
             simp only [Act.put, List.setIfInBounds_toArray, List.set_cons_zero, List.set_cons_succ]
             refine skip_at 13 74 (fuel := 15) rfl rfl (by kernel_rfl) (by kernel_rfl) (by kernel_rfl) (fun _ _ _ h => h) (by rfl) hHeld ?_
             simp only [Act.put, List.setIfInBounds_toArray, List.set_cons_zero, List.set_cons_succ]
             refine skip_at 14 75 (fuel := 14) rfl rfl (by kernel_rfl) (by kernel_rfl) (by kernel_rfl) (fun _ _ _ h => h) (by rfl) hHeld ?_
             simp only [Act.put, List.setIfInBounds_toArray, List.set_cons_zero, List.set_cons_succ]
             refine skip_at 15 76 (fuel := 13) rfl rfl (by kernel_rfl) (by kernel_rfl) (by kernel_rfl) (fun _ _ _ h => h) (by rfl) hHeld ?_
             simp only [Act.put, List.setIfInBounds_toArray, List.set_cons_zero, List.set_cons_succ]
             refine skip_at 16 77 (fuel := 12) rfl rfl (by kernel_rfl) (by kernel_rfl) (by kernel_rfl) (fun _ _ _ h => h) (by rfl) hHeld ?_
             simp only [Act.put, List.setIfInBounds_toArray, List.set_cons_zero, List.set_cons_succ]
             refine skip_at 17 78 (fuel := 11) rfl rfl (by kernel_rfl) (by kernel_rfl) (by kernel_rfl) (fun _ _ _ h => h) (by rfl) hHeld ?_
             simp only [Act.put, List.setIfInBounds_toArray, List.set_cons_zero, List.set_cons_succ]
             refine skip_at 18 79 (fuel := 10) rfl rfl (by kernel_rfl) (by kernel_rfl) (by kernel_rfl) (fun _ _ _ h => h) (by rfl) hHeld ?_
             simp only [Act.put, List.setIfInBounds_toArray, List.set_cons_zero, List.set_cons_succ]
             refine skip_at 19 80 (fuel := 9) rfl rfl (by kernel_rfl) (by kernel_rfl) (by kernel_rfl) (fun _ _ _ h => h) (by rfl) hHeld ?_
             simp only [Act.put, List.setIfInBounds_toArray, List.set_cons_zero, List.set_cons_succ]
             refine skip_at 20 81 (fuel := 8) rfl rfl (by kernel_rfl) (by kernel_rfl) (by kernel_rfl) (fun _ _ _ h => h) (by rfl) hHeld ?_
             simp only [Act.put, List.setIfInBounds_toArray, List.set_cons_zero, List.set_cons_succ]
             refine skip_at 21 82 (fuel := 7) rfl rfl (by kernel_rfl) (by kernel_rfl) (by kernel_rfl) (fun _ _ _ h => h) (by rfl) hHeld ?_
             simp only [Act.put, List.setIfInBounds_toArray, List.set_cons_zero, List.set_cons_succ]
             refine skip_at 22 83 (fuel := 6) rfl rfl (by kernel_rfl) (by kernel_rfl) (by kernel_rfl) (fun _ _ _ h => h) (by rfl) hHeld ?_
             simp only [Act.put, List.setIfInBounds_toArray, List.set_cons_zero, List.set_cons_succ]
             refine skip_at 23 84 (fuel := 5) rfl rfl (by kernel_rfl) (by kernel_rfl) (by kernel_rfl) (fun _ _ _ h => h) (by rfl) hHeld ?_
             simp only [Act.put, List.setIfInBounds_toArray, List.set_cons_zero, List.set_cons_succ]
             refine skip_at 24 85 (fuel := 4) rfl rfl (by kernel_rfl) (by kernel_rfl) (by kernel_rfl) (fun _ _ _ h => h) (by rfl) hHeld ?_
             simp only [Act.put, List.setIfInBounds_toArray, List.set_cons_zero, List.set_cons_succ]
             refine skip_at 25 86 (fuel := 3) rfl rfl (by kernel_rfl) (by kernel_rfl) (by kernel_rfl) (fun _ _ _ h => h) (by rfl) hHeld ?_
             simp only [Act.put, List.setIfInBounds_toArray, List.set_cons_zero, List.set_cons_succ]
             refine skip_at 26 87 (fuel := 2) rfl rfl (by kernel_rfl) (by kernel_rfl) (by kernel_rfl) (fun _ _ _ h => h) (by rfl) hHeld ?_
             simp only [Act.put, List.setIfInBounds_toArray, List.set_cons_zero, List.set_cons_succ]
             refine skip_at 27 88 (fuel := 1) rfl rfl (by kernel_rfl) (by kernel_rfl) (by kernel_rfl) (fun _ _ _ h => h) (by rfl) hHeld ?_
             simp only [Act.put, List.setIfInBounds_toArray, List.set_cons_zero, List.set_cons_succ]
             refine take_at 28 89 (v := ?vbq28) (fuel := 0) rfl rfl (by kernel_rfl) (by kernel_rfl) (by kernel_rfl) (fun _ _ _ h => h) (by rfl) hHeld ?hybq28 ?restbq28
             case hybq28 => (intro w' hSw; (try dsimp only at hSw); go_simp <;> with_reducible rfl)
             simp only [Act.put, List.setIfInBounds_toArray, List.set_cons_zero, List.set_cons_succ]
             refine wpAnyH_done (by kernel_rfl) ?_ _
             clear hHeld
             go_wp2
             go_roundw
             case rel => exact ⟨j + 1, S5, T6s, ks2, l2, c2, by omega, by go_num, BQ.out, ⟨IL2.out.1, by have := IL2.out.2; omega⟩⟩
             case measure => simp [intOf]; omega
         · have j2 : decide ((j : Int) < (en : Int)) = false := by simp; omega
           have j3 : ¬ (j : Int) < (en : Int) := by omega
           go_wp2_with fail
           have hS := BQ.out.f.below
           refine wp_region_held_drew (S := fun w' => Below W0.heap.size W0 w') (by kernel_rfl) hS (fun hHeld => ?_)
           clear hS
           show wpAnyH _ _ _ _ _ 29 _ _ _
           refine take_at 0 61 (v := ?vcq0) (fuel := 28) rfl rfl (by kernel_rfl) (by kernel_rfl) (by kernel_rfl) (fun _ _ _ h => h) (by rfl) hHeld ?hycq0 ?restcq0
           case hycq0 => (intro w' hSw; (try dsimp only at hSw); go_simp <;> with_reducible rfl)
           simp only [Act.put, List.setIfInBounds_toArray, List.set_cons_zero, List.set_cons_succ]
           refine take_at 1 62 (v := ?vcq1) (fuel := 27) rfl rfl (by kernel_rfl) (by kernel_rfl) (by kernel_rfl) (fun _ _ _ h => h) (by rfl) hHeld ?hycq1 ?restcq1
           case hycq1 => (intro w' hSw; (try dsimp only at hSw); go_simp <;> with_reducible rfl)
           simp only [Act.put, List.setIfInBounds_toArray, List.set_cons_zero, List.set_cons_succ]
           refine take_at 2 63 (v := ?vcq2) (fuel := 26) rfl rfl (by kernel_rfl) (by kernel_rfl) (by kernel_rfl) (fun _ _ _ h => h) (by rfl) hHeld ?hycq2 ?restcq2
           case hycq2 => (intro w' hSw; (try dsimp only at hSw); go_simp <;> with_reducible rfl)
           simp only [Act.put, List.setIfInBounds_toArray, List.set_cons_zero, List.set_cons_succ]
           refine take_at 3 64 (v := ?vcq3) (fuel := 25) rfl rfl (by kernel_rfl) (by kernel_rfl) (by kernel_rfl) (fun _ _ _ h => h) (by rfl) hHeld ?hycq3 ?restcq3
           case hycq3 => (intro w' hSw; (try dsimp only at hSw); go_simp <;> with_reducible rfl)
           simp only [Act.put, List.setIfInBounds_toArray, List.set_cons_zero, List.set_cons_succ]
           refine take_at 4 65 (v := ?vcq4) (fuel := 24) rfl rfl (by kernel_rfl) (by kernel_rfl) (by kernel_rfl) (fun _ _ _ h => h) (by rfl) hHeld ?hycq4 ?restcq4
           case hycq4 => (intro w' hSw; (try dsimp only at hSw); go_simp <;> with_reducible rfl)
           simp only [Act.put, List.setIfInBounds_toArray, List.set_cons_zero, List.set_cons_succ]
           refine skip_at 5 66 (fuel := 23) rfl rfl (by kernel_rfl) (by kernel_rfl) (by kernel_rfl) (fun _ _ _ h => h) (by rfl) hHeld ?_
           simp only [Act.put, List.setIfInBounds_toArray, List.set_cons_zero, List.set_cons_succ]
           refine skip_at 6 67 (fuel := 22) rfl rfl (by kernel_rfl) (by kernel_rfl) (by kernel_rfl) (fun _ _ _ h => h) (by rfl) hHeld ?_
           simp only [Act.put, List.setIfInBounds_toArray, List.set_cons_zero, List.set_cons_succ]
           refine skip_at 7 68 (fuel := 21) rfl rfl (by kernel_rfl) (by kernel_rfl) (by kernel_rfl) (fun _ _ _ h => h) (by rfl) hHeld ?_
           simp only [Act.put, List.setIfInBounds_toArray, List.set_cons_zero, List.set_cons_succ]
           refine skip_at 8 69 (fuel := 20) rfl rfl (by kernel_rfl) (by kernel_rfl) (by kernel_rfl) (fun _ _ _ h => h) (by rfl) hHeld ?_
           simp only [Act.put, List.setIfInBounds_toArray, List.set_cons_zero, List.set_cons_succ]
           refine take_at 9 70 (v := ?vcq9) (fuel := 19) rfl rfl (by kernel_rfl) (by kernel_rfl) (by kernel_rfl) (fun _ _ _ h => h) (by rfl) hHeld ?hycq9 ?restcq9
           case hycq9 => (intro w' hSw; (try dsimp only at hSw); go_simp <;> with_reducible rfl)
           simp only [Act.put, List.setIfInBounds_toArray, List.set_cons_zero, List.set_cons_succ]
           refine take_at 10 71 (v := ?vcq10) (fuel := 18) rfl rfl (by kernel_rfl) (by kernel_rfl) (by kernel_rfl) (fun _ _ _ h => h) (by rfl) hHeld ?hycq10 ?restcq10
           case hycq10 => (intro w' hSw; (try dsimp only at hSw); go_simp <;> with_reducible rfl)
           simp only [Act.put, List.setIfInBounds_toArray, List.set_cons_zero, List.set_cons_succ]
           refine skip_at 11 72 (fuel := 17) rfl rfl (by kernel_rfl) (by kernel_rfl) (by kernel_rfl) (fun _ _ _ h => h) (by rfl) hHeld ?_
           simp only [Act.put, List.setIfInBounds_toArray, List.set_cons_zero, List.set_cons_succ]
           refine skip_at 12 73 (fuel := 16) rfl rfl (by kernel_rfl) (by kernel_rfl) (by kernel_rfl) (fun _ _ _ h => h) (by rfl) hHeld ?_
           simp only [Act.put, List.setIfInBounds_toArray, List.set_cons_zero, List.set_cons_succ]
           refine skip_at 13 74 (fuel := 15) rfl rfl (by kernel_rfl) (by kernel_rfl) (by kernel_rfl) (fun _ _ _ h => h) (by rfl) hHeld ?_
           simp only [Act.put, List.setIfInBounds_toArray, List.set_cons_zero, List.set_cons_succ]
           refine skip_at 14 75 (fuel := 14) rfl rfl (by kernel_rfl) (by kernel_rfl) (by kernel_rfl) (fun _ _ _ h => h) (by rfl) hHeld ?_
           simp only [Act.put, List.setIfInBounds_toArray, List.set_cons_zero, List.set_cons_succ]
           refine skip_at 15 76 (fuel := 13) rfl rfl (by kernel_rfl) (by kernel_rfl) (by kernel_rfl) (fun _ _ _ h => h) (by rfl) hHeld ?_
           simp only [Act.put, List.setIfInBounds_toArray, List.set_cons_zero, List.set_cons_succ]
           refine skip_at 16 77 (fuel := 12) rfl rfl (by kernel_rfl) (by kernel_rfl) (by kernel_rfl) (fun _ _ _ h => h) (by rfl) hHeld ?_
           simp only [Act.put, List.setIfInBounds_toArray, List.set_cons_zero, List.set_cons_succ]
           refine skip_at 17 78 (fuel := 11) rfl rfl (by kernel_rfl) (by kernel_rfl) (by kernel_rfl) (fun _ _ _ h => h) (by rfl) hHeld ?_
           simp only [Act.put, List.setIfInBounds_toArray, List.set_cons_zero, List.set_cons_succ]
           refine skip_at 18 79 (fuel := 10) rfl rfl (by kernel_rfl) (by kernel_rfl) (by kernel_rfl) (fun _ _ _ h => h) (by rfl) hHeld ?_
           simp only [Act.put, List.setIfInBounds_toArray, List.set_cons_zero, List.set_cons_succ]
           refine skip_at 19 80 (fuel := 9) rfl rfl (by kernel_rfl) (by kernel_rfl) (by kernel_rfl) (fun _ _ _ h => h) (by rfl) hHeld ?_
           simp only [Act.put, List.setIfInBounds_toArray, List.set_cons_zero, List.set_cons_succ]
           refine skip_at 20 81 (fuel := 8) rfl rfl (by kernel_rfl) (by kernel_rfl) (by kernel_rfl) (fun _ _ _ h => h) (by rfl) hHeld ?_
           simp only [Act.put, List.setIfInBounds_toArray, List.set_cons_zero, List.set_cons_succ]
           refine skip_at 21 82 (fuel := 7) rfl rfl (by kernel_rfl) (by kernel_rfl) (by kernel_rfl) (fun _ _ _ h => h) (by rfl) hHeld ?_
           simp only [Act.put, List.setIfInBounds_toArray, List.set_cons_zero, List.set_cons_succ]
           refine skip_at 22 83 (fuel := 6) rfl rfl (by kernel_rfl) (by kernel_rfl) (by kernel_rfl) (fun _ _ _ h => h) (by rfl) hHeld ?_
           simp only [Act.put, List.setIfInBounds_toArray, List.set_cons_zero, List.set_cons_succ]
           refine skip_at 23 84 (fuel := 5) rfl rfl (by kernel_rfl) (by kernel_rfl) (by kernel_rfl) (fun _ _ _ h => h) (by rfl) hHeld ?_
           simp only [Act.put, List.setIfInBounds_toArray, List.set_cons_zero, List.set_cons_succ]
           refine skip_at 24 85 (fuel := 4) rfl rfl (by kernel_rfl) (by kernel_rfl) (by kernel_rfl) (fun _ _ _ h => h) (by rfl) hHeld ?_
           simp only [Act.put, List.setIfInBounds_toArray, List.set_cons_zero, List.set_cons_succ]
           refine skip_at 25 86 (fuel := 3) rfl rfl (by kernel_rfl) (by kernel_rfl) (by kernel_rfl) (fun _ _ _ h => h) (by rfl) hHeld ?_
           simp only [Act.put, List.setIfInBounds_toArray, List.set_cons_zero, List.set_cons_succ]
           refine skip_at 26 87 (fuel := 2) rfl rfl (by kernel_rfl) (by kernel_rfl) (by kernel_rfl) (fun _ _ _ h => h) (by rfl) hHeld ?_
           simp only [Act.put, List.setIfInBounds_toArray, List.set_cons_zero, List.set_cons_succ]
           refine skip_at 27 88 (fuel := 1) rfl rfl (by kernel_rfl) (by kernel_rfl) (by kernel_rfl) (fun _ _ _ h => h) (by rfl) hHeld ?_
           simp only [Act.put, List.setIfInBounds_toArray, List.set_cons_zero, List.set_cons_succ]
           refine take_at 28 89 (v := ?vcq28) (fuel := 0) rfl rfl (by kernel_rfl) (by kernel_rfl) (by kernel_rfl) (fun _ _ _ h => h) (by rfl) hHeld ?hycq28 ?restcq28
           case hycq28 => (intro w' hSw; (try dsimp only at hSw); go_simp <;> with_reducible rfl)
           simp only [Act.put, List.setIfInBounds_toArray, List.set_cons_zero, List.set_cons_succ]
           refine wpAnyH_done (by kernel_rfl) ?_ _
           clear hHeld
           go_wp2
           go_roundw
           case rel => exact ⟨j + 1, S5, T6s, ks2, l2, c2, by omega, by go_num, BQ.out, ⟨IL2.out.1, by have := IL2.out.2; omega⟩⟩
           case measure => simp [intOf]; omega
       · have BQ := Lib.hid (BB.out.on (Cv.keeps _ _ _ _ _ _ _) (Rv.keeps _ _ _ _ _) (Below.refl _ _).drew)
         obtain ⟨o3, ho3⟩ : ∃ o3, y.eO ks l1 = o3 := ⟨_, rfl⟩
         obtain ⟨c3, hc3⟩ : ∃ c3, cr + y.eC ks l1 = c3 := ⟨_, rfl⟩
         have hc3b : c3 ≤ 500 := by have := eC_le y ks l1 SD.out.one; omega
         have HO3 := Lib.hid ho3; have HC3 := Lib.hid hc3
         clear ho3 hc3 BB SD
         go_wp2_with fail
         have hS := BQ.out.f.below
         refine wp_region_held_drew (S := fun w' => Below W0.heap.size W0 w') (by kernel_rfl) hS (fun hHeld => ?_)
         clear hS
         show wpAnyH _ _ _ _ _ 21 _ _ _
         refine take_at 0 90 (v := ?veq0) (fuel := 20) rfl rfl (by kernel_rfl) (by kernel_rfl) (by kernel_rfl) (fun _ _ _ h => h) (by rfl) hHeld ?hyeq0 ?resteq0
         case hyeq0 => (intro w' hSw; (try dsimp only at hSw); go_simp <;> with_reducible rfl)
         simp only [Act.put, List.setIfInBounds_toArray, List.set_cons_zero, List.set_cons_succ]
         refine take_at 3 93 (v := ?veq3) (fuel := 19) rfl rfl (by kernel_rfl) (by kernel_rfl) (by kernel_rfl) (fun _ _ _ h => h) (by rfl) hHeld ?hyeq3 ?resteq3
         case hyeq3 => (intro w' hSw; (try dsimp only at hSw); go_simp <;> with_reducible rfl)
         simp only [Act.put, List.setIfInBounds_toArray, List.set_cons_zero, List.set_cons_succ]
         refine wpAnyH_ready (rs := [1]) (fuel := 18) (by kernel_rfl) (by simp) ?_
         refine AllReadyH.cons rfl (fun Kq hK => ?_) AllReadyH.nil
         go_simp
         refine (endv_any b sb pb y ks l1 cr S o3 c3 _ BQ.out.f.obj hcb (by omega) (by omega) HO3.out HC3.out).mono ?_
         rintro e w8 ⟨A3, m3, cc3, S8, rfl, q1, q2, q3, q4, q5⟩
         have B8 := Lib.hid (BQ.out.fst (Rv.keeps _ _ _ _ _) q3 q4 q5)
         have T3 := Lib.hid q1; have N3 := Lib.hid (show ∀ g o s, A3 = some ⟨g, o, s⟩ → ¬ T g from fun g o s he ht => by have := (q2 g o s he).1; have := (Rv.keeps _ _ _ _ _).lt BQ.out.g.obj g ht; omega)
         go_simp
         refine hK.out _ _ (id B8.out.f.below) (fun hH1 => ?_)
         refine wpAnyH_more (S' := fun w' => (Below W0.heap.size W0 w') ∧ Bytes w' A3 m3 cc3 o3) (fun _ h => h.1) _ _ _ _ ?_
         have hH2 := (show (fun w' : World => (Below W0.heap.size W0 w') ∧ Bytes w' A3 m3 cc3 o3) w8 from ⟨hH1, T3.out.bytes.1⟩)
         clear hK Kq hHeld hH1 q1 q2 q3 q4 q5
         (try simp only [Act.put, List.setIfInBounds_toArray, List.set_cons_zero, List.set_cons_succ])
         refine take_text 2 92 (fuel := 17) _ A3 m3 cc3 o3 rfl rfl (by kernel_rfl) (by kernel_rfl) (by kernel_rfl) (fun _ _ _ h => h) (by rfl) hH2 rfl rfl (fun _ h => h.2) T3.out.bytes.2 ?_
         simp only [Act.put, List.setIfInBounds_toArray, List.set_cons_zero, List.set_cons_succ]
         refine wpAnyH_ready (rs := [4]) (fuel := 16) (by kernel_rfl) (by simp) ?_
         refine AllReadyH.cons rfl (fun Kq hK => ?_) AllReadyH.nil
         go_simp
         refine (rendc_any r y ks l1 cr T o3 c3 _ B8.out.g.obj hcb (by omega) (by omega) HO3.out HC3.out).mono ?_
         rintro e w9 ⟨A4, m4, cc4, T9, rfl, q1, q3, q4, q5⟩
         have B9 := Lib.hid (B8.out.snd (Cv.keeps _ _ _ _ _ _ _) q3 q4 q5)
         have T4 := Lib.hid q1
         go_simp
         refine hK.out _ _ ⟨id B9.out.f.below, (T3.out.only q4 N3.out).bytes.1⟩ (fun hH3 => ?_)
         refine wpAnyH_more (S' := fun w' => ((Below W0.heap.size W0 w') ∧ Bytes w' A3 m3 cc3 o3) ∧ Bytes w' A4 m4 cc4 o3 ∧ w'.cell? ⟨r, 12, none⟩ = some (.int .i64 (c3 : Nat))) (fun _ h => h.1) _ _ _ _ ?_
         have hH4 := (show (fun w' : World => ((Below W0.heap.size W0 w') ∧ Bytes w' A3 m3 cc3 o3) ∧ Bytes w' A4 m4 cc4 o3 ∧ w'.cell? ⟨r, 12, none⟩ = some (.int .i64 (c3 : Nat))) w9 from ⟨hH3, T4.out.bytes.1, B9.out.g.obj.cut⟩)
         clear hK Kq hH2 hH3 q1 q3 q4 q5
         (try simp only [Act.put, List.setIfInBounds_toArray, List.set_cons_zero, List.set_cons_succ])
         refine take_text 5 95 (fuel := 15) _ A4 m4 cc4 o3 rfl rfl (by kernel_rfl) (by kernel_rfl) (by kernel_rfl) (fun _ _ _ h => h) (by rfl) hH4 rfl rfl (fun _ h => h.2.1) T4.out.bytes.2 ?_
         simp only [Act.put, List.setIfInBounds_toArray, List.set_cons_zero, List.set_cons_succ]
         refine take_at 6 96 (v := ?veq6) (fuel := 14) rfl rfl (by kernel_rfl) (by kernel_rfl) (by kernel_rfl) (fun _ _ _ h => h) (by rfl) hH4 ?hyeq6 ?resteq6
         case hyeq6 => (intro w' hSw; (try dsimp only at hSw); go_simp <;> with_reducible rfl)
         simp only [Act.put, List.setIfInBounds_toArray, List.set_cons_zero, List.set_cons_succ]
         refine take_at 7 97 (v := ?veq7) (fuel := 13) rfl rfl (by kernel_rfl) (by kernel_rfl) (by kernel_rfl) (fun _ _ _ h => h) (by rfl) hH4 ?hyeq7 ?resteq7
         case hyeq7 => (intro w' hSw; (try dsimp only at hSw); go_simp <;> with_reducible rfl)
         simp only [Act.put, List.setIfInBounds_toArray, List.set_cons_zero, List.set_cons_succ]
         refine take_at 8 98 (v := ?veq8) (fuel := 12) rfl rfl (by kernel_rfl) (by kernel_rfl) (by kernel_rfl) (fun _ _ _ h => h) (by rfl) hH4 ?hyeq8 ?resteq8
         case hyeq8 => (intro w' hSw; (try dsimp only at hSw); go_simp <;> with_reducible rfl)
         simp only [Act.put, List.setIfInBounds_toArray, List.set_cons_zero, List.set_cons_succ]
         refine take_at 10 100 (v := ?veq10) (fuel := 11) rfl rfl (by kernel_rfl) (by kernel_rfl) (by kernel_rfl) (fun _ _ _ h => h) (by rfl) hH4 ?hyeq10 ?resteq10
         case hyeq10 => (intro w' hSw; (try dsimp only at hSw); go_simp <;> with_reducible rfl)
         simp only [Act.put, List.setIfInBounds_toArray, List.set_cons_zero, List.set_cons_succ]
         refine take_at 11 101 (v := ?veq11) (fuel := 10) rfl rfl (by kernel_rfl) (by kernel_rfl) (by kernel_rfl) (fun _ _ _ h => h) (by rfl) hH4 ?hyeq11 ?resteq11
         case hyeq11 => (intro w' hSw; (try dsimp only at hSw); go_simp <;> with_reducible rfl)
         simp only [Act.put, List.setIfInBounds_toArray, List.set_cons_zero, List.set_cons_succ]
         refine take_at 12 102 (v := ?veq12) (fuel := 9) rfl rfl (by kernel_rfl) (by kernel_rfl) (by kernel_rfl) (fun _ _ _ h => h) (by rfl) hH4 ?hyeq12 ?resteq12
         case hyeq12 => (intro w' hSw; (try dsimp only at hSw); go_simp <;> with_reducible rfl)
         simp only [Act.put, List.setIfInBounds_toArray, List.set_cons_zero, List.set_cons_succ]
         refine take_at 13 103 (v := ?veq13) (fuel := 8) rfl rfl (by kernel_rfl) (by kernel_rfl) (by kernel_rfl) (fun _ _ _ h => h) (by rfl) hH4 ?hyeq13 ?resteq13
         case hyeq13 => (intro w' hSw; (try dsimp only at hSw); go_simp <;> with_reducible rfl)
         simp only [Act.put, List.setIfInBounds_toArray, List.set_cons_zero, List.set_cons_succ]
         refine take_at 14 104 (v := ?veq14) (fuel := 7) rfl rfl (by kernel_rfl) (by kernel_rfl) (by kernel_rfl) (fun _ _ _ h => h) (by rfl) hH4 ?hyeq14 ?resteq14
         case hyeq14 => (intro w' hSw; (try dsimp only at hSw); go_simp <;> with_reducible rfl)
         simp only [Act.put, List.setIfInBounds_toArray, List.set_cons_zero, List.set_cons_succ]
         refine wpAnyH_ready (rs := [9]) (fuel := 6) (by kernel_rfl) (by simp) ?_
         refine AllReadyH.cons rfl (fun Kq hK => ?_) AllReadyH.nil
         go_simp
         refine (cutv_any _ B9.out.f.obj).mono ?_
         rintro e wq3 ⟨rfl, rfl⟩
         go_simp
         refine hK.out _ _ hH4 (fun hQ3 => ?_)
         clear hK Kq hH4
         (try simp only [Act.put, List.setIfInBounds_toArray, List.set_cons_zero, List.set_cons_succ])
         refine take_at 15 105 (v := ?veq15) (fuel := 5) rfl rfl (by kernel_rfl) (by kernel_rfl) (by kernel_rfl) (fun _ _ _ h => h) (by rfl) hQ3 ?hyeq15 ?resteq15
         case hyeq15 => (intro w' hSw; (try dsimp only at hSw); go_simp <;> with_reducible rfl)
         simp only [Act.put, List.setIfInBounds_toArray, List.set_cons_zero, List.set_cons_succ]
         refine take_at 16 106 (v := ?veq16) (fuel := 4) rfl rfl (by kernel_rfl) (by kernel_rfl) (by kernel_rfl) (fun _ _ _ h => h) (by rfl) hQ3 ?hyeq16 ?resteq16
         case hyeq16 => (intro w' hSw; (try dsimp only at hSw); go_simp <;> with_reducible rfl)
         simp only [Act.put, List.setIfInBounds_toArray, List.set_cons_zero, List.set_cons_succ]
         refine take_at 17 107 (v := ?veq17) (fuel := 3) rfl rfl (by kernel_rfl) (by kernel_rfl) (by kernel_rfl) (fun _ _ _ h => h) (by rfl) hQ3 ?hyeq17 ?resteq17
         case hyeq17 => (intro w' hSw; (try dsimp only at hSw); go_simp <;> with_reducible rfl)
         simp only [Act.put, List.setIfInBounds_toArray, List.set_cons_zero, List.set_cons_succ]
         refine wpAnyH_ready (rs := [18]) (fuel := 2) (by kernel_rfl) (by simp) ?_
         refine AllReadyH.cons rfl (fun Kq hK => ?_) AllReadyH.nil
         go_simp
         refine (law_runs _).mono ?_
         rintro e w11 ⟨rfl, k1⟩
         go_simp
         refine hK.out _ _ ⟨⟨hQ3.1.1.trans (k1.mono hQ3.1.1.size), hQ3.1.2.on k1⟩, hQ3.2.1.on k1, (B9.out.on (Cv.keeps _ _ _ _ _ _ _) (Rv.keeps _ _ _ _ _) k1).g.obj.cut⟩ (fun hH6 => ?_)
         clear hK Kq hQ3 k1
         (try simp only [Act.put, List.setIfInBounds_toArray, List.set_cons_zero, List.set_cons_succ])
         refine take_at 19 109 (v := ?veq19) (fuel := 1) rfl rfl (by kernel_rfl) (by kernel_rfl) (by kernel_rfl) (fun _ _ _ h => h) (by rfl) hH6 ?hyeq19 ?resteq19
         case hyeq19 => (intro w' hSw; (try dsimp only at hSw); go_simp <;> with_reducible rfl)
         simp only [Act.put, List.setIfInBounds_toArray, List.set_cons_zero, List.set_cons_succ]
         refine take_at 20 6 (v := ?veq20) (fuel := 0) rfl rfl (by kernel_rfl) (by kernel_rfl) (by kernel_rfl) (fun _ _ _ h => h) (by rfl) hH6 ?hyeq20 ?resteq20
         case hyeq20 => (intro w' hSw; (try dsimp only at hSw); go_simp <;> with_reducible rfl)
         simp only [Act.put, List.setIfInBounds_toArray, List.set_cons_zero, List.set_cons_succ]
         refine wpAnyH_done (by kernel_rfl) ?_ _
         have KF := Lib.hid (K0.out.trans (hH6.1.1.mono K0.out.size))
         clear hH6 T3 N3 T4 B8 BQ B9
         go_wp2
         go_ret
         exact ⟨rfl, KF.out⟩

end Go.Proofs.Ytghihmmapignmaa
