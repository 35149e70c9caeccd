/- The law FixedPacks, walked. -/
import Derived.Test.YtemehobohgcpdaaWalksX
import Derived.WalkKit
import Derived.WalkSpells
import Derived.WalkLawsBesides
import Derived.Lib.Hide
import Derived.Deep.RegionHeld3
namespace Go.Proofs.Ytemehobohgcpdaa
open Go.RowKit

set_option maxRecDepth 100000 in
set_option maxHeartbeats 16000000 in
theorem packs_walk (s : Int) (A : Option Addr) (n c : Nat) (L : List El) (E : Option Addr) (en ec : Nat) (U : List Bool) (w : World) (hs : (Lit.int .i64 s).wf = true) (hL : IsRows w A n L) (hU : IsBools w E en U) :
    Calls Try.prog 4 #[.int .i64 s, .slice A n c, .slice E en ec] w fun e w' => e = .returned (.bool true) ∧ Below w.heap.size w w' := by
  obtain ⟨hm, hL⟩ := hL
  obtain ⟨he, hU⟩ := hU
  obtain ⟨s1, s2⟩ := i64_bounds hs
  have HL := Lib.hid hL; have HU := Lib.hid hU
  clear hL hU hs
  have hm : n ≤ 9223372036854775807 := by unfold maxLen at hm; omega
  have he : en ≤ 9223372036854775807 := by unfold maxLen at he; omega
  go_enter Try.func4, Try.ntmps4
  go_wp2_with fail
  refine (few_any s A n c L w HL.out hm).mono ?_
  rintro e w1 ⟨x, rfl, hx, rfl⟩
  cases x with
  | false =>
    go_wp2_with fail
    refine (law_runs _).mono ?_
    rintro e w2 ⟨rfl, k2⟩
    go_wp2
    go_ret
    exact ⟨rfl, k2⟩
  | true =>
    obtain ⟨hn30, htot, hor⟩ := hx rfl
    rw [HL.out.len] at hn30
    have HT := Lib.hid htot
    obtain ⟨K, hKK⟩ : ∃ K, kOf s = K := ⟨_, rfl⟩
    have HMK := Lib.hid (show K * (cat L).length ≤ 900000 by rw [← hKK]; exact kOf_mul hor htot)
    have hK1 : 1 ≤ K ∧ K ≤ 4096 := by rw [← hKK]; exact kOf_pos s
    have HKK := Lib.hid hKK
    clear hx htot hor hKK
    go_wp2_with fail
    refine (newp_any s w s1 s2).mono ?_
    rintro e w1 ⟨b, rfl, F1, t1, k1⟩
    rw [HKK.out] at F1
    have M1 := Lib.hid (show Mine w w1 (Rc b K [] (some (.int .i64 ((0 : Nat) : Int)))) (fun d => d = b) from ⟨F1, fun d hd => by omega, k1⟩)
    clear F1 t1 k1
    go_wp2_with fail
    refine (rheld_any s w1 s1 s2).mono ?_
    rintro e w2 ⟨rfl, rfl⟩
    rw [HKK.out]
    have B0 := Lib.hid (M1.out.both (Rc.keeps _ _ _ _) (Rp.new w1 K 43 w1.heap.size rfl) (fun d hd => by omega) ((Below.refl _ _).alloc (Nat.le_refl _) _))
    clear M1
    go_wp2_with fail
    refine (cbs_any _ B0.out.f.obj).mono ?_
    rintro e w3 ⟨rfl, rfl⟩
    go_wp2_with fail
    refine (rheld_any s _ s1 s2).mono ?_
    rintro e w4 ⟨rfl, rfl⟩
    rw [HKK.out]
    go_wp2
    generalize hr : w1.heap.size = r at *
    go_loopw [9] (fun i wr => ∃ (j : Nat) (S T : Nat → Prop) (l1 : List Int) (cr : Nat), j ≤ n ∧ i = .int .i64 j ∧ Hid (Both w wr (Rc b K l1 (some (.int .i64 cr))) S (Rp r K cr l1) T) ∧ Hid (l1.length ≤ (cat (L.take j)).length ∧ cr ≤ (cat (L.take j)).length + j)) (fun i _ => n - (intOf i).toNat)
    case atStart => exact ⟨0, _, _, [], 0, Nat.zero_le _, rfl, B0.out, by unfold Hid; exact ⟨Nat.zero_le _, Nat.zero_le _⟩⟩
    case round =>
     clear B0 hr
     obtain ⟨j, S, T, l1, cr, hj, rfl, BB, IL⟩ := hrel
     have HTJ := Lib.hid (cat_take L j)
     have hl1 : l1.length ≤ 400 := by have := IL.out.1; have := HTJ.out; have := HT.out; omega
     have hcr : cr ≤ 430 := by have := IL.out.2; have := HTJ.out; have := HT.out; omega
     by_cases hlt : j < n
     · obtain ⟨lb, o, rfl, hlb, hc⟩ := HL.out.cells (by omega)
       have e1 := Lib.hid (hc j hlt)
       have hjl : j < L.length := by have := HL.out.len; omega
       have HX := Lib.hid (HL.out.ok j hlt)
       have HC := Lib.hid (cat_le L j hjl)
       have HSN := Lib.hid (cat_snoc L j hjl)
       clear hc hjl
       generalize L.getD j default = x at *
       obtain ⟨xa, xn, xc, xz⟩ := x
       simp only at e1 HC HSN
       have hxt : xn ≤ (cat L).length := by have := HX.out.bytes.1; have := HC.out; simp only at *; omega
       have hxn : xn ≤ 400 := by have := HT.out; omega
       obtain ⟨o2, ho2⟩ : ∃ o2, pOut K l1 xz = o2 := ⟨_, rfl⟩
       obtain ⟨l2, hk2⟩ : ∃ l2, pLine l1 xz = l2 := ⟨_, rfl⟩
       obtain ⟨c2, hc2⟩ : ∃ c2, cr + pCut K l1 xz = c2 := ⟨_, rfl⟩
       obtain ⟨o3, ho3⟩ : ∃ o3, pEnd K l2 = o3 := ⟨_, rfl⟩
       obtain ⟨c3, hc3⟩ : ∃ c3, c2 + over K l2 = c3 := ⟨_, rfl⟩
       have IL2 := Lib.hid (show l2.length ≤ (cat (L.take (j + 1))).length ∧ c2 ≤ (cat (L.take (j + 1))).length + j by
         have h1 := pLine_le xz l1; have h2 := pCut_le K xz l1; have h3 := IL.out
         rw [hk2] at h1
         rw [HSN.out, List.length_append]
         omega)
       have IL3 := Lib.hid (show c3 ≤ (cat (L.take (j + 1))).length + (j + 1) by have := IL2.out.2; have := over_le K l2; omega)
       have hl2 : l2.length ≤ 400 := by have := IL2.out.1; have := (cat_take L (j + 1)); have := HT.out; omega
       have hc2b : c2 ≤ 430 := by have := IL2.out.2; have := (cat_take L (j + 1)); have := HT.out; omega
       have HO := Lib.hid ho2; have HK2 := Lib.hid hk2; have HC2 := Lib.hid hc2; have HO3 := Lib.hid ho3; have HC3 := Lib.hid hc3
       clear ho2 hk2 hc2 ho3 hc3
       have hxK : K * xn ≤ 900000 := Nat.le_trans (Nat.mul_le_mul_left K hxt) HMK.out
       have j0 : (0 : Int) ≤ (j : Int) := by omega
       have j1 : (j : Int) < (n : Int) := by omega
       have BD := Lib.hid (BB.out.on (Rc.keeps _ _ _ _) (Rp.keeps _ _ _ _) (Below.refl _ _).drew)
       have HE := Lib.hid (El_away BD.out.f HX.out)
       clear BB
       go_wp2_with fail
       have hS := hold1 hlb e1.out BD.out.f.below
       refine wp_region_held_drew (S := fun w' => w'.cell? ⟨lb, o + j, none⟩ = some (.slice xa xn xc) ∧ Below w.heap.size w w') (by kernel_rfl) hS (fun hHeld => ?_)
       clear hS
       show wpAnyH _ _ _ _ _ 36 _ _ _
       refine take_at 0 38 (v := ?vp0) (fuel := 35) rfl rfl (by kernel_rfl) (by kernel_rfl) (by kernel_rfl) (fun _ _ _ h => h) (by rfl) hHeld ?hyp0 ?restp0
       case hyp0 => (intro w' hSw; (try dsimp only at hSw); go_simp <;> with_reducible rfl)
       simp only [Act.put, List.setIfInBounds_toArray, List.set_cons_zero, List.set_cons_succ]
       refine take_at 1 39 (v := ?vp1) (fuel := 34) rfl rfl (by kernel_rfl) (by kernel_rfl) (by kernel_rfl) (fun _ _ _ h => h) (by rfl) hHeld ?hyp1 ?restp1
       case hyp1 => (intro w' hSw; (try dsimp only at hSw); go_simp <;> with_reducible rfl)
       simp only [Act.put, List.setIfInBounds_toArray, List.set_cons_zero, List.set_cons_succ]
       refine take_at 2 40 (v := ?vp2) (fuel := 33) rfl rfl (by kernel_rfl) (by kernel_rfl) (by kernel_rfl) (fun _ _ _ h => h) (by rfl) hHeld ?hyp2 ?restp2
       case hyp2 => (intro w' hSw; (try dsimp only at hSw); go_simp <;> with_reducible rfl)
       simp only [Act.put, List.setIfInBounds_toArray, List.set_cons_zero, List.set_cons_succ]
       refine take_at 3 41 (v := ?vp3) (fuel := 32) rfl rfl (by kernel_rfl) (by kernel_rfl) (by kernel_rfl) (fun _ _ _ h => h) (by rfl) hHeld ?hyp3 ?restp3
       case hyp3 => (intro w' hSw; (try dsimp only at hSw); go_simp <;> with_reducible rfl)
       simp only [Act.put, List.setIfInBounds_toArray, List.set_cons_zero, List.set_cons_succ]
       refine take_at 4 42 (v := ?vp4) (fuel := 31) rfl rfl (by kernel_rfl) (by kernel_rfl) (by kernel_rfl) (fun _ _ _ h => h) (by rfl) hHeld ?hyp4 ?restp4
       case hyp4 => (intro w' hSw; (try dsimp only at hSw); go_simp <;> with_reducible rfl)
       simp only [Act.put, List.setIfInBounds_toArray, List.set_cons_zero, List.set_cons_succ]
       refine take_at 7 45 (v := ?vp7) (fuel := 30) rfl rfl (by kernel_rfl) (by kernel_rfl) (by kernel_rfl) (fun _ _ _ h => h) (by rfl) hHeld ?hyp7 ?restp7
       case hyp7 => (intro w' hSw; (try dsimp only at hSw); go_simp <;> with_reducible rfl)
       simp only [Act.put, List.setIfInBounds_toArray, List.set_cons_zero, List.set_cons_succ]
       refine take_at 8 46 (v := ?vp8) (fuel := 29) rfl rfl (by kernel_rfl) (by kernel_rfl) (by kernel_rfl) (fun _ _ _ h => h) (by rfl) hHeld ?hyp8 ?restp8
       case hyp8 => (intro w' hSw; (try dsimp only at hSw); go_simp <;> with_reducible rfl)
       simp only [Act.put, List.setIfInBounds_toArray, List.set_cons_zero, List.set_cons_succ]
       refine take_at 9 47 (v := ?vp9) (fuel := 28) rfl rfl (by kernel_rfl) (by kernel_rfl) (by kernel_rfl) (fun _ _ _ h => h) (by rfl) hHeld ?hyp9 ?restp9
       case hyp9 => (intro w' hSw; (try dsimp only at hSw); go_simp <;> with_reducible rfl)
       simp only [Act.put, List.setIfInBounds_toArray, List.set_cons_zero, List.set_cons_succ]
       refine take_at 10 48 (v := ?vp10) (fuel := 27) rfl rfl (by kernel_rfl) (by kernel_rfl) (by kernel_rfl) (fun _ _ _ h => h) (by rfl) hHeld ?hyp10 ?restp10
       case hyp10 => (intro w' hSw; (try dsimp only at hSw); go_simp <;> with_reducible rfl)
       simp only [Act.put, List.setIfInBounds_toArray, List.set_cons_zero, List.set_cons_succ]
       refine take_at 11 49 (v := ?vp11) (fuel := 26) rfl rfl (by kernel_rfl) (by kernel_rfl) (by kernel_rfl) (fun _ _ _ h => h) (by rfl) hHeld ?hyp11 ?restp11
       case hyp11 => (intro w' hSw; (try dsimp only at hSw); go_simp <;> with_reducible rfl)
       simp only [Act.put, List.setIfInBounds_toArray, List.set_cons_zero, List.set_cons_succ]
       refine wpAnyH_ready (rs := [5]) (fuel := 25) (by kernel_rfl) (by simp) ?_
       refine AllReadyH.cons rfl (fun Kq hK => ?_) AllReadyH.nil
       go_simp
       refine (putp_any b K l1 cr S xa xn xc xz o2 l2 c2 _ BD.out.f.obj HE.out.1.bytes HX.out.nil HE.out.2 HX.out.are (by omega) hxK (by omega) HO.out HK2.out HC2.out).mono ?_
       rintro e w5 ⟨A1, m1, cc1, S5, rfl, q1, q2, q3, q4, q5⟩
       have B5 := Lib.hid (BD.out.fst (Rp.keeps _ _ _ _) q3 q4 q5)
       have T1 := Lib.hid q1; have N1 := Lib.hid (show ∀ g o s, A1 = some ⟨g, o, s⟩ → ¬ T g from fun g o s he ht => by have := (q2 g o s he).1; have := (Rp.keeps _ _ _ _).lt BD.out.g.obj g ht; omega)
       have HE5 := Lib.hid (El_away B5.out.g HX.out)
       go_simp
       refine hK.out _ _ (hold1 hlb e1.out B5.out.f.below) (fun hH1 => ?_)
       refine wpAnyH_more (S' := fun w' => (w'.cell? ⟨lb, o + j, none⟩ = some (.slice xa xn xc) ∧ Below w.heap.size w w') ∧ Bytes w' A1 m1 cc1 o2) (fun _ h => h.1) _ _ _ _ ?_
       have hH2 := (show (fun w' : World => (w'.cell? ⟨lb, o + j, none⟩ = some (.slice xa xn xc) ∧ Below w.heap.size w w') ∧ Bytes w' A1 m1 cc1 o2) w5 from ⟨hH1, T1.out.bytes.1⟩)
       clear hK Kq hHeld hH1 q1 q2 q3 q4 q5
       (try simp only [Act.put, List.setIfInBounds_toArray, List.set_cons_zero, List.set_cons_succ])
       refine take_text 6 44 (fuel := 24) _ A1 m1 cc1 o2 rfl rfl (by kernel_rfl) (by kernel_rfl) (by kernel_rfl) (fun _ _ _ h => h) (by rfl) hH2 rfl rfl (fun _ h => h.2) T1.out.bytes.2 ?_
       simp only [Act.put, List.setIfInBounds_toArray, List.set_cons_zero, List.set_cons_succ]
       refine wpAnyH_ready (rs := [12]) (fuel := 23) (by kernel_rfl) (by simp) ?_
       refine AllReadyH.cons rfl (fun Kq hK => ?_) AllReadyH.nil
       go_simp
       refine (rputp_any r K l1 cr T xa xn xc xz o2 l2 c2 _ B5.out.g.obj hK1 HE5.out.1.bytes HE5.out.2 (by omega) hxK (by omega) HO.out HK2.out HC2.out).mono ?_
       rintro e w6 ⟨A2, m2, cc2, T6s, rfl, q1, q2, q3, q4, q5⟩
       have B6 := Lib.hid (B5.out.snd (Rc.keeps _ _ _ _) q3 q4 q5)
       have T6 := Lib.hid q1
       obtain ⟨AL, nl, cl, hcl, hbl, _⟩ := B6.out.g.obj.line
       obtain rfl : nl = l2.length := hbl.1.symm
       go_simp
       refine hK.out _ _ ⟨hold1 hlb e1.out B6.out.f.below, (T1.out.only q4 N1.out).bytes.1⟩ (fun hH3 => ?_)
       refine wpAnyH_more (S' := fun w' => ((w'.cell? ⟨lb, o + j, none⟩ = some (.slice xa xn xc) ∧ Below w.heap.size w w') ∧ Bytes w' A1 m1 cc1 o2) ∧ Bytes w' A2 m2 cc2 o2 ∧ (w'.cell? ⟨r, 2, none⟩ = some (.slice AL l2.length cl) ∧ w'.cell? ⟨r, 1, none⟩ = some (.int .i64 (c2 : Int)))) (fun _ h => h.1) _ _ _ _ ?_
       have hH4 := (show (fun w' : World => ((w'.cell? ⟨lb, o + j, none⟩ = some (.slice xa xn xc) ∧ Below w.heap.size w w') ∧ Bytes w' A1 m1 cc1 o2) ∧ Bytes w' A2 m2 cc2 o2 ∧ (w'.cell? ⟨r, 2, none⟩ = some (.slice AL l2.length cl) ∧ w'.cell? ⟨r, 1, none⟩ = some (.int .i64 (c2 : Int)))) w6 from ⟨hH3, T6.out.bytes.1, ⟨hcl, B6.out.g.obj.cut⟩⟩)
       clear hK Kq hH2 hH3 q1 q2 q3 q4 q5 hcl hbl
       (try simp only [Act.put, List.setIfInBounds_toArray, List.set_cons_zero, List.set_cons_succ])
       refine take_text 13 51 (fuel := 22) _ A2 m2 cc2 o2 rfl rfl (by kernel_rfl) (by kernel_rfl) (by kernel_rfl) (fun _ _ _ h => h) (by rfl) hH4 rfl rfl (fun _ h => h.2.1) T6.out.bytes.2 ?_
       simp only [Act.put, List.setIfInBounds_toArray, List.set_cons_zero, List.set_cons_succ]
       refine take_at 14 52 (v := ?vp14) (fuel := 21) rfl rfl (by kernel_rfl) (by kernel_rfl) (by kernel_rfl) (fun _ _ _ h => h) (by rfl) hH4 ?hyp14 ?restp14
       case hyp14 => (intro w' hSw; (try dsimp only at hSw); go_simp <;> with_reducible rfl)
       simp only [Act.put, List.setIfInBounds_toArray, List.set_cons_zero, List.set_cons_succ]
       refine take_at 15 53 (v := ?vp15) (fuel := 20) rfl rfl (by kernel_rfl) (by kernel_rfl) (by kernel_rfl) (fun _ _ _ h => h) (by rfl) hH4 ?hyp15 ?restp15
       case hyp15 => (intro w' hSw; (try dsimp only at hSw); go_simp <;> with_reducible rfl)
       simp only [Act.put, List.setIfInBounds_toArray, List.set_cons_zero, List.set_cons_succ]
       refine take_at 16 54 (v := ?vp16) (fuel := 19) rfl rfl (by kernel_rfl) (by kernel_rfl) (by kernel_rfl) (fun _ _ _ h => h) (by rfl) hH4 ?hyp16 ?restp16
       case hyp16 => (intro w' hSw; (try dsimp only at hSw); go_simp <;> with_reducible rfl)
       simp only [Act.put, List.setIfInBounds_toArray, List.set_cons_zero, List.set_cons_succ]
       refine take_at 17 55 (v := ?vp17) (fuel := 18) rfl rfl (by kernel_rfl) (by kernel_rfl) (by kernel_rfl) (fun _ _ _ h => h) (by rfl) hH4 ?hyp17 ?restp17
       case hyp17 => (intro w' hSw; (try dsimp only at hSw); go_simp <;> with_reducible rfl)
       simp only [Act.put, List.setIfInBounds_toArray, List.set_cons_zero, List.set_cons_succ]
       refine take_at 18 56 (v := ?vp18) (fuel := 17) rfl rfl (by kernel_rfl) (by kernel_rfl) (by kernel_rfl) (fun _ _ _ h => h) (by rfl) hH4 ?hyp18 ?restp18
       case hyp18 => (intro w' hSw; (try dsimp only at hSw); go_simp <;> with_reducible rfl)
       simp only [Act.put, List.setIfInBounds_toArray, List.set_cons_zero, List.set_cons_succ]
       refine take_at 20 58 (v := ?vp20) (fuel := 16) rfl rfl (by kernel_rfl) (by kernel_rfl) (by kernel_rfl) (fun _ _ _ h => h) (by rfl) hH4 ?hyp20 ?restp20
       case hyp20 => (intro w' hSw; (try dsimp only at hSw); go_simp <;> with_reducible rfl)
       simp only [Act.put, List.setIfInBounds_toArray, List.set_cons_zero, List.set_cons_succ]
       refine take_at 21 59 (v := ?vp21) (fuel := 15) rfl rfl (by kernel_rfl) (by kernel_rfl) (by kernel_rfl) (fun _ _ _ h => h) (by rfl) hH4 ?hyp21 ?restp21
       case hyp21 => (intro w' hSw; (try dsimp only at hSw); go_simp <;> with_reducible rfl)
       simp only [Act.put, List.setIfInBounds_toArray, List.set_cons_zero, List.set_cons_succ]
       refine take_at 22 60 (v := ?vp22) (fuel := 14) rfl rfl (by kernel_rfl) (by kernel_rfl) (by kernel_rfl) (fun _ _ _ h => h) (by rfl) hH4 ?hyp22 ?restp22
       case hyp22 => (intro w' hSw; (try dsimp only at hSw); go_simp <;> with_reducible rfl)
       simp only [Act.put, List.setIfInBounds_toArray, List.set_cons_zero, List.set_cons_succ]
       refine take_at 23 61 (v := ?vp23) (fuel := 13) rfl rfl (by kernel_rfl) (by kernel_rfl) (by kernel_rfl) (fun _ _ _ h => h) (by rfl) hH4 ?hyp23 ?restp23
       case hyp23 => (intro w' hSw; (try dsimp only at hSw); go_simp <;> with_reducible rfl)
       simp only [Act.put, List.setIfInBounds_toArray, List.set_cons_zero, List.set_cons_succ]
       refine take_at 24 62 (v := ?vp24) (fuel := 12) rfl rfl (by kernel_rfl) (by kernel_rfl) (by kernel_rfl) (fun _ _ _ h => h) (by rfl) hH4 ?hyp24 ?restp24
       case hyp24 => (intro w' hSw; (try dsimp only at hSw); go_simp <;> with_reducible rfl)
       simp only [Act.put, List.setIfInBounds_toArray, List.set_cons_zero, List.set_cons_succ]
       refine wpAnyH_ready (rs := [19]) (fuel := 11) (by kernel_rfl) (by simp) ?_
       refine AllReadyH.cons rfl (fun Kq hK => ?_) AllReadyH.nil
       go_simp
       refine (held_any _ B6.out.f.obj).mono ?_
       rintro e wq1 ⟨rfl, rfl⟩
       go_simp
       refine hK.out _ _ hH4 (fun hQ1 => ?_)
       clear hK Kq hH4
       (try simp only [Act.put, List.setIfInBounds_toArray, List.set_cons_zero, List.set_cons_succ])
       refine take_at 25 63 (v := ?vp25) (fuel := 10) rfl rfl (by kernel_rfl) (by kernel_rfl) (by kernel_rfl) (fun _ _ _ h => h) (by rfl) hQ1 ?hyp25 ?restp25
       case hyp25 => (intro w' hSw; (try dsimp only at hSw); go_simp <;> with_reducible rfl)
       simp only [Act.put, List.setIfInBounds_toArray, List.set_cons_zero, List.set_cons_succ]
       refine take_at 26 64 (v := ?vp26) (fuel := 9) rfl rfl (by kernel_rfl) (by kernel_rfl) (by kernel_rfl) (fun _ _ _ h => h) (by rfl) hQ1 ?hyp26 ?restp26
       case hyp26 => (intro w' hSw; (try dsimp only at hSw); go_simp <;> with_reducible rfl)
       simp only [Act.put, List.setIfInBounds_toArray, List.set_cons_zero, List.set_cons_succ]
       refine take_at 27 65 (v := ?vp27) (fuel := 8) rfl rfl (by kernel_rfl) (by kernel_rfl) (by kernel_rfl) (fun _ _ _ h => h) (by rfl) hQ1 ?hyp27 ?restp27
       case hyp27 => (intro w' hSw; (try dsimp only at hSw); go_simp <;> with_reducible rfl)
       simp only [Act.put, List.setIfInBounds_toArray, List.set_cons_zero, List.set_cons_succ]
       refine take_at 28 66 (v := ?vp28) (fuel := 7) rfl rfl (by kernel_rfl) (by kernel_rfl) (by kernel_rfl) (fun _ _ _ h => h) (by rfl) hQ1 ?hyp28 ?restp28
       case hyp28 => (intro w' hSw; (try dsimp only at hSw); go_simp <;> with_reducible rfl)
       simp only [Act.put, List.setIfInBounds_toArray, List.set_cons_zero, List.set_cons_succ]
       refine take_at 30 68 (v := ?vp30) (fuel := 6) rfl rfl (by kernel_rfl) (by kernel_rfl) (by kernel_rfl) (fun _ _ _ h => h) (by rfl) hQ1 ?hyp30 ?restp30
       case hyp30 => (intro w' hSw; (try dsimp only at hSw); go_simp <;> with_reducible rfl)
       simp only [Act.put, List.setIfInBounds_toArray, List.set_cons_zero, List.set_cons_succ]
       refine take_at 31 69 (v := ?vp31) (fuel := 5) rfl rfl (by kernel_rfl) (by kernel_rfl) (by kernel_rfl) (fun _ _ _ h => h) (by rfl) hQ1 ?hyp31 ?restp31
       case hyp31 => (intro w' hSw; (try dsimp only at hSw); go_simp <;> with_reducible rfl)
       simp only [Act.put, List.setIfInBounds_toArray, List.set_cons_zero, List.set_cons_succ]
       refine take_at 32 70 (v := ?vp32) (fuel := 4) rfl rfl (by kernel_rfl) (by kernel_rfl) (by kernel_rfl) (fun _ _ _ h => h) (by rfl) hQ1 ?hyp32 ?restp32
       case hyp32 => (intro w' hSw; (try dsimp only at hSw); go_simp <;> with_reducible rfl)
       simp only [Act.put, List.setIfInBounds_toArray, List.set_cons_zero, List.set_cons_succ]
       refine take_at 33 71 (v := ?vp33) (fuel := 3) rfl rfl (by kernel_rfl) (by kernel_rfl) (by kernel_rfl) (fun _ _ _ h => h) (by rfl) hQ1 ?hyp33 ?restp33
       case hyp33 => (intro w' hSw; (try dsimp only at hSw); go_simp <;> with_reducible rfl)
       simp only [Act.put, List.setIfInBounds_toArray, List.set_cons_zero, List.set_cons_succ]
       refine wpAnyH_ready (rs := [29]) (fuel := 2) (by kernel_rfl) (by simp) ?_
       refine AllReadyH.cons rfl (fun Kq hK => ?_) AllReadyH.nil
       go_simp
       refine (cut_any _ B6.out.f.obj).mono ?_
       rintro e wq2 ⟨rfl, rfl⟩
       go_simp
       refine hK.out _ _ hQ1 (fun hQ2 => ?_)
       clear hK Kq hQ1
       (try simp only [Act.put, List.setIfInBounds_toArray, List.set_cons_zero, List.set_cons_succ])
       refine take_at 34 72 (v := ?vp34) (fuel := 1) rfl rfl (by kernel_rfl) (by kernel_rfl) (by kernel_rfl) (fun _ _ _ h => h) (by rfl) hQ2 ?hyp34 ?restp34
       case hyp34 => (intro w' hSw; (try dsimp only at hSw); go_simp <;> with_reducible rfl)
       simp only [Act.put, List.setIfInBounds_toArray, List.set_cons_zero, List.set_cons_succ]
       refine take_at 35 73 (v := ?vp35) (fuel := 0) rfl rfl (by kernel_rfl) (by kernel_rfl) (by kernel_rfl) (fun _ _ _ h => h) (by rfl) hQ2 ?hyp35 ?restp35
       case hyp35 => (intro w' hSw; (try dsimp only at hSw); go_simp <;> with_reducible rfl)
       simp only [Act.put, List.setIfInBounds_toArray, List.set_cons_zero, List.set_cons_succ]
       refine wpAnyH_done (by kernel_rfl) ?_ _
       clear hQ2 HE HE5 T1 N1 T6 B5 BD
       have BQ := Lib.hid (B6.out.on (Rc.keeps _ _ _ _) (Rp.keeps _ _ _ _) (Below.refl _ _).drew)
       clear B6
       by_cases hje : j < en
       · obtain ⟨eb, eo, rfl, heb, hec⟩ := HU.out.cells (by omega)
         have e2 := Lib.hid (hec j hje)
         clear hec
         have j2 : (j : Int) < (en : Int) := by omega
         generalize U.getD j false = u at e2
         cases u with
         | true =>
           go_wp2_with fail
           have hS := hold1 heb e2.out BQ.out.f.below
           refine wp_region_held_drew (S := fun w' => w'.cell? ⟨eb, eo + j, none⟩ = some (.bool true) ∧ Below w.heap.size w w') (by kernel_rfl) hS (fun hHeld => ?_)
           clear hS
           show wpAnyH _ _ _ _ _ 19 _ _ _
           refine take_at 0 74 (v := ?va0) (fuel := 18) rfl rfl (by kernel_rfl) (by kernel_rfl) (by kernel_rfl) (fun _ _ _ h => h) (by rfl) hHeld ?hya0 ?resta0
           case hya0 => (intro w' hSw; (try dsimp only at hSw); go_simp <;> with_reducible rfl)
           simp only [Act.put, List.setIfInBounds_toArray, List.set_cons_zero, List.set_cons_succ]
           refine take_at 1 75 (v := ?va1) (fuel := 17) rfl rfl (by kernel_rfl) (by kernel_rfl) (by kernel_rfl) (fun _ _ _ h => h) (by rfl) hHeld ?hya1 ?resta1
           case hya1 => (intro w' hSw; (try dsimp only at hSw); go_simp <;> with_reducible rfl)
           simp only [Act.put, List.setIfInBounds_toArray, List.set_cons_zero, List.set_cons_succ]
           refine take_at 2 76 (v := ?va2) (fuel := 16) rfl rfl (by kernel_rfl) (by kernel_rfl) (by kernel_rfl) (fun _ _ _ h => h) (by rfl) hHeld ?hya2 ?resta2
           case hya2 => (intro w' hSw; (try dsimp only at hSw); go_simp <;> with_reducible rfl)
           simp only [Act.put, List.setIfInBounds_toArray, List.set_cons_zero, List.set_cons_succ]
           refine take_at 3 77 (v := ?va3) (fuel := 15) rfl rfl (by kernel_rfl) (by kernel_rfl) (by kernel_rfl) (fun _ _ _ h => h) (by rfl) hHeld ?hya3 ?resta3
           case hya3 => (intro w' hSw; (try dsimp only at hSw); go_simp <;> with_reducible rfl)
           simp only [Act.put, List.setIfInBounds_toArray, List.set_cons_zero, List.set_cons_succ]
           refine take_at 4 78 (v := ?va4) (fuel := 14) rfl rfl (by kernel_rfl) (by kernel_rfl) (by kernel_rfl) (fun _ _ _ h => h) (by rfl) hHeld ?hya4 ?resta4
           case hya4 => (intro w' hSw; (try dsimp only at hSw); go_simp <;> with_reducible rfl)
           simp only [Act.put, List.setIfInBounds_toArray, List.set_cons_zero, List.set_cons_succ]
           refine take_at 5 79 (v := ?va5) (fuel := 13) rfl rfl (by kernel_rfl) (by kernel_rfl) (by kernel_rfl) (fun _ _ _ h => h) (by rfl) hHeld ?hya5 ?resta5
           case hya5 => (intro w' hSw; (try dsimp only at hSw); go_simp <;> with_reducible rfl)
           simp only [Act.put, List.setIfInBounds_toArray, List.set_cons_zero, List.set_cons_succ]
           refine take_at 6 80 (v := ?va6) (fuel := 12) rfl rfl (by kernel_rfl) (by kernel_rfl) (by kernel_rfl) (fun _ _ _ h => h) (by rfl) hHeld ?hya6 ?resta6
           case hya6 => (intro w' hSw; (try dsimp only at hSw); go_simp <;> with_reducible rfl)
           simp only [Act.put, List.setIfInBounds_toArray, List.set_cons_zero, List.set_cons_succ]
           refine take_at 7 81 (v := ?va7) (fuel := 11) rfl rfl (by kernel_rfl) (by kernel_rfl) (by kernel_rfl) (fun _ _ _ h => h) (by rfl) hHeld ?hya7 ?resta7
           case hya7 => (intro w' hSw; (try dsimp only at hSw); go_simp <;> with_reducible rfl)
           simp only [Act.put, List.setIfInBounds_toArray, List.set_cons_zero, List.set_cons_succ]
           refine take_at 8 82 (v := ?va8) (fuel := 10) rfl rfl (by kernel_rfl) (by kernel_rfl) (by kernel_rfl) (fun _ _ _ h => h) (by rfl) hHeld ?hya8 ?resta8
           case hya8 => (intro w' hSw; (try dsimp only at hSw); go_simp <;> with_reducible rfl)
           simp only [Act.put, List.setIfInBounds_toArray, List.set_cons_zero, List.set_cons_succ]
           refine take_at 9 83 (v := ?va9) (fuel := 9) rfl rfl (by kernel_rfl) (by kernel_rfl) (by kernel_rfl) (fun _ _ _ h => h) (by rfl) hHeld ?hya9 ?resta9
           case hya9 => (intro w' hSw; (try dsimp only at hSw); go_simp <;> with_reducible rfl)
           simp only [Act.put, List.setIfInBounds_toArray, List.set_cons_zero, List.set_cons_succ]
           refine take_at 10 84 (v := ?va10) (fuel := 8) rfl rfl (by kernel_rfl) (by kernel_rfl) (by kernel_rfl) (fun _ _ _ h => h) (by rfl) hHeld ?hya10 ?resta10
           case hya10 => (intro w' hSw; (try dsimp only at hSw); go_simp <;> with_reducible rfl)
           simp only [Act.put, List.setIfInBounds_toArray, List.set_cons_zero, List.set_cons_succ]
           refine take_at 11 85 (v := ?va11) (fuel := 7) rfl rfl (by kernel_rfl) (by kernel_rfl) (by kernel_rfl) (fun _ _ _ h => h) (by rfl) hHeld ?hya11 ?resta11
           case hya11 => (intro w' hSw; (try dsimp only at hSw); go_simp <;> with_reducible rfl)
           simp only [Act.put, List.setIfInBounds_toArray, List.set_cons_zero, List.set_cons_succ]
           refine take_at 14 88 (v := ?va14) (fuel := 6) rfl rfl (by kernel_rfl) (by kernel_rfl) (by kernel_rfl) (fun _ _ _ h => h) (by rfl) hHeld ?hya14 ?resta14
           case hya14 => (intro w' hSw; (try dsimp only at hSw); go_simp <;> with_reducible rfl)
           simp only [Act.put, List.setIfInBounds_toArray, List.set_cons_zero, List.set_cons_succ]
           refine wpAnyH_ready (rs := [12]) (fuel := 5) (by kernel_rfl) (by simp) ?_
           refine AllReadyH.cons rfl (fun Kq hK => ?_) AllReadyH.nil
           go_simp
           refine (endp_any b K l2 c2 c3 S5 o3 _ BQ.out.f.obj (by omega) (by omega) HC3.out HO3.out).mono ?_
           rintro e w8 ⟨A3, m3, cc3, S8, rfl, q1, q2, q3, q4, q5⟩
           have B8 := Lib.hid (BQ.out.fst (Rp.keeps _ _ _ _) q3 q4 q5)
           have T3 := Lib.hid q1; have N3 := Lib.hid (show ∀ g o s, A3 = some ⟨g, o, s⟩ → ¬ T6s g ∧ ¬ S8 g from fun g o s he => ⟨fun ht => (by have := (q2 g o s he).1; have := (Rp.keeps _ _ _ _).lt BQ.out.g.obj g ht; omega), (q2 g o s he).2⟩)
           go_simp
           refine hK.out _ _ (hold1 heb e2.out B8.out.f.below) (fun hH1 => ?_)
           refine wpAnyH_more (S' := fun w' => (w'.cell? ⟨eb, eo + j, none⟩ = some (.bool true) ∧ Below w.heap.size w w') ∧ Bytes w' A3 m3 cc3 o3) (fun _ h => h.1) _ _ _ _ ?_
           have hH2 := (show (fun w' : World => (w'.cell? ⟨eb, eo + j, none⟩ = some (.bool true) ∧ Below w.heap.size w w') ∧ Bytes w' A3 m3 cc3 o3) w8 from ⟨hH1, T3.out.bytes.1⟩)
           clear hK Kq hHeld hH1 q1 q2 q3 q4 q5
           (try simp only [Act.put, List.setIfInBounds_toArray, List.set_cons_zero, List.set_cons_succ])
           refine take_text 13 87 (fuel := 4) _ A3 m3 cc3 o3 rfl rfl (by kernel_rfl) (by kernel_rfl) (by kernel_rfl) (fun _ _ _ h => h) (by rfl) hH2 rfl rfl (fun _ h => h.2) T3.out.bytes.2 ?_
           simp only [Act.put, List.setIfInBounds_toArray, List.set_cons_zero, List.set_cons_succ]
           refine wpAnyH_ready (rs := [15]) (fuel := 3) (by kernel_rfl) (by simp) ?_
           refine AllReadyH.cons rfl (fun Kq hK => ?_) AllReadyH.nil
           go_simp
           refine (rendp_any r K l2 c2 c3 T6s o3 _ B8.out.g.obj hK1 (by omega) (by omega) HC3.out HO3.out).mono ?_
           rintro e w9 ⟨A4, m4, cc4, T9, rfl, q1, q2, q3, q4, q5⟩
           have B9 := Lib.hid (B8.out.snd (Rc.keeps _ _ _ _) q3 q4 q5)
           have T4 := Lib.hid q1; have N4 := Lib.hid (show ∀ g o s, A4 = some ⟨g, o, s⟩ → ¬ S8 g from fun g o s he ht => by have := (q2 g o s he).1; have := (Rc.keeps _ _ _ _).lt B8.out.f.obj g ht; omega)
           go_simp
           refine hK.out _ _ ⟨hold1 heb e2.out B9.out.f.below, (T3.out.only q4 (fun g o s he => (N3.out g o s he).1)).bytes.1⟩ (fun hH3 => ?_)
           refine wpAnyH_more (S' := fun w' => ((w'.cell? ⟨eb, eo + j, none⟩ = some (.bool true) ∧ Below w.heap.size w w') ∧ Bytes w' A3 m3 cc3 o3) ∧ Bytes w' A4 m4 cc4 o3) (fun _ h => h.1) _ _ _ _ ?_
           have hH4 := (show (fun w' : World => ((w'.cell? ⟨eb, eo + j, none⟩ = some (.bool true) ∧ Below w.heap.size w w') ∧ Bytes w' A3 m3 cc3 o3) ∧ Bytes w' A4 m4 cc4 o3) w9 from ⟨hH3, T4.out.bytes.1⟩)
           clear hK Kq hH2 hH3 q1 q2 q3 q4 q5
           (try simp only [Act.put, List.setIfInBounds_toArray, List.set_cons_zero, List.set_cons_succ])
           refine take_text 16 90 (fuel := 2) _ A4 m4 cc4 o3 rfl rfl (by kernel_rfl) (by kernel_rfl) (by kernel_rfl) (fun _ _ _ h => h) (by rfl) hH4 rfl rfl (fun _ h => h.2) T4.out.bytes.2 ?_
           simp only [Act.put, List.setIfInBounds_toArray, List.set_cons_zero, List.set_cons_succ]
           refine take_at 17 91 (v := ?va17) (fuel := 1) rfl rfl (by kernel_rfl) (by kernel_rfl) (by kernel_rfl) (fun _ _ _ h => h) (by rfl) hH4 ?hya17 ?resta17
           case hya17 => (intro w' hSw; (try dsimp only at hSw); go_simp <;> with_reducible rfl)
           simp only [Act.put, List.setIfInBounds_toArray, List.set_cons_zero, List.set_cons_succ]
           refine take_at 18 92 (v := ?va18) (fuel := 0) rfl rfl (by kernel_rfl) (by kernel_rfl) (by kernel_rfl) (fun _ _ _ h => h) (by rfl) hH4 ?hya18 ?resta18
           case hya18 => (intro w' hSw; (try dsimp only at hSw); go_simp <;> with_reducible rfl)
           simp only [Act.put, List.setIfInBounds_toArray, List.set_cons_zero, List.set_cons_succ]
           refine wpAnyH_done (by kernel_rfl) ?_ _
           clear hH4 T3 N3 T4 N4 B8 BQ
           go_wp2
           go_roundw
           case rel => exact ⟨j + 1, S8, T9, [], c3, by omega, by go_num, B9.out, ⟨Nat.zero_le _, IL3.out⟩⟩
           case measure => simp [intOf]; omega
         | false =>
           go_wp2_with fail
           have hS := hold1 heb e2.out BQ.out.f.below
           refine wp_region_held_drew (S := fun w' => w'.cell? ⟨eb, eo + j, none⟩ = some (.bool false) ∧ Below w.heap.size w w') (by kernel_rfl) hS (fun hHeld => ?_)
           clear hS
           show wpAnyH _ _ _ _ _ 19 _ _ _
           refine take_at 0 74 (v := ?vb0) (fuel := 18) rfl rfl (by kernel_rfl) (by kernel_rfl) (by kernel_rfl) (fun _ _ _ h => h) (by rfl) hHeld ?hyb0 ?restb0
           case hyb0 => (intro w' hSw; (try dsimp only at hSw); go_simp <;> with_reducible rfl)
           simp only [Act.put, List.setIfInBounds_toArray, List.set_cons_zero, List.set_cons_succ]
           refine take_at 1 75 (v := ?vb1) (fuel := 17) rfl rfl (by kernel_rfl) (by kernel_rfl) (by kernel_rfl) (fun _ _ _ h => h) (by rfl) hHeld ?hyb1 ?restb1
           case hyb1 => (intro w' hSw; (try dsimp only at hSw); go_simp <;> with_reducible rfl)
           simp only [Act.put, List.setIfInBounds_toArray, List.set_cons_zero, List.set_cons_succ]
           refine take_at 2 76 (v := ?vb2) (fuel := 16) rfl rfl (by kernel_rfl) (by kernel_rfl) (by kernel_rfl) (fun _ _ _ h => h) (by rfl) hHeld ?hyb2 ?restb2
           case hyb2 => (intro w' hSw; (try dsimp only at hSw); go_simp <;> with_reducible rfl)
           simp only [Act.put, List.setIfInBounds_toArray, List.set_cons_zero, List.set_cons_succ]
           refine take_at 3 77 (v := ?vb3) (fuel := 15) rfl rfl (by kernel_rfl) (by kernel_rfl) (by kernel_rfl) (fun _ _ _ h => h) (by rfl) hHeld ?hyb3 ?restb3
           case hyb3 => (intro w' hSw; (try dsimp only at hSw); go_simp <;> with_reducible rfl)
           simp only [Act.put, List.setIfInBounds_toArray, List.set_cons_zero, List.set_cons_succ]
           refine take_at 4 78 (v := ?vb4) (fuel := 14) rfl rfl (by kernel_rfl) (by kernel_rfl) (by kernel_rfl) (fun _ _ _ h => h) (by rfl) hHeld ?hyb4 ?restb4
           case hyb4 => (intro w' hSw; (try dsimp only at hSw); go_simp <;> with_reducible rfl)
           simp only [Act.put, List.setIfInBounds_toArray, List.set_cons_zero, List.set_cons_succ]
           refine take_at 5 79 (v := ?vb5) (fuel := 13) rfl rfl (by kernel_rfl) (by kernel_rfl) (by kernel_rfl) (fun _ _ _ h => h) (by rfl) hHeld ?hyb5 ?restb5
           case hyb5 => (intro w' hSw; (try dsimp only at hSw); go_simp <;> with_reducible rfl)
           simp only [Act.put, List.setIfInBounds_toArray, List.set_cons_zero, List.set_cons_succ]
           refine take_at 6 80 (v := ?vb6) (fuel := 12) rfl rfl (by kernel_rfl) (by kernel_rfl) (by kernel_rfl) (fun _ _ _ h => h) (by rfl) hHeld ?hyb6 ?restb6
           case hyb6 => (intro w' hSw; (try dsimp only at hSw); go_simp <;> with_reducible rfl)
           simp only [Act.put, List.setIfInBounds_toArray, List.set_cons_zero, List.set_cons_succ]
           refine take_at 7 81 (v := ?vb7) (fuel := 11) rfl rfl (by kernel_rfl) (by kernel_rfl) (by kernel_rfl) (fun _ _ _ h => h) (by rfl) hHeld ?hyb7 ?restb7
           case hyb7 => (intro w' hSw; (try dsimp only at hSw); go_simp <;> with_reducible rfl)
           simp only [Act.put, List.setIfInBounds_toArray, List.set_cons_zero, List.set_cons_succ]
           refine take_at 8 82 (v := ?vb8) (fuel := 10) rfl rfl (by kernel_rfl) (by kernel_rfl) (by kernel_rfl) (fun _ _ _ h => h) (by rfl) hHeld ?hyb8 ?restb8
           case hyb8 => (intro w' hSw; (try dsimp only at hSw); go_simp <;> with_reducible rfl)
           simp only [Act.put, List.setIfInBounds_toArray, List.set_cons_zero, List.set_cons_succ]
           refine take_at 9 83 (v := ?vb9) (fuel := 9) rfl rfl (by kernel_rfl) (by kernel_rfl) (by kernel_rfl) (fun _ _ _ h => h) (by rfl) hHeld ?hyb9 ?restb9
           case hyb9 => (intro w' hSw; (try dsimp only at hSw); go_simp <;> with_reducible rfl)
           simp only [Act.put, List.setIfInBounds_toArray, List.set_cons_zero, List.set_cons_succ]
           refine take_at 10 84 (v := ?vb10) (fuel := 8) rfl rfl (by kernel_rfl) (by kernel_rfl) (by kernel_rfl) (fun _ _ _ h => h) (by rfl) hHeld ?hyb10 ?restb10
           case hyb10 => (intro w' hSw; (try dsimp only at hSw); go_simp <;> with_reducible rfl)
           simp only [Act.put, List.setIfInBounds_toArray, List.set_cons_zero, List.set_cons_succ]
           refine skip_at 11 85 (fuel := 7) rfl rfl (by kernel_rfl) (by kernel_rfl) (by kernel_rfl) (fun _ _ _ h => h) (by rfl) hHeld ?_
           simp only [Act.put, List.setIfInBounds_toArray, List.set_cons_zero, List.set_cons_succ]
           refine skip_at 12 86 (fuel := 6) rfl rfl (by kernel_rfl) (by kernel_rfl) (by kernel_rfl) (fun _ _ _ h => h) (by rfl) hHeld ?_
           simp only [Act.put, List.setIfInBounds_toArray, List.set_cons_zero, List.set_cons_succ]
           refine skip_at 13 87 (fuel := 5) rfl rfl (by kernel_rfl) (by kernel_rfl) (by kernel_rfl) (fun _ _ _ h => h) (by rfl) hHeld ?_
           simp only [Act.put, List.setIfInBounds_toArray, List.set_cons_zero, List.set_cons_succ]
           refine skip_at 14 88 (fuel := 4) rfl rfl (by kernel_rfl) (by kernel_rfl) (by kernel_rfl) (fun _ _ _ h => h) (by rfl) hHeld ?_
           simp only [Act.put, List.setIfInBounds_toArray, List.set_cons_zero, List.set_cons_succ]
           refine skip_at 15 89 (fuel := 3) rfl rfl (by kernel_rfl) (by kernel_rfl) (by kernel_rfl) (fun _ _ _ h => h) (by rfl) hHeld ?_
           simp only [Act.put, List.setIfInBounds_toArray, List.set_cons_zero, List.set_cons_succ]
           refine skip_at 16 90 (fuel := 2) rfl rfl (by kernel_rfl) (by kernel_rfl) (by kernel_rfl) (fun _ _ _ h => h) (by rfl) hHeld ?_
           simp only [Act.put, List.setIfInBounds_toArray, List.set_cons_zero, List.set_cons_succ]
           refine skip_at 17 91 (fuel := 1) rfl rfl (by kernel_rfl) (by kernel_rfl) (by kernel_rfl) (fun _ _ _ h => h) (by rfl) hHeld ?_
           simp only [Act.put, List.setIfInBounds_toArray, List.set_cons_zero, List.set_cons_succ]
           refine take_at 18 92 (v := ?vb18) (fuel := 0) rfl rfl (by kernel_rfl) (by kernel_rfl) (by kernel_rfl) (fun _ _ _ h => h) (by rfl) hHeld ?hyb18 ?restb18
           case hyb18 => (intro w' hSw; (try dsimp only at hSw); go_simp <;> with_reducible rfl)
           simp only [Act.put, List.setIfInBounds_toArray, List.set_cons_zero, List.set_cons_succ]
           refine wpAnyH_done (by kernel_rfl) ?_ _
           clear hHeld
           go_wp2
           go_roundw
           case rel => exact ⟨j + 1, S5, T6s, l2, c2, by omega, by go_num, BQ.out, ⟨IL2.out.1, by have := IL2.out.2; omega⟩⟩
           case measure => simp [intOf]; omega
       · have j2 : decide ((j : Int) < (en : Int)) = false := by simp; omega
         have j3 : ¬ (j : Int) < (en : Int) := by omega
         go_wp2_with fail
         have hS := BQ.out.f.below
         refine wp_region_held_drew (S := fun w' => Below w.heap.size w w') (by kernel_rfl) hS (fun hHeld => ?_)
         clear hS
         show wpAnyH _ _ _ _ _ 19 _ _ _
         refine take_at 0 74 (v := ?vc0) (fuel := 18) rfl rfl (by kernel_rfl) (by kernel_rfl) (by kernel_rfl) (fun _ _ _ h => h) (by rfl) hHeld ?hyc0 ?restc0
         case hyc0 => (intro w' hSw; (try dsimp only at hSw); go_simp <;> with_reducible rfl)
         simp only [Act.put, List.setIfInBounds_toArray, List.set_cons_zero, List.set_cons_succ]
         refine take_at 1 75 (v := ?vc1) (fuel := 17) rfl rfl (by kernel_rfl) (by kernel_rfl) (by kernel_rfl) (fun _ _ _ h => h) (by rfl) hHeld ?hyc1 ?restc1
         case hyc1 => (intro w' hSw; (try dsimp only at hSw); go_simp <;> with_reducible rfl)
         simp only [Act.put, List.setIfInBounds_toArray, List.set_cons_zero, List.set_cons_succ]
         refine take_at 2 76 (v := ?vc2) (fuel := 16) rfl rfl (by kernel_rfl) (by kernel_rfl) (by kernel_rfl) (fun _ _ _ h => h) (by rfl) hHeld ?hyc2 ?restc2
         case hyc2 => (intro w' hSw; (try dsimp only at hSw); go_simp <;> with_reducible rfl)
         simp only [Act.put, List.setIfInBounds_toArray, List.set_cons_zero, List.set_cons_succ]
         refine take_at 3 77 (v := ?vc3) (fuel := 15) rfl rfl (by kernel_rfl) (by kernel_rfl) (by kernel_rfl) (fun _ _ _ h => h) (by rfl) hHeld ?hyc3 ?restc3
         case hyc3 => (intro w' hSw; (try dsimp only at hSw); go_simp <;> with_reducible rfl)
         simp only [Act.put, List.setIfInBounds_toArray, List.set_cons_zero, List.set_cons_succ]
         refine take_at 4 78 (v := ?vc4) (fuel := 14) rfl rfl (by kernel_rfl) (by kernel_rfl) (by kernel_rfl) (fun _ _ _ h => h) (by rfl) hHeld ?hyc4 ?restc4
         case hyc4 => (intro w' hSw; (try dsimp only at hSw); go_simp <;> with_reducible rfl)
         simp only [Act.put, List.setIfInBounds_toArray, List.set_cons_zero, List.set_cons_succ]
         refine skip_at 5 79 (fuel := 13) rfl rfl (by kernel_rfl) (by kernel_rfl) (by kernel_rfl) (fun _ _ _ h => h) (by rfl) hHeld ?_
         simp only [Act.put, List.setIfInBounds_toArray, List.set_cons_zero, List.set_cons_succ]
         refine skip_at 6 80 (fuel := 12) rfl rfl (by kernel_rfl) (by kernel_rfl) (by kernel_rfl) (fun _ _ _ h => h) (by rfl) hHeld ?_
         simp only [Act.put, List.setIfInBounds_toArray, List.set_cons_zero, List.set_cons_succ]
         refine skip_at 7 81 (fuel := 11) rfl rfl (by kernel_rfl) (by kernel_rfl) (by kernel_rfl) (fun _ _ _ h => h) (by rfl) hHeld ?_
         simp only [Act.put, List.setIfInBounds_toArray, List.set_cons_zero, List.set_cons_succ]
         refine skip_at 8 82 (fuel := 10) rfl rfl (by kernel_rfl) (by kernel_rfl) (by kernel_rfl) (fun _ _ _ h => h) (by rfl) hHeld ?_
         simp only [Act.put, List.setIfInBounds_toArray, List.set_cons_zero, List.set_cons_succ]
         refine take_at 9 83 (v := ?vc9) (fuel := 9) rfl rfl (by kernel_rfl) (by kernel_rfl) (by kernel_rfl) (fun _ _ _ h => h) (by rfl) hHeld ?hyc9 ?restc9
         case hyc9 => (intro w' hSw; (try dsimp only at hSw); go_simp <;> with_reducible rfl)
         simp only [Act.put, List.setIfInBounds_toArray, List.set_cons_zero, List.set_cons_succ]
         refine take_at 10 84 (v := ?vc10) (fuel := 8) rfl rfl (by kernel_rfl) (by kernel_rfl) (by kernel_rfl) (fun _ _ _ h => h) (by rfl) hHeld ?hyc10 ?restc10
         case hyc10 => (intro w' hSw; (try dsimp only at hSw); go_simp <;> with_reducible rfl)
         simp only [Act.put, List.setIfInBounds_toArray, List.set_cons_zero, List.set_cons_succ]
         refine skip_at 11 85 (fuel := 7) rfl rfl (by kernel_rfl) (by kernel_rfl) (by kernel_rfl) (fun _ _ _ h => h) (by rfl) hHeld ?_
         simp only [Act.put, List.setIfInBounds_toArray, List.set_cons_zero, List.set_cons_succ]
         refine skip_at 12 86 (fuel := 6) rfl rfl (by kernel_rfl) (by kernel_rfl) (by kernel_rfl) (fun _ _ _ h => h) (by rfl) hHeld ?_
         simp only [Act.put, List.setIfInBounds_toArray, List.set_cons_zero, List.set_cons_succ]
         refine skip_at 13 87 (fuel := 5) rfl rfl (by kernel_rfl) (by kernel_rfl) (by kernel_rfl) (fun _ _ _ h => h) (by rfl) hHeld ?_
         simp only [Act.put, List.setIfInBounds_toArray, List.set_cons_zero, List.set_cons_succ]
         refine skip_at 14 88 (fuel := 4) rfl rfl (by kernel_rfl) (by kernel_rfl) (by kernel_rfl) (fun _ _ _ h => h) (by rfl) hHeld ?_
         simp only [Act.put, List.setIfInBounds_toArray, List.set_cons_zero, List.set_cons_succ]
         refine skip_at 15 89 (fuel := 3) rfl rfl (by kernel_rfl) (by kernel_rfl) (by kernel_rfl) (fun _ _ _ h => h) (by rfl) hHeld ?_
         simp only [Act.put, List.setIfInBounds_toArray, List.set_cons_zero, List.set_cons_succ]
         refine skip_at 16 90 (fuel := 2) rfl rfl (by kernel_rfl) (by kernel_rfl) (by kernel_rfl) (fun _ _ _ h => h) (by rfl) hHeld ?_
         simp only [Act.put, List.setIfInBounds_toArray, List.set_cons_zero, List.set_cons_succ]
         refine skip_at 17 91 (fuel := 1) rfl rfl (by kernel_rfl) (by kernel_rfl) (by kernel_rfl) (fun _ _ _ h => h) (by rfl) hHeld ?_
         simp only [Act.put, List.setIfInBounds_toArray, List.set_cons_zero, List.set_cons_succ]
         refine take_at 18 92 (v := ?vc18) (fuel := 0) rfl rfl (by kernel_rfl) (by kernel_rfl) (by kernel_rfl) (fun _ _ _ h => h) (by rfl) hHeld ?hyc18 ?restc18
         case hyc18 => (intro w' hSw; (try dsimp only at hSw); go_simp <;> with_reducible rfl)
         simp only [Act.put, List.setIfInBounds_toArray, List.set_cons_zero, List.set_cons_succ]
         refine wpAnyH_done (by kernel_rfl) ?_ _
         clear hHeld
         go_wp2
         go_roundw
         case rel => exact ⟨j + 1, S5, T6s, l2, c2, by omega, by go_num, BQ.out, ⟨IL2.out.1, by have := IL2.out.2; omega⟩⟩
         case measure => simp [intOf]; omega
     · have BQ := Lib.hid (BB.out.on (Rc.keeps _ _ _ _) (Rp.keeps _ _ _ _) (Below.refl _ _).drew)
       clear BB
       obtain ⟨o3, ho3⟩ : ∃ o3, pEnd K l1 = o3 := ⟨_, rfl⟩
       obtain ⟨c3, hc3⟩ : ∃ c3, cr + over K l1 = c3 := ⟨_, rfl⟩
       have hc3b : c3 ≤ 500 := by have := over_le K l1; omega
       have HO3 := Lib.hid ho3; have HC3 := Lib.hid hc3
       clear ho3 hc3
       go_wp2_with fail
       have hS := BQ.out.f.below
       refine wp_region_held_drew (S := fun w' => Below w.heap.size w w') (by kernel_rfl) hS (fun hHeld => ?_)
       clear hS
       show wpAnyH _ _ _ _ _ 33 _ _ _
       refine take_at 0 93 (v := ?ve0) (fuel := 32) rfl rfl (by kernel_rfl) (by kernel_rfl) (by kernel_rfl) (fun _ _ _ h => h) (by rfl) hHeld ?hye0 ?reste0
       case hye0 => (intro w' hSw; (try dsimp only at hSw); go_simp <;> with_reducible rfl)
       simp only [Act.put, List.setIfInBounds_toArray, List.set_cons_zero, List.set_cons_succ]
       refine take_at 3 96 (v := ?ve3) (fuel := 31) rfl rfl (by kernel_rfl) (by kernel_rfl) (by kernel_rfl) (fun _ _ _ h => h) (by rfl) hHeld ?hye3 ?reste3
       case hye3 => (intro w' hSw; (try dsimp only at hSw); go_simp <;> with_reducible rfl)
       simp only [Act.put, List.setIfInBounds_toArray, List.set_cons_zero, List.set_cons_succ]
       refine wpAnyH_ready (rs := [1]) (fuel := 30) (by kernel_rfl) (by simp) ?_
       refine AllReadyH.cons rfl (fun Kq hK => ?_) AllReadyH.nil
       go_simp
       refine (endp_any b K l1 cr c3 S o3 _ BQ.out.f.obj (by omega) (by omega) HC3.out HO3.out).mono ?_
       rintro e w8 ⟨A3, m3, cc3, S8, rfl, q1, q2, q3, q4, q5⟩
       have B8 := Lib.hid (BQ.out.fst (Rp.keeps _ _ _ _) q3 q4 q5)
       have T3 := Lib.hid q1; have N3 := Lib.hid (show ∀ g o s, A3 = some ⟨g, o, s⟩ → ¬ T g ∧ ¬ S8 g from fun g o s he => ⟨fun ht => (by have := (q2 g o s he).1; have := (Rp.keeps _ _ _ _).lt BQ.out.g.obj g ht; omega), (q2 g o s he).2⟩)
       go_simp
       refine hK.out _ _ (id B8.out.f.below) (fun hH1 => ?_)
       refine wpAnyH_more (S' := fun w' => (Below w.heap.size w w') ∧ Bytes w' A3 m3 cc3 o3) (fun _ h => h.1) _ _ _ _ ?_
       have hH2 := (show (fun w' : World => (Below w.heap.size w w') ∧ Bytes w' A3 m3 cc3 o3) w8 from ⟨hH1, T3.out.bytes.1⟩)
       clear hK Kq hHeld hH1 q1 q2 q3 q4 q5
       (try simp only [Act.put, List.setIfInBounds_toArray, List.set_cons_zero, List.set_cons_succ])
       refine take_text 2 95 (fuel := 29) _ A3 m3 cc3 o3 rfl rfl (by kernel_rfl) (by kernel_rfl) (by kernel_rfl) (fun _ _ _ h => h) (by rfl) hH2 rfl rfl (fun _ h => h.2) T3.out.bytes.2 ?_
       simp only [Act.put, List.setIfInBounds_toArray, List.set_cons_zero, List.set_cons_succ]
       refine wpAnyH_ready (rs := [4]) (fuel := 28) (by kernel_rfl) (by simp) ?_
       refine AllReadyH.cons rfl (fun Kq hK => ?_) AllReadyH.nil
       go_simp
       refine (rendp_any r K l1 cr c3 T o3 _ B8.out.g.obj hK1 (by omega) (by omega) HC3.out HO3.out).mono ?_
       rintro e w9 ⟨A4, m4, cc4, T9, rfl, q1, q2, q3, q4, q5⟩
       have B9 := Lib.hid (B8.out.snd (Rc.keeps _ _ _ _) q3 q4 q5)
       have T4 := Lib.hid q1; have N4 := Lib.hid (show ∀ g o s, A4 = some ⟨g, o, s⟩ → ¬ S8 g from fun g o s he ht => by have := (q2 g o s he).1; have := (Rc.keeps _ _ _ _).lt B8.out.f.obj g ht; omega)
       go_simp
       refine hK.out _ _ ⟨id B9.out.f.below, (T3.out.only q4 (fun g o s he => (N3.out g o s he).1)).bytes.1⟩ (fun hH3 => ?_)
       refine wpAnyH_more (S' := fun w' => ((Below w.heap.size w w') ∧ Bytes w' A3 m3 cc3 o3) ∧ Bytes w' A4 m4 cc4 o3 ∧ w'.cell? ⟨r, 1, none⟩ = some (.int .i64 (c3 : Int))) (fun _ h => h.1) _ _ _ _ ?_
       have hH4 := (show (fun w' : World => ((Below w.heap.size w w') ∧ Bytes w' A3 m3 cc3 o3) ∧ Bytes w' A4 m4 cc4 o3 ∧ w'.cell? ⟨r, 1, none⟩ = some (.int .i64 (c3 : Int))) w9 from ⟨hH3, ⟨T4.out.bytes.1, B9.out.g.obj.cut⟩⟩)
       clear hK Kq hH2 hH3 q1 q2 q3 q4 q5
       (try simp only [Act.put, List.setIfInBounds_toArray, List.set_cons_zero, List.set_cons_succ])
       refine take_text 5 98 (fuel := 27) _ A4 m4 cc4 o3 rfl rfl (by kernel_rfl) (by kernel_rfl) (by kernel_rfl) (fun _ _ _ h => h) (by rfl) hH4 rfl rfl (fun _ h => h.2.1) T4.out.bytes.2 ?_
       simp only [Act.put, List.setIfInBounds_toArray, List.set_cons_zero, List.set_cons_succ]
       refine take_at 6 99 (v := ?ve6) (fuel := 26) rfl rfl (by kernel_rfl) (by kernel_rfl) (by kernel_rfl) (fun _ _ _ h => h) (by rfl) hH4 ?hye6 ?reste6
       case hye6 => (intro w' hSw; (try dsimp only at hSw); go_simp <;> with_reducible rfl)
       simp only [Act.put, List.setIfInBounds_toArray, List.set_cons_zero, List.set_cons_succ]
       refine take_at 7 100 (v := ?ve7) (fuel := 25) rfl rfl (by kernel_rfl) (by kernel_rfl) (by kernel_rfl) (fun _ _ _ h => h) (by rfl) hH4 ?hye7 ?reste7
       case hye7 => (intro w' hSw; (try dsimp only at hSw); go_simp <;> with_reducible rfl)
       simp only [Act.put, List.setIfInBounds_toArray, List.set_cons_zero, List.set_cons_succ]
       refine take_at 8 101 (v := ?ve8) (fuel := 24) rfl rfl (by kernel_rfl) (by kernel_rfl) (by kernel_rfl) (fun _ _ _ h => h) (by rfl) hH4 ?hye8 ?reste8
       case hye8 => (intro w' hSw; (try dsimp only at hSw); go_simp <;> with_reducible rfl)
       simp only [Act.put, List.setIfInBounds_toArray, List.set_cons_zero, List.set_cons_succ]
       refine take_at 9 102 (v := ?ve9) (fuel := 23) rfl rfl (by kernel_rfl) (by kernel_rfl) (by kernel_rfl) (fun _ _ _ h => h) (by rfl) hH4 ?hye9 ?reste9
       case hye9 => (intro w' hSw; (try dsimp only at hSw); go_simp <;> with_reducible rfl)
       simp only [Act.put, List.setIfInBounds_toArray, List.set_cons_zero, List.set_cons_succ]
       refine take_at 10 103 (v := ?ve10) (fuel := 22) rfl rfl (by kernel_rfl) (by kernel_rfl) (by kernel_rfl) (fun _ _ _ h => h) (by rfl) hH4 ?hye10 ?reste10
       case hye10 => (intro w' hSw; (try dsimp only at hSw); go_simp <;> with_reducible rfl)
       simp only [Act.put, List.setIfInBounds_toArray, List.set_cons_zero, List.set_cons_succ]
       refine wpAnyH_ready (rs := [11]) (fuel := 21) (by kernel_rfl) (by simp) ?_
       refine AllReadyH.cons rfl (fun Kq hK => ?_) AllReadyH.nil
       go_simp
       refine (held_any _ B9.out.f.obj).mono ?_
       rintro e wq3 ⟨rfl, rfl⟩
       go_simp
       refine hK.out _ _ hH4 (fun hQ3 => ?_)
       clear hK Kq hH4
       (try simp only [Act.put, List.setIfInBounds_toArray, List.set_cons_zero, List.set_cons_succ])
       refine take_at 12 105 (v := ?ve12) (fuel := 20) rfl rfl (by kernel_rfl) (by kernel_rfl) (by kernel_rfl) (fun _ _ _ h => h) (by rfl) hQ3 ?hye12 ?reste12
       case hye12 => (intro w' hSw; (try dsimp only at hSw); go_simp <;> with_reducible rfl)
       simp only [Act.put, List.setIfInBounds_toArray, List.set_cons_zero, List.set_cons_succ]
       refine take_at 13 106 (v := ?ve13) (fuel := 19) rfl rfl (by kernel_rfl) (by kernel_rfl) (by kernel_rfl) (fun _ _ _ h => h) (by rfl) hQ3 ?hye13 ?reste13
       case hye13 => (intro w' hSw; (try dsimp only at hSw); go_simp <;> with_reducible rfl)
       simp only [Act.put, List.setIfInBounds_toArray, List.set_cons_zero, List.set_cons_succ]
       refine take_at 14 107 (v := ?ve14) (fuel := 18) rfl rfl (by kernel_rfl) (by kernel_rfl) (by kernel_rfl) (fun _ _ _ h => h) (by rfl) hQ3 ?hye14 ?reste14
       case hye14 => (intro w' hSw; (try dsimp only at hSw); go_simp <;> with_reducible rfl)
       simp only [Act.put, List.setIfInBounds_toArray, List.set_cons_zero, List.set_cons_succ]
       refine take_at 15 108 (v := ?ve15) (fuel := 17) rfl rfl (by kernel_rfl) (by kernel_rfl) (by kernel_rfl) (fun _ _ _ h => h) (by rfl) hQ3 ?hye15 ?reste15
       case hye15 => (intro w' hSw; (try dsimp only at hSw); go_simp <;> with_reducible rfl)
       simp only [Act.put, List.setIfInBounds_toArray, List.set_cons_zero, List.set_cons_succ]
       refine take_at 17 110 (v := ?ve17) (fuel := 16) rfl rfl (by kernel_rfl) (by kernel_rfl) (by kernel_rfl) (fun _ _ _ h => h) (by rfl) hQ3 ?hye17 ?reste17
       case hye17 => (intro w' hSw; (try dsimp only at hSw); go_simp <;> with_reducible rfl)
       simp only [Act.put, List.setIfInBounds_toArray, List.set_cons_zero, List.set_cons_succ]
       refine take_at 18 111 (v := ?ve18) (fuel := 15) rfl rfl (by kernel_rfl) (by kernel_rfl) (by kernel_rfl) (fun _ _ _ h => h) (by rfl) hQ3 ?hye18 ?reste18
       case hye18 => (intro w' hSw; (try dsimp only at hSw); go_simp <;> with_reducible rfl)
       simp only [Act.put, List.setIfInBounds_toArray, List.set_cons_zero, List.set_cons_succ]
       refine take_at 19 112 (v := ?ve19) (fuel := 14) rfl rfl (by kernel_rfl) (by kernel_rfl) (by kernel_rfl) (fun _ _ _ h => h) (by rfl) hQ3 ?hye19 ?reste19
       case hye19 => (intro w' hSw; (try dsimp only at hSw); go_simp <;> with_reducible rfl)
       simp only [Act.put, List.setIfInBounds_toArray, List.set_cons_zero, List.set_cons_succ]
       refine take_at 20 113 (v := ?ve20) (fuel := 13) rfl rfl (by kernel_rfl) (by kernel_rfl) (by kernel_rfl) (fun _ _ _ h => h) (by rfl) hQ3 ?hye20 ?reste20
       case hye20 => (intro w' hSw; (try dsimp only at hSw); go_simp <;> with_reducible rfl)
       simp only [Act.put, List.setIfInBounds_toArray, List.set_cons_zero, List.set_cons_succ]
       refine wpAnyH_ready (rs := [16]) (fuel := 12) (by kernel_rfl) (by simp) ?_
       refine AllReadyH.cons rfl (fun Kq hK => ?_) AllReadyH.nil
       go_simp
       refine (cut_any _ B9.out.f.obj).mono ?_
       rintro e wq4 ⟨rfl, rfl⟩
       go_simp
       refine hK.out _ _ hQ3 (fun hQ4 => ?_)
       clear hK Kq hQ3
       (try simp only [Act.put, List.setIfInBounds_toArray, List.set_cons_zero, List.set_cons_succ])
       refine take_at 21 114 (v := ?ve21) (fuel := 11) rfl rfl (by kernel_rfl) (by kernel_rfl) (by kernel_rfl) (fun _ _ _ h => h) (by rfl) hQ4 ?hye21 ?reste21
       case hye21 => (intro w' hSw; (try dsimp only at hSw); go_simp <;> with_reducible rfl)
       simp only [Act.put, List.setIfInBounds_toArray, List.set_cons_zero, List.set_cons_succ]
       refine take_at 22 115 (v := ?ve22) (fuel := 10) rfl rfl (by kernel_rfl) (by kernel_rfl) (by kernel_rfl) (fun _ _ _ h => h) (by rfl) hQ4 ?hye22 ?reste22
       case hye22 => (intro w' hSw; (try dsimp only at hSw); go_simp <;> with_reducible rfl)
       simp only [Act.put, List.setIfInBounds_toArray, List.set_cons_zero, List.set_cons_succ]
       refine take_at 23 116 (v := ?ve23) (fuel := 9) rfl rfl (by kernel_rfl) (by kernel_rfl) (by kernel_rfl) (fun _ _ _ h => h) (by rfl) hQ4 ?hye23 ?reste23
       case hye23 => (intro w' hSw; (try dsimp only at hSw); go_simp <;> with_reducible rfl)
       simp only [Act.put, List.setIfInBounds_toArray, List.set_cons_zero, List.set_cons_succ]
       refine take_at 24 117 (v := ?ve24) (fuel := 8) rfl rfl (by kernel_rfl) (by kernel_rfl) (by kernel_rfl) (fun _ _ _ h => h) (by rfl) hQ4 ?hye24 ?reste24
       case hye24 => (intro w' hSw; (try dsimp only at hSw); go_simp <;> with_reducible rfl)
       simp only [Act.put, List.setIfInBounds_toArray, List.set_cons_zero, List.set_cons_succ]
       refine wpAnyH_ready (rs := [25]) (fuel := 7) (by kernel_rfl) (by simp) ?_
       refine AllReadyH.cons rfl (fun Kq hK => ?_) AllReadyH.nil
       go_simp
       refine (endp_any b K [] c3 c3 S8 [] _ B9.out.f.obj (by omega) (by simp) (by rw [over_nil]; rfl) rfl).mono ?_
       rintro e w10 ⟨A5, m5, cc5, S10, rfl, q1, q2, q3, q4, q5⟩
       obtain rfl : m5 = 0 := q1.1.symm
       have B10 := Lib.hid (B9.out.fst (Rp.keeps _ _ _ _) q3 q4 q5)
       go_simp
       refine hK.out _ _ ⟨⟨B10.out.f.below, hQ4.1.2.only q4 (fun g o he _ => (N3.out g o none he).2)⟩, ⟨hQ4.2.1.only q4 (fun g o he _ => N4.out g o none he), B10.out.g.obj.cut⟩⟩ (fun hH5 => ?_)
       clear hK Kq hQ4 q1 q2 q3 q4 q5
       (try simp only [Act.put, List.setIfInBounds_toArray, List.set_cons_zero, List.set_cons_succ])
       refine take_at 26 119 (v := ?ve26) (fuel := 6) rfl rfl (by kernel_rfl) (by kernel_rfl) (by kernel_rfl) (fun _ _ _ h => h) (by rfl) hH5 ?hye26 ?reste26
       case hye26 => (intro w' hSw; (try dsimp only at hSw); go_simp <;> with_reducible rfl)
       simp only [Act.put, List.setIfInBounds_toArray, List.set_cons_zero, List.set_cons_succ]
       refine take_at 27 120 (v := ?ve27) (fuel := 5) rfl rfl (by kernel_rfl) (by kernel_rfl) (by kernel_rfl) (fun _ _ _ h => h) (by rfl) hH5 ?hye27 ?reste27
       case hye27 => (intro w' hSw; (try dsimp only at hSw); go_simp <;> with_reducible rfl)
       simp only [Act.put, List.setIfInBounds_toArray, List.set_cons_zero, List.set_cons_succ]
       refine take_at 28 121 (v := ?ve28) (fuel := 4) rfl rfl (by kernel_rfl) (by kernel_rfl) (by kernel_rfl) (fun _ _ _ h => h) (by rfl) hH5 ?hye28 ?reste28
       case hye28 => (intro w' hSw; (try dsimp only at hSw); go_simp <;> with_reducible rfl)
       simp only [Act.put, List.setIfInBounds_toArray, List.set_cons_zero, List.set_cons_succ]
       refine take_at 29 122 (v := ?ve29) (fuel := 3) rfl rfl (by kernel_rfl) (by kernel_rfl) (by kernel_rfl) (fun _ _ _ h => h) (by rfl) hH5 ?hye29 ?reste29
       case hye29 => (intro w' hSw; (try dsimp only at hSw); go_simp <;> with_reducible rfl)
       simp only [Act.put, List.setIfInBounds_toArray, List.set_cons_zero, List.set_cons_succ]
       refine wpAnyH_ready (rs := [30]) (fuel := 2) (by kernel_rfl) (by simp) ?_
       refine AllReadyH.cons rfl (fun Kq hK => ?_) AllReadyH.nil
       go_simp
       refine (law_runs _).mono ?_
       rintro e w11 ⟨rfl, k1⟩
       go_simp
       refine hK.out _ _ ⟨⟨hH5.1.1.trans (k1.mono hH5.1.1.size), hH5.1.2.on k1⟩, ⟨hH5.2.1.on k1, (B10.out.on (Rc.keeps _ _ _ _) (Rp.keeps _ _ _ _) k1).g.obj.cut⟩⟩ (fun hH6 => ?_)
       clear hK Kq hH5 k1
       (try simp only [Act.put, List.setIfInBounds_toArray, List.set_cons_zero, List.set_cons_succ])
       refine take_at 31 124 (v := ?ve31) (fuel := 1) rfl rfl (by kernel_rfl) (by kernel_rfl) (by kernel_rfl) (fun _ _ _ h => h) (by rfl) hH6 ?hye31 ?reste31
       case hye31 => (intro w' hSw; (try dsimp only at hSw); go_simp <;> with_reducible rfl)
       simp only [Act.put, List.setIfInBounds_toArray, List.set_cons_zero, List.set_cons_succ]
       refine take_at 32 6 (v := ?ve32) (fuel := 0) rfl rfl (by kernel_rfl) (by kernel_rfl) (by kernel_rfl) (fun _ _ _ h => h) (by rfl) hH6 ?hye32 ?reste32
       case hye32 => (intro w' hSw; (try dsimp only at hSw); go_simp <;> with_reducible rfl)
       simp only [Act.put, List.setIfInBounds_toArray, List.set_cons_zero, List.set_cons_succ]
       refine wpAnyH_done (by kernel_rfl) ?_ _
       have KF := Lib.hid hH6.1.1
       clear hH6 T3 N3 T4 N4 B8 BQ B9 B10
       go_wp2
       go_ret
       exact ⟨rfl, KF.out⟩

end Go.Proofs.Ytemehobohgcpdaa
