/- Contract of the law TabBack. -/
import Derived.Test.YtoccnhajfmkpoaaLawCase
import Derived.Test.YtoccnhajfmkpoaaWalksK
import Derived.Test.YtoccnhajfmkpoaaRegionBy
import Derived.WalkKit
import Derived.WalkSpells
import Derived.WalkLawsBesides
import Derived.Lib.Hide
import Derived.Deep.RegionHeld3
namespace Go.Proofs.Ytoccnhajfmkpoaa
open Go.RowKit

theorem IsRow.are {w : World} {a : Option Addr} {len cap : Nat} {zs : List Int} (h : IsRow .u8 w a len cap zs) : Are (zs.take len) := by
  rcases h with ⟨_, _, _, rfl⟩ | ⟨_, _, _, _, _, _, hw⟩
  · intro z hz; simp at hz
  · intro z hz
    have := u8_bounds (hw z (List.mem_of_mem_take hz))
    omega

/-- What is held through the last line of TabBack. -/
def BackS (w : World) (b3 b4 : Nat) (D : List Int) (A : Option Addr) (n c : Nat) (ys : List Int) (w' : World) : Prop :=
  Row w' b3 24 (cs D) ∧ Row w' b4 24 (cs D) ∧ Bytes w' A n c ys ∧ Below w.heap.size w w'
theorem BackS.on {w : World} {b3 b4 : Nat} {D : List Int} {A : Option Addr} {n c : Nat} {ys : List Int} {w1 w2 : World} (h : BackS w b3 b4 D A n c ys w1) (k : Below w1.heap.size w1 w2) : BackS w b3 b4 D A n c ys w2 :=
  ⟨h.1.on k, h.2.1.on k, h.2.2.1.on k, below_next h.2.2.2 k⟩

theorem st_two {ops : Array Oper} {rest : List Oper} {o : Oper} {a : Act} {w : World} {Q : Exit → Act → World → Prop} (hgd : o.guard = none) (x y : Operand) (ho : o.op = .buildSlice 28 2 #[(0, x), (1, y)]) (E Z : List Int) (hx : a.eval x = tv E) (hy : a.eval y = tv Z) (hB : Try.prog.builtSlice 24 2 [(0, tv E), (1, tv Z)] = some (cs (E ++ Z)))
    (h : ∀ (b : Nat) (w1 : World), Row w1 b 24 (cs (E ++ Z)) → Below w.heap.size w w1 → wpList Try.prog ops Q rest (a.put o.dst (.slice (some ⟨b, 0, none⟩) 2 2)) w1) : wpList Try.prog ops Q (o :: rest) a w :=
  Great.wpList_buildSliceTo hgd 28 24 2 _ ho w.heap.size rfl _ rfl Try.underlying28 (cs (E ++ Z)) (by simpa [hx, hy] using hB) (h _ _ (row_new w _ 24) ((Below.refl _ w).alloc (Nat.le_refl _) _))

theorem then_at (b : Nat) (L : List (List Int)) (D : List Int) (w : World) (h : Tbs w (some ⟨b, 0, none⟩) 2 L) (hD : thenL L ids = D) : Calls Try.prog 14 #[.slice (some ⟨b, 0, none⟩) 2 2] w (TabPost D w) := by
  subst hD
  exact then_any _ 2 2 L w h (by omega)

set_option maxRecDepth 100000 in
set_option maxHeartbeats 4000000 in
theorem law_back (A : Option Addr) (n c : Nat) (zs : List Int) (w : World) (h : IsRow .u8 w A n c zs) : Calls Try.prog 6 #[.slice A n c] w fun e w' => e = .returned (.bool true) ∧ Below w.heap.size w w' := by
  have CR := Lib.hid law_runs
  have HB := Lib.hid h.bytes.1; have NA := Lib.hid h.bytes.2; have AR := Lib.hid h.are
  have hm : n ≤ maxLen := Nat.le_trans HB.out.2.1 HB.out.2.2.1
  unfold maxLen at hm
  clear h
  generalize zs.take n = ys at HB AR
  by_cases hn : 1000 < n
  · go_enter Try.func6, Try.ntmps6
    go_wp2_with fail
    refine (CR.out _).mono ?_
    rintro e w1 ⟨rfl, k1⟩
    have K1 := Lib.hid k1
    clear k1
    go_wp2
    go_ret
    exact ⟨rfl, K1.out⟩
  · have CE := Lib.hid ebcdic_any; have CA := Lib.hid ascii_any
    have GE := Lib.hid (show Good tbE from good_tb false); have GA := Lib.hid good_asc; have GD := Lib.hid good_ids; have LD := Lib.hid len_ids
    have B1 := Lib.hid built_EA; have B2 := Lib.hid built_AE
    have T1 := Lib.hid then_EA; have T2 := Lib.hid then_AE
    have MD := Lib.hid (map_ids AR.out)
    have TH := Lib.hid then_at
    have XEQ : ∀ w, (binOp .eql 24 (tv ids) (tv ids)).run Try.prog w = .ok (.bool true) w := fun w => eql_tab w ids len_ids
    have XEG : ∀ w x y, (eqGuard .eql 24 x y (tv ids) (tv ids)).run Try.prog w = .ok () w := fun w x y => eqg_tab w x y ids ids
    have CT : Hid (∀ (b : Nat) (L : List (List Int)) (w : World), Tbs w (some ⟨b, 0, none⟩) 2 L → thenL L ids = ids → Calls Try.prog 14 #[.slice (some ⟨b, 0, none⟩) 2 2] w (TabPost ids w)) := fun b L w h hD => then_at b L ids w h hD
    clear TH
    generalize ids = D at *
    generalize tbE = E at *
    generalize tbA = Z at *
    go_enter Try.func6, Try.ntmps6
    go_wp2_with fail
    refine (CE.out _).mono ?_
    rintro e w1 ⟨rfl, k1⟩
    have K1 := Lib.hid k1
    clear k1
    go_wp2_with fail
    refine (CA.out _).mono ?_
    rintro e w2 ⟨rfl, k2⟩
    have K2 := Lib.hid (below_next K1.out k2)
    clear k2 K1
    go_wp2_with (refine st_two rfl _ _ rfl E Z rfl rfl B1.out ?_)
    intro g1 w2b rg kg
    have K3 := Lib.hid (below_next K2.out kg)
    have RG := Lib.hid rg
    clear kg rg
    go_wp2_with fail
    refine (CT.out g1 [E, Z] _ (tbs_two RG.out GE.out GA.out) T1.out).mono ?_
    rintro e w3 ⟨rfl, k3⟩
    have K4 := Lib.hid (below_next K3.out k3)
    clear k3 K3 K2
    go_wp2_with (refine st_alloc rfl rfl ?_)
    intro b3 w4 r4 k4 l3
    have hb3 : w.heap.size ≤ b3 := by have := K4.out.size; omega
    have K5 := Lib.hid (below_next K4.out k4)
    clear K4 k4 l3
    go_wp2_with (refine st_store rfl _ _ rfl b3 rfl _ rfl _ r4 len_zeros LD.out ?_)
    intro w5 r5 o5
    have R3 := Lib.hid r5
    have K6 := Lib.hid (K5.out.trans (o5.below K5.out.size (fun d hd => by rw [hd]; exact hb3)))
    clear r4 r5 o5 K5
    go_wp2_with fail
    refine (CA.out _).mono ?_
    rintro e w6 ⟨rfl, k1⟩
    have K7 := Lib.hid (below_next K6.out k1); have R3a := Lib.hid (R3.out.on k1)
    clear k1 K6 R3
    go_wp2_with fail
    refine (CE.out _).mono ?_
    rintro e w7 ⟨rfl, k1⟩
    have K8 := Lib.hid (below_next K7.out k1); have R3 := Lib.hid (R3a.out.on k1)
    clear k1 K7 R3a
    go_wp2_with (refine st_two rfl _ _ rfl Z E rfl rfl B2.out ?_)
    intro g2 w7b rg kg
    have K9 := Lib.hid (below_next K8.out kg); have R3a := Lib.hid (R3.out.on kg)
    have RG2 := Lib.hid rg
    clear kg rg K8 R3
    go_wp2_with fail
    refine (CT.out g2 [Z, E] _ (tbs_two RG2.out GA.out GE.out) T2.out).mono ?_
    rintro e w8 ⟨rfl, k3⟩
    have K10 := Lib.hid (below_next K9.out k3); have R3 := Lib.hid (R3a.out.on k3)
    clear k3 K9 R3a
    go_wp2_with (refine st_alloc rfl rfl ?_)
    intro b4 w9 r4 k4 l4
    have hb4 : b3 < b4 := by have := R3.out.lt; omega
    have K11 := Lib.hid (below_next K10.out k4); have R3a := Lib.hid (R3.out.on k4)
    clear K10 k4 l4 R3
    go_wp2_with (refine st_store rfl _ _ rfl b4 rfl _ rfl _ r4 len_zeros LD.out ?_)
    intro w10 r5 o5
    have R4 := Lib.hid r5; have R3 := Lib.hid (R3a.out.only o5 (by omega))
    have K12 := Lib.hid (K11.out.trans (o5.below K11.out.size (fun d hd => by rw [hd]; omega)))
    clear r4 r5 o5 K11 R3a
    go_wp2_with fail
    have hS : BackS w b3 b4 D A n c ys w10.drew := BackS.on ⟨R3.out, R4.out, HB.out.on K12.out, K12.out⟩ (Below.refl _ _).drew
    refine wp_region_held_drew (S := fun w' => BackS w b3 b4 D A n c ys w') (by kernel_rfl) hS (fun hHeld => ?_)
    clear hS R3 R4 K12
    show wpAnyH _ _ _ _ _ 25 _ _ _
    refine take_tab 0 17 (fuel := 24) _ b3 D rfl rfl (by kernel_rfl) (by kernel_rfl) (by kernel_rfl) (fun _ _ _ h => h) (by rfl) hHeld rfl rfl (fun _ h => h.1) LD.out ?_
    simp only [Act.put, List.setIfInBounds_toArray, List.set_cons_zero, List.set_cons_succ]
    refine take_at 1 18 (v := ?vb1) (fuel := 23) rfl rfl (by kernel_rfl) (by kernel_rfl) (by kernel_rfl) (fun _ _ _ h => h) (by rfl) hHeld ?hyb1 ?restb1
    case hyb1 => (intro w' hSw; (try dsimp only at hSw); go_simp <;> with_reducible rfl)
    simp only [Act.put, List.setIfInBounds_toArray, List.set_cons_zero, List.set_cons_succ]
    refine take_at 4 21 (v := ?vb4) (fuel := 22) rfl rfl (by kernel_rfl) (by kernel_rfl) (by kernel_rfl) (fun _ _ _ h => h) (by rfl) hHeld ?hyb4 ?restb4
    case hyb4 => (intro w' hSw; (try dsimp only at hSw); go_simp <;> with_reducible rfl)
    simp only [Act.put, List.setIfInBounds_toArray, List.set_cons_zero, List.set_cons_succ]
    refine take_text 5 22 (fuel := 21) _ A n c ys rfl rfl (by kernel_rfl) (by kernel_rfl) (by kernel_rfl) (fun _ _ _ h => h) (by rfl) hHeld rfl rfl (fun _ h => h.2.2.1) NA.out ?_
    simp only [Act.put, List.setIfInBounds_toArray, List.set_cons_zero, List.set_cons_succ]
    refine wpAnyH_ready (rs := [2]) (fuel := 20) (by kernel_rfl) (by simp) ?_
    refine AllReadyH.cons rfl (fun K hK => ?_) AllReadyH.nil
    go_simp
    refine (map_at D A n c ys ys _ GD.out hHeld.2.2.1 AR.out (by omega) MD.out).mono ?_
    rintro e w9 ⟨A1, c1, rfl, q1, n1, k1⟩
    have N1 := Lib.hid n1; clear n1
    go_simp
    refine hK.out _ _ (BackS.on hHeld k1) (fun hH1 => ?_)
    refine wpAnyH_more (S' := fun w' => BackS w b3 b4 D A n c ys w' ∧ Bytes w' A1 ys.length c1 ys) (fun _ h => h.1) _ _ _ _ ?_
    have hH2 := (show BackS w b3 b4 D A n c ys w9 ∧ Bytes w9 A1 ys.length c1 ys from ⟨hH1, q1⟩)
    clear hK K hHeld hH1 q1 k1
    (try simp only [Act.put, List.setIfInBounds_toArray, List.set_cons_zero, List.set_cons_succ])
    refine take_text 3 20 (fuel := 19) _ A1 ys.length c1 ys rfl rfl (by kernel_rfl) (by kernel_rfl) (by kernel_rfl) (fun _ _ _ h => h) (by rfl) hH2 rfl rfl (fun _ h => h.2) N1.out ?_
    simp only [Act.put, List.setIfInBounds_toArray, List.set_cons_zero, List.set_cons_succ]
    refine take_at 6 23 (v := ?vb6) (fuel := 18) rfl rfl (by kernel_rfl) (by kernel_rfl) (by kernel_rfl) (fun _ _ _ h => h) (by rfl) hH2 ?hyb6 ?restb6
    case hyb6 => (intro w' hSw; (try dsimp only at hSw); go_simp <;> with_reducible rfl)
    simp only [Act.put, List.setIfInBounds_toArray, List.set_cons_zero, List.set_cons_succ]
    refine take_at 7 24 (v := ?vb7) (fuel := 17) rfl rfl (by kernel_rfl) (by kernel_rfl) (by kernel_rfl) (fun _ _ _ h => h) (by rfl) hH2 ?hyb7 ?restb7
    case hyb7 => (intro w' hSw; (try dsimp only at hSw); go_simp <;> with_reducible rfl)
    simp only [Act.put, List.setIfInBounds_toArray, List.set_cons_zero, List.set_cons_succ]
    refine take_tab 8 25 (fuel := 16) _ b4 D rfl rfl (by kernel_rfl) (by kernel_rfl) (by kernel_rfl) (fun _ _ _ h => h) (by rfl) hH2 rfl rfl (fun _ h => h.1.2.1) LD.out ?_
    simp only [Act.put, List.setIfInBounds_toArray, List.set_cons_zero, List.set_cons_succ]
    refine take_at 9 26 (v := ?vb9) (fuel := 15) rfl rfl (by kernel_rfl) (by kernel_rfl) (by kernel_rfl) (fun _ _ _ h => h) (by rfl) hH2 ?hyb9 ?restb9
    case hyb9 => (intro w' hSw; (try dsimp only at hSw); go_simp <;> with_reducible rfl)
    simp only [Act.put, List.setIfInBounds_toArray, List.set_cons_zero, List.set_cons_succ]
    refine take_at 12 29 (v := ?vb12) (fuel := 14) rfl rfl (by kernel_rfl) (by kernel_rfl) (by kernel_rfl) (fun _ _ _ h => h) (by rfl) hH2 ?hyb12 ?restb12
    case hyb12 => (intro w' hSw; (try dsimp only at hSw); go_simp <;> with_reducible rfl)
    simp only [Act.put, List.setIfInBounds_toArray, List.set_cons_zero, List.set_cons_succ]
    refine take_text 13 30 (fuel := 13) _ A n c ys rfl rfl (by kernel_rfl) (by kernel_rfl) (by kernel_rfl) (fun _ _ _ h => h) (by rfl) hH2 rfl rfl (fun _ h => h.1.2.2.1) NA.out ?_
    simp only [Act.put, List.setIfInBounds_toArray, List.set_cons_zero, List.set_cons_succ]
    refine wpAnyH_ready (rs := [10]) (fuel := 12) (by kernel_rfl) (by simp) ?_
    refine AllReadyH.cons rfl (fun K hK => ?_) AllReadyH.nil
    go_simp
    refine (map_at D A n c ys ys _ GD.out hH2.1.2.2.1 AR.out (by omega) MD.out).mono ?_
    rintro e w10 ⟨A2, c2, rfl, q1, n1, k1⟩
    have N2 := Lib.hid n1; clear n1
    go_simp
    refine hK.out _ _ ⟨BackS.on hH2.1 k1, hH2.2.on k1⟩ (fun hH3 => ?_)
    refine wpAnyH_more (S' := fun w' => (BackS w b3 b4 D A n c ys w' ∧ Bytes w' A1 ys.length c1 ys) ∧ Bytes w' A2 ys.length c2 ys) (fun _ h => h.1) _ _ _ _ ?_
    have hH4 := (show (BackS w b3 b4 D A n c ys w10 ∧ Bytes w10 A1 ys.length c1 ys) ∧ Bytes w10 A2 ys.length c2 ys from ⟨hH3, q1⟩)
    clear hK K hH2 hH3 q1 k1
    (try simp only [Act.put, List.setIfInBounds_toArray, List.set_cons_zero, List.set_cons_succ])
    refine take_text 11 28 (fuel := 11) _ A2 ys.length c2 ys rfl rfl (by kernel_rfl) (by kernel_rfl) (by kernel_rfl) (fun _ _ _ h => h) (by rfl) hH4 rfl rfl (fun _ h => h.2) N2.out ?_
    simp only [Act.put, List.setIfInBounds_toArray, List.set_cons_zero, List.set_cons_succ]
    refine take_at 14 31 (v := ?vb14) (fuel := 10) rfl rfl (by kernel_rfl) (by kernel_rfl) (by kernel_rfl) (fun _ _ _ h => h) (by rfl) hH4 ?hyb14 ?restb14
    case hyb14 => (intro w' hSw; (try dsimp only at hSw); go_simp <;> with_reducible rfl)
    simp only [Act.put, List.setIfInBounds_toArray, List.set_cons_zero, List.set_cons_succ]
    refine take_at 15 32 (v := ?vb15) (fuel := 9) rfl rfl (by kernel_rfl) (by kernel_rfl) (by kernel_rfl) (fun _ _ _ h => h) (by rfl) hH4 ?hyb15 ?restb15
    case hyb15 => (intro w' hSw; (try dsimp only at hSw); go_simp <;> with_reducible rfl)
    simp only [Act.put, List.setIfInBounds_toArray, List.set_cons_zero, List.set_cons_succ]
    refine take_at 16 33 (v := ?vb16) (fuel := 8) rfl rfl (by kernel_rfl) (by kernel_rfl) (by kernel_rfl) (fun _ _ _ h => h) (by rfl) hH4 ?hyb16 ?restb16
    case hyb16 => (intro w' hSw; (try dsimp only at hSw); go_simp <;> with_reducible rfl)
    simp only [Act.put, List.setIfInBounds_toArray, List.set_cons_zero, List.set_cons_succ]
    refine take_tab 17 34 (fuel := 7) _ b3 D rfl rfl (by kernel_rfl) (by kernel_rfl) (by kernel_rfl) (fun _ _ _ h => h) (by rfl) hH4 rfl rfl (fun _ h => h.1.1.1) LD.out ?_
    simp only [Act.put, List.setIfInBounds_toArray, List.set_cons_zero, List.set_cons_succ]
    refine take_tab 18 35 (fuel := 6) _ b4 D rfl rfl (by kernel_rfl) (by kernel_rfl) (by kernel_rfl) (fun _ _ _ h => h) (by rfl) hH4 rfl rfl (fun _ h => h.1.1.2.1) LD.out ?_
    simp only [Act.put, List.setIfInBounds_toArray, List.set_cons_zero, List.set_cons_succ]
    refine take_at 19 36 (v := ?vb19) (fuel := 5) rfl rfl (by kernel_rfl) (by kernel_rfl) (by kernel_rfl) (fun _ _ _ h => h) (by rfl) hH4 ?hyb19 ?restb19
    case hyb19 => (intro w' hSw; (try dsimp only at hSw); go_simp <;> with_reducible rfl)
    simp only [Act.put, List.setIfInBounds_toArray, List.set_cons_zero, List.set_cons_succ]
    refine take_at 20 37 (v := ?vb20) (fuel := 4) rfl rfl (by kernel_rfl) (by kernel_rfl) (by kernel_rfl) (fun _ _ _ h => h) (by rfl) hH4 ?hyb20 ?restb20
    case hyb20 => (intro w' hSw; (try dsimp only at hSw); go_simp <;> with_reducible rfl)
    simp only [Act.put, List.setIfInBounds_toArray, List.set_cons_zero, List.set_cons_succ]
    refine take_at 21 38 (v := ?vb21) (fuel := 3) rfl rfl (by kernel_rfl) (by kernel_rfl) (by kernel_rfl) (fun _ _ _ h => h) (by rfl) hH4 ?hyb21 ?restb21
    case hyb21 => (intro w' hSw; (try dsimp only at hSw); go_simp <;> with_reducible rfl)
    simp only [Act.put, List.setIfInBounds_toArray, List.set_cons_zero, List.set_cons_succ]
    refine wpAnyH_ready (rs := [22]) (fuel := 2) (by kernel_rfl) (by simp) ?_
    refine AllReadyH.cons rfl (fun K hK => ?_) AllReadyH.nil
    go_simp
    refine (CR.out _).mono ?_
    rintro e w11 ⟨rfl, k1⟩
    go_simp
    refine hK.out _ _ ⟨⟨BackS.on hH4.1.1 k1, hH4.1.2.on k1⟩, hH4.2.on k1⟩ (fun hH5 => ?_)
    clear hK K hH4 k1
    (try simp only [Act.put, List.setIfInBounds_toArray, List.set_cons_zero, List.set_cons_succ])
    refine take_at 23 40 (v := ?vb23) (fuel := 1) rfl rfl (by kernel_rfl) (by kernel_rfl) (by kernel_rfl) (fun _ _ _ h => h) (by rfl) hH5 ?hyb23 ?restb23
    case hyb23 => (intro w' hSw; (try dsimp only at hSw); go_simp <;> with_reducible rfl)
    simp only [Act.put, List.setIfInBounds_toArray, List.set_cons_zero, List.set_cons_succ]
    refine take_at 24 2 (v := ?vb24) (fuel := 0) rfl rfl (by kernel_rfl) (by kernel_rfl) (by kernel_rfl) (fun _ _ _ h => h) (by rfl) hH5 ?hyb24 ?restb24
    case hyb24 => (intro w' hSw; (try dsimp only at hSw); go_simp <;> with_reducible rfl)
    simp only [Act.put, List.setIfInBounds_toArray, List.set_cons_zero, List.set_cons_succ]
    refine wpAnyH_done (by kernel_rfl) ?_ _
    have KF := Lib.hid hH5.1.1.2.2.2
    clear hH5
    go_wp2
    go_ret
    exact ⟨rfl, KF.out⟩

end Go.Proofs.Ytoccnhajfmkpoaa
