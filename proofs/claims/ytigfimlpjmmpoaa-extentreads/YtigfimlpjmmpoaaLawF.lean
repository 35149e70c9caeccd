/- Contract of the law ExtentReads. -/
import Derived.Test.YtigfimlpjmmpoaaLawR
import Derived.Test.YtigfimlpjmmpoaaLawB
import Derived.Test.YtigfimlpjmmpoaaRefC
import Derived.Test.YtigfimlpjmmpoaaRefB
import Derived.Test.YtigfimlpjmmpoaaWalksC
import Derived.WalkKit
import Derived.WalkSpells
import Derived.WalkLawsBesides
import Derived.Lib.Hide
import Derived.BigQuiet
import Derived.Test.YtigfimlpjmmpoaaRegionBy
import Derived.OpenShut
namespace Go.Proofs.Ytigfimlpjmmpoaa
open Go.RowKit

/-- The two contents of the law, in their variables. -/
structure Pair (w W : World) (s : Int) (A : Option Addr) (n c : Nat) (L : List Ex) (s' : Int) (A' : Option Addr) (n' c' : Nat) (M : List Ex) : Prop where
  k : Below w.heap.size w W
  b : Box W w.heap.size s A n c
  d : Box W (w.heap.size + 1) s' A' n' c'
  x : Exts W A n c L
  y : Exts W A' n' c' M
theorem Pair.on {w W W' : World} {s : Int} {A : Option Addr} {n c : Nat} {L : List Ex} {s' : Int} {A' : Option Addr} {n' c' : Nat} {M : List Ex} (h : Pair w W s A n c L s' A' n' c' M) (k : Below W.heap.size W W') : Pair w W' s A n c L s' A' n' c' M :=
  ⟨h.k.trans (k.mono h.k.size), h.b.on k, h.d.on k, h.x.on k, h.y.on k⟩
theorem pair_new {w : World} {s : Int} {A : Option Addr} {n c : Nat} {L : List Ex} {s' : Int} {A' : Option Addr} {n' c' : Nat} {M : List Ex} (h : Exts w A n c L) (h' : Exts w A' n' c' M) :
    Pair w ((w.alloc (.cells #[.int .i64 s, .slice A n c] 24)).alloc (.cells #[.int .i64 s', .slice A' n' c'] 24)) s A n c L s' A' n' c' M := by
  have k : Below w.heap.size w ((w.alloc (.cells #[.int .i64 s, .slice A n c] 24)).alloc (.cells #[.int .i64 s', .slice A' n' c'] 24)) := ((Below.refl _ _).alloc (Nat.le_refl _) _).alloc (by simp) _
  refine ⟨k, (box_new w s A n c).on ((Below.refl _ _).alloc (Nat.le_refl _) _), ?_, h.on k, h'.on k⟩
  have := box_new (w.alloc (.cells #[.int .i64 s, .slice A n c] 24)) s' A' n' c'
  simpa using this

set_option maxRecDepth 100000 in
set_option maxHeartbeats 8000000 in
theorem reads_le (s : Int) (A : Option Addr) (n c : Nat) (L : List Ex) (s' : Int) (A' : Option Addr) (n' c' : Nat) (M : List Ex) (p k : Int) (w : World) (h : Exts w A n c L) (h' : Exts w A' n' c' M) (bp : -9223372036854775808 ≤ p ∧ p ≤ 9223372036854775807) (g : n ≤ 60) (g' : n' ≤ 60) (hk : k ≤ 600) :
    Calls Try.prog 4 #[ct s A n c, ct s' A' n' c', .int .i64 p, .int .i64 k] w (TruthPost true w) := by
  have P0 := Lib.hid (pair_new (s := s) (s' := s') h h')
  have b0 := P0.out.b.c0; have b1 := P0.out.b.c1; have d0 := P0.out.d.c0; have d1 := P0.out.d.c1
  clear h h'
  show Calls Try.prog 4 #[.agg #[.int .i64 s, .slice A n c], .agg #[.int .i64 s', .slice A' n' c'], .int .i64 p, .int .i64 k] w _
  go_enter Try.func4, Try.ntmps4
  obtain ⟨dd, hdd⟩ : ∃ d, dat s L p = d := ⟨_, rfl⟩
  obtain ⟨uu, huu⟩ : ∃ d, hol s L p = d := ⟨_, rfl⟩
  obtain ⟨y, hy⟩ : ∃ y, may s L = y := ⟨_, rfl⟩
  obtain ⟨z, hz⟩ : ∃ z, (decide (s = s') && decide (L = M)) = z := ⟨_, rfl⟩
  obtain ⟨zs, hzs⟩ : ∃ zs, rd s L p k = zs := ⟨_, rfl⟩
  have HD := Lib.hid hdd; have HU := Lib.hid huu; have HY := Lib.hid hy; have HZ := Lib.hid hz; have HS := Lib.hid hzs
  clear hdd huu hy hz hzs
  go_wp2_with fail
  refine (few_any s A n c _).mono ?_
  rintro e w1 ⟨rfl, k1⟩
  have P1 := Lib.hid (P0.out.on k1)
  clear k1 b0 b1 d0 d1
  have b0 := P1.out.b.c0; have b1 := P1.out.b.c1; have d0 := P1.out.d.c0; have d1 := P1.out.d.c1
  rw [show decide (n ≤ 60) = true from decide_eq_true g]
  go_wp2_with fail
  refine (few_any s' A' n' c' _).mono ?_
  rintro e w2 ⟨rfl, k2⟩
  have P2 := Lib.hid (P1.out.on k2)
  clear k2 b0 b1 d0 d1
  have b0 := P2.out.b.c0; have b1 := P2.out.b.c1; have d0 := P2.out.d.c0; have d1 := P2.out.d.c1
  rw [show decide (n' ≤ 60) = true from decide_eq_true g']
  go_wp2_with fail
  refine (data_any s A n c L p w2 P2.out.x (by omega) bp.1 bp.2 dd HD.out).mono ?_
  rintro e w3 ⟨rfl, k3⟩
  have P3 := Lib.hid (P2.out.on k3)
  clear k3 b0 b1 d0 d1
  have b0 := P3.out.b.c0; have b1 := P3.out.b.c1; have d0 := P3.out.d.c0; have d1 := P3.out.d.c1
  go_wp2_with fail
  refine (rdata_any s A n c L p w3 P3.out.x bp.1 bp.2 dd HD.out).mono ?_
  rintro e w4 ⟨rfl, k4⟩
  have P4 := Lib.hid (P3.out.on k4)
  clear k4 b0 b1 d0 d1
  have b0 := P4.out.b.c0; have b1 := P4.out.b.c1; have d0 := P4.out.d.c0; have d1 := P4.out.d.c1
  go_wp2_with fail
  refine (hole_any s A n c L p w4 P4.out.x (by omega) bp.1 bp.2 uu HU.out).mono ?_
  rintro e w5 ⟨rfl, k5⟩
  have P5 := Lib.hid (P4.out.on k5)
  clear k5 b0 b1 d0 d1
  have b0 := P5.out.b.c0; have b1 := P5.out.b.c1; have d0 := P5.out.d.c0; have d1 := P5.out.d.c1
  go_wp2_with fail
  refine (rhole_any s A n c L p w5 P5.out.x bp.1 bp.2 uu HU.out).mono ?_
  rintro e w6 ⟨rfl, k6⟩
  have P6 := Lib.hid (P5.out.on k6)
  clear k6 b0 b1 d0 d1
  have b0 := P6.out.b.c0; have b1 := P6.out.b.c1; have d0 := P6.out.d.c0; have d1 := P6.out.d.c1
  generalize dd.getD 0 = dv at *
  generalize dd.isSome = db at *
  generalize uu.getD 0 = uv at *
  generalize uu.isSome = ub at *
  have PD := Lib.hid (P6.out.on (Below.refl _ _).drew)
  have e1 : (y == y) = true := beq_self_eq_true y
  have e2 : (z == z) = true := beq_self_eq_true z
  have e3 : (db == db) = true := beq_self_eq_true db
  have e4 : (ub == ub) = true := beq_self_eq_true ub
  have hS : (fun w' : World => (Box w' w.heap.size s A n c ∧ Box w' (w.heap.size + 1) s' A' n' c')) w6.drew := ⟨PD.out.b, PD.out.d⟩
  go_wp2_with fail
  refine wp_region_held_drew (S := (fun w' : World => (Box w' w.heap.size s A n c ∧ Box w' (w.heap.size + 1) s' A' n' c'))) (by kernel_rfl) hS (fun hHeld => ?_)
  clear hS b0 b1 d0 d1
  show wpAnyH _ _ _ _ _ 51 _ _ _
  generalize w6.drew = W2 at *
  refine take_ct 0 58 (fuel := 50) _ w.heap.size s A n c rfl rfl (by kernel_rfl) (by kernel_rfl) (by kernel_rfl) (fun _ _ _ h => h) (by rfl) hHeld rfl rfl (fun _ h => h.1) ?_
  simp only [Act.put, List.setIfInBounds_toArray, List.set_cons_zero, List.set_cons_succ]
  refine take_ct 2 60 (fuel := 49) _ w.heap.size s A n c rfl rfl (by kernel_rfl) (by kernel_rfl) (by kernel_rfl) (fun _ _ _ h => h) (by rfl) hHeld rfl rfl (fun _ h => h.1) ?_
  simp only [Act.put, List.setIfInBounds_toArray, List.set_cons_zero, List.set_cons_succ]
  refine wpAnyH_ready (rs := [1]) (fuel := 48) (by kernel_rfl) (by simp) ?_
  refine AllReadyH.cons rfl (fun K hK => ?_) AllReadyH.nil
  go_simp
  refine (may_any s A n c L _ PD.out.x y HY.out).mono ?_
  rintro e v1 ⟨rfl, j1⟩
  have Q1 := Lib.hid (PD.out.on j1)
  go_simp
  refine hK.out _ _ ⟨Q1.out.b, Q1.out.d⟩ (fun hH1 => ?_)
  clear hK hHeld
  (try simp only [Act.put, List.setIfInBounds_toArray, List.set_cons_zero, List.set_cons_succ])
  refine wpAnyH_ready (rs := [3]) (fuel := 47) (by kernel_rfl) (by simp) ?_
  refine AllReadyH.cons rfl (fun K hK => ?_) AllReadyH.nil
  go_simp
  refine (rmay_any s A n c L _ Q1.out.x y HY.out).mono ?_
  rintro e v2 ⟨rfl, j2⟩
  have Q2 := Lib.hid (Q1.out.on j2)
  go_simp
  refine hK.out _ _ ⟨Q2.out.b, Q2.out.d⟩ (fun hH2 => ?_)
  clear hK hH1
  (try simp only [Act.put, List.setIfInBounds_toArray, List.set_cons_zero, List.set_cons_succ])
  refine take_at 4 62 (v := ?va4) (fuel := 46) rfl rfl (by kernel_rfl) (by kernel_rfl) (by kernel_rfl) (fun _ _ _ h => h) (by rfl) hH2 ?hya4 ?resta4
  case hya4 => (intro w' hSw; (try dsimp only at hSw); go_simp <;> with_reducible rfl)
  simp only [Act.put, List.setIfInBounds_toArray, List.set_cons_zero, List.set_cons_succ]
  refine take_at 5 63 (v := ?va5) (fuel := 45) rfl rfl (by kernel_rfl) (by kernel_rfl) (by kernel_rfl) (fun _ _ _ h => h) (by rfl) hH2 ?hya5 ?resta5
  case hya5 => (intro w' hSw; (try dsimp only at hSw); go_simp <;> with_reducible rfl)
  simp only [Act.put, List.setIfInBounds_toArray, List.set_cons_zero, List.set_cons_succ]
  refine take_ct 6 64 (fuel := 44) _ w.heap.size s A n c rfl rfl (by kernel_rfl) (by kernel_rfl) (by kernel_rfl) (fun _ _ _ h => h) (by rfl) hH2 rfl rfl (fun _ h => h.1) ?_
  simp only [Act.put, List.setIfInBounds_toArray, List.set_cons_zero, List.set_cons_succ]
  refine take_ct 7 65 (fuel := 43) _ (w.heap.size + 1) s' A' n' c' rfl rfl (by kernel_rfl) (by kernel_rfl) (by kernel_rfl) (fun _ _ _ h => h) (by rfl) hH2 rfl rfl (fun _ h => h.2) ?_
  simp only [Act.put, List.setIfInBounds_toArray, List.set_cons_zero, List.set_cons_succ]
  refine take_ct 9 67 (fuel := 42) _ w.heap.size s A n c rfl rfl (by kernel_rfl) (by kernel_rfl) (by kernel_rfl) (fun _ _ _ h => h) (by rfl) hH2 rfl rfl (fun _ h => h.1) ?_
  simp only [Act.put, List.setIfInBounds_toArray, List.set_cons_zero, List.set_cons_succ]
  refine take_ct 10 68 (fuel := 41) _ (w.heap.size + 1) s' A' n' c' rfl rfl (by kernel_rfl) (by kernel_rfl) (by kernel_rfl) (fun _ _ _ h => h) (by rfl) hH2 rfl rfl (fun _ h => h.2) ?_
  simp only [Act.put, List.setIfInBounds_toArray, List.set_cons_zero, List.set_cons_succ]
  refine wpAnyH_ready (rs := [8]) (fuel := 40) (by kernel_rfl) (by simp) ?_
  refine AllReadyH.cons rfl (fun K hK => ?_) AllReadyH.nil
  go_simp
  refine (same_any s A n c L s' A' n' c' M _ Q2.out.x Q2.out.y z HZ.out).mono ?_
  rintro e v3 ⟨rfl, j3⟩
  have Q3 := Lib.hid (Q2.out.on j3)
  go_simp
  refine hK.out _ _ ⟨Q3.out.b, Q3.out.d⟩ (fun hH3 => ?_)
  clear hK hH2
  (try simp only [Act.put, List.setIfInBounds_toArray, List.set_cons_zero, List.set_cons_succ])
  refine wpAnyH_ready (rs := [11]) (fuel := 39) (by kernel_rfl) (by simp) ?_
  refine AllReadyH.cons rfl (fun K hK => ?_) AllReadyH.nil
  go_simp
  refine (rsame_any s A n c L s' A' n' c' M _ Q3.out.x Q3.out.y z HZ.out).mono ?_
  rintro e v4 ⟨rfl, j4⟩
  have Q4 := Lib.hid (Q3.out.on j4)
  go_simp
  refine hK.out _ _ ⟨Q4.out.b, Q4.out.d⟩ (fun hH4 => ?_)
  clear hK hH3
  (try simp only [Act.put, List.setIfInBounds_toArray, List.set_cons_zero, List.set_cons_succ])
  refine take_at 12 70 (v := ?va12) (fuel := 38) rfl rfl (by kernel_rfl) (by kernel_rfl) (by kernel_rfl) (fun _ _ _ h => h) (by rfl) hH4 ?hya12 ?resta12
  case hya12 => (intro w' hSw; (try dsimp only at hSw); go_simp <;> with_reducible rfl)
  simp only [Act.put, List.setIfInBounds_toArray, List.set_cons_zero, List.set_cons_succ]
  refine take_at 13 71 (v := ?va13) (fuel := 37) rfl rfl (by kernel_rfl) (by kernel_rfl) (by kernel_rfl) (fun _ _ _ h => h) (by rfl) hH4 ?hya13 ?resta13
  case hya13 => (intro w' hSw; (try dsimp only at hSw); go_simp <;> with_reducible rfl)
  simp only [Act.put, List.setIfInBounds_toArray, List.set_cons_zero, List.set_cons_succ]
  refine take_at 14 72 (v := ?va14) (fuel := 36) rfl rfl (by kernel_rfl) (by kernel_rfl) (by kernel_rfl) (fun _ _ _ h => h) (by rfl) hH4 ?hya14 ?resta14
  case hya14 => (intro w' hSw; (try dsimp only at hSw); go_simp <;> with_reducible rfl)
  simp only [Act.put, List.setIfInBounds_toArray, List.set_cons_zero, List.set_cons_succ]
  refine take_ct 15 73 (fuel := 35) _ w.heap.size s A n c rfl rfl (by kernel_rfl) (by kernel_rfl) (by kernel_rfl) (fun _ _ _ h => h) (by rfl) hH4 rfl rfl (fun _ h => h.1) ?_
  simp only [Act.put, List.setIfInBounds_toArray, List.set_cons_zero, List.set_cons_succ]
  refine take_at 16 74 (v := ?va16) (fuel := 34) rfl rfl (by kernel_rfl) (by kernel_rfl) (by kernel_rfl) (fun _ _ _ h => h) (by rfl) hH4 ?hya16 ?resta16
  case hya16 => (intro w' hSw; (try dsimp only at hSw); go_simp <;> with_reducible rfl)
  simp only [Act.put, List.setIfInBounds_toArray, List.set_cons_zero, List.set_cons_succ]
  refine take_at 17 75 (v := ?va17) (fuel := 33) rfl rfl (by kernel_rfl) (by kernel_rfl) (by kernel_rfl) (fun _ _ _ h => h) (by rfl) hH4 ?hya17 ?resta17
  case hya17 => (intro w' hSw; (try dsimp only at hSw); go_simp <;> with_reducible rfl)
  simp only [Act.put, List.setIfInBounds_toArray, List.set_cons_zero, List.set_cons_succ]
  refine take_ct 20 78 (fuel := 32) _ w.heap.size s A n c rfl rfl (by kernel_rfl) (by kernel_rfl) (by kernel_rfl) (fun _ _ _ h => h) (by rfl) hH4 rfl rfl (fun _ h => h.1) ?_
  simp only [Act.put, List.setIfInBounds_toArray, List.set_cons_zero, List.set_cons_succ]
  refine take_at 21 79 (v := ?va21) (fuel := 31) rfl rfl (by kernel_rfl) (by kernel_rfl) (by kernel_rfl) (fun _ _ _ h => h) (by rfl) hH4 ?hya21 ?resta21
  case hya21 => (intro w' hSw; (try dsimp only at hSw); go_simp <;> with_reducible rfl)
  simp only [Act.put, List.setIfInBounds_toArray, List.set_cons_zero, List.set_cons_succ]
  refine take_at 22 80 (v := ?va22) (fuel := 30) rfl rfl (by kernel_rfl) (by kernel_rfl) (by kernel_rfl) (fun _ _ _ h => h) (by rfl) hH4 ?hya22 ?resta22
  case hya22 => (intro w' hSw; (try dsimp only at hSw); go_simp <;> with_reducible rfl)
  simp only [Act.put, List.setIfInBounds_toArray, List.set_cons_zero, List.set_cons_succ]
  refine wpAnyH_ready (rs := [18]) (fuel := 29) (by kernel_rfl) (by simp) ?_
  refine AllReadyH.cons rfl (fun K hK => ?_) AllReadyH.nil
  go_simp
  refine (read_any s A n c L p k _ Q4.out.x (by omega) bp.1 bp.2 zs HS.out).mono ?_
  rintro e v5 ⟨A5, c5, rfl, m5, j5⟩
  have Q5 := Lib.hid (Q4.out.on j5)
  have M5 := Lib.hid m5
  go_simp
  refine hK.out _ _ ⟨Q5.out.b, Q5.out.d⟩ (fun hH5 => ?_)
  refine wpAnyH_more (S' := fun w' => (Box w' w.heap.size s A n c ∧ Box w' (w.heap.size + 1) s' A' n' c') ∧ Nums .u8 w' A5 zs.length c5 zs) (fun _ h => h.1) _ _ _ _ ?_
  have hI5 := (show (fun w' : World => (Box w' w.heap.size s A n c ∧ Box w' (w.heap.size + 1) s' A' n' c') ∧ Nums .u8 w' A5 zs.length c5 zs) v5 from ⟨hH5, M5.out⟩)
  clear hK hH4 hH5 m5
  (try simp only [Act.put, List.setIfInBounds_toArray, List.set_cons_zero, List.set_cons_succ])
  refine take_text 19 77 (fuel := 28) _ A5 zs.length c5 zs rfl rfl (by kernel_rfl) (by kernel_rfl) (by kernel_rfl) (fun _ _ _ h => h) (by rfl) hI5 rfl rfl (fun _ h => h.2) ?_
  simp only [Act.put, List.setIfInBounds_toArray, List.set_cons_zero, List.set_cons_succ]
  refine wpAnyH_ready (rs := [23]) (fuel := 27) (by kernel_rfl) (by simp) ?_
  refine AllReadyH.cons rfl (fun K hK => ?_) AllReadyH.nil
  go_simp
  refine (rread_any s A n c L p k _ Q5.out.x bp.1 bp.2 zs HS.out).mono ?_
  rintro e v6 ⟨A6, c6, rfl, m6, j6⟩
  have Q6 := Lib.hid (Q5.out.on j6)
  have M6 := Lib.hid m6
  go_simp
  refine hK.out _ _ ⟨⟨Q6.out.b, Q6.out.d⟩, M5.out.on j6⟩ (fun hH6 => ?_)
  refine wpAnyH_more (S' := fun w' => ((Box w' w.heap.size s A n c ∧ Box w' (w.heap.size + 1) s' A' n' c') ∧ Nums .u8 w' A5 zs.length c5 zs) ∧ Nums .u8 w' A6 zs.length c6 zs) (fun _ h => h.1) _ _ _ _ ?_
  have hI6 := (show (fun w' : World => ((Box w' w.heap.size s A n c ∧ Box w' (w.heap.size + 1) s' A' n' c') ∧ Nums .u8 w' A5 zs.length c5 zs) ∧ Nums .u8 w' A6 zs.length c6 zs) v6 from ⟨hH6, M6.out⟩)
  clear hK hI5 hH6 m6
  (try simp only [Act.put, List.setIfInBounds_toArray, List.set_cons_zero, List.set_cons_succ])
  refine take_text 24 82 (fuel := 26) _ A6 zs.length c6 zs rfl rfl (by kernel_rfl) (by kernel_rfl) (by kernel_rfl) (fun _ _ _ h => h) (by rfl) hI6 rfl rfl (fun _ h => h.2) ?_
  simp only [Act.put, List.setIfInBounds_toArray, List.set_cons_zero, List.set_cons_succ]
  refine take_at 25 83 (v := ?va25) (fuel := 25) rfl rfl (by kernel_rfl) (by kernel_rfl) (by kernel_rfl) (fun _ _ _ h => h) (by rfl) hI6 ?hya25 ?resta25
  case hya25 => (intro w' hSw; (try dsimp only at hSw); go_simp <;> with_reducible rfl)
  simp only [Act.put, List.setIfInBounds_toArray, List.set_cons_zero, List.set_cons_succ]
  refine take_at 26 84 (v := ?va26) (fuel := 24) rfl rfl (by kernel_rfl) (by kernel_rfl) (by kernel_rfl) (fun _ _ _ h => h) (by rfl) hI6 ?hya26 ?resta26
  case hya26 => (intro w' hSw; (try dsimp only at hSw); go_simp <;> with_reducible rfl)
  simp only [Act.put, List.setIfInBounds_toArray, List.set_cons_zero, List.set_cons_succ]
  refine take_at 27 85 (v := ?va27) (fuel := 23) rfl rfl (by kernel_rfl) (by kernel_rfl) (by kernel_rfl) (fun _ _ _ h => h) (by rfl) hI6 ?hya27 ?resta27
  case hya27 => (intro w' hSw; (try dsimp only at hSw); go_simp <;> with_reducible rfl)
  simp only [Act.put, List.setIfInBounds_toArray, List.set_cons_zero, List.set_cons_succ]
  refine take_at 28 86 (v := ?va28) (fuel := 22) rfl rfl (by kernel_rfl) (by kernel_rfl) (by kernel_rfl) (fun _ _ _ h => h) (by rfl) hI6 ?hya28 ?resta28
  case hya28 => (intro w' hSw; (try dsimp only at hSw); go_simp <;> with_reducible rfl)
  simp only [Act.put, List.setIfInBounds_toArray, List.set_cons_zero, List.set_cons_succ]
  refine take_at 29 87 (v := ?va29) (fuel := 21) rfl rfl (by kernel_rfl) (by kernel_rfl) (by kernel_rfl) (fun _ _ _ h => h) (by rfl) hI6 ?hya29 ?resta29
  case hya29 => (intro w' hSw; (try dsimp only at hSw); go_simp <;> with_reducible rfl)
  simp only [Act.put, List.setIfInBounds_toArray, List.set_cons_zero, List.set_cons_succ]
  refine take_at 30 88 (v := ?va30) (fuel := 20) rfl rfl (by kernel_rfl) (by kernel_rfl) (by kernel_rfl) (fun _ _ _ h => h) (by rfl) hI6 ?hya30 ?resta30
  case hya30 => (intro w' hSw; (try dsimp only at hSw); go_simp <;> with_reducible rfl)
  simp only [Act.put, List.setIfInBounds_toArray, List.set_cons_zero, List.set_cons_succ]
  refine take_at 31 89 (v := ?va31) (fuel := 19) rfl rfl (by kernel_rfl) (by kernel_rfl) (by kernel_rfl) (fun _ _ _ h => h) (by rfl) hI6 ?hya31 ?resta31
  case hya31 => (intro w' hSw; (try dsimp only at hSw); go_simp <;> with_reducible rfl)
  simp only [Act.put, List.setIfInBounds_toArray, List.set_cons_zero, List.set_cons_succ]
  refine take_at 32 90 (v := ?va32) (fuel := 18) rfl rfl (by kernel_rfl) (by kernel_rfl) (by kernel_rfl) (fun _ _ _ h => h) (by rfl) hI6 ?hya32 ?resta32
  case hya32 => (intro w' hSw; (try dsimp only at hSw); go_simp <;> with_reducible rfl)
  simp only [Act.put, List.setIfInBounds_toArray, List.set_cons_zero, List.set_cons_succ]
  refine take_at 33 91 (v := ?va33) (fuel := 17) rfl rfl (by kernel_rfl) (by kernel_rfl) (by kernel_rfl) (fun _ _ _ h => h) (by rfl) hI6 ?hya33 ?resta33
  case hya33 => (intro w' hSw; (try dsimp only at hSw); go_simp <;> with_reducible rfl)
  simp only [Act.put, List.setIfInBounds_toArray, List.set_cons_zero, List.set_cons_succ]
  refine take_at 34 92 (v := ?va34) (fuel := 16) rfl rfl (by kernel_rfl) (by kernel_rfl) (by kernel_rfl) (fun _ _ _ h => h) (by rfl) hI6 ?hya34 ?resta34
  case hya34 => (intro w' hSw; (try dsimp only at hSw); go_simp <;> with_reducible rfl)
  simp only [Act.put, List.setIfInBounds_toArray, List.set_cons_zero, List.set_cons_succ]
  refine take_at 35 93 (v := ?va35) (fuel := 15) rfl rfl (by kernel_rfl) (by kernel_rfl) (by kernel_rfl) (fun _ _ _ h => h) (by rfl) hI6 ?hya35 ?resta35
  case hya35 => (intro w' hSw; (try dsimp only at hSw); go_simp <;> with_reducible rfl)
  simp only [Act.put, List.setIfInBounds_toArray, List.set_cons_zero, List.set_cons_succ]
  refine take_at 36 94 (v := ?va36) (fuel := 14) rfl rfl (by kernel_rfl) (by kernel_rfl) (by kernel_rfl) (fun _ _ _ h => h) (by rfl) hI6 ?hya36 ?resta36
  case hya36 => (intro w' hSw; (try dsimp only at hSw); go_simp <;> with_reducible rfl)
  simp only [Act.put, List.setIfInBounds_toArray, List.set_cons_zero, List.set_cons_succ]
  refine take_at 37 95 (v := ?va37) (fuel := 13) rfl rfl (by kernel_rfl) (by kernel_rfl) (by kernel_rfl) (fun _ _ _ h => h) (by rfl) hI6 ?hya37 ?resta37
  case hya37 => (intro w' hSw; (try dsimp only at hSw); go_simp <;> with_reducible rfl)
  simp only [Act.put, List.setIfInBounds_toArray, List.set_cons_zero, List.set_cons_succ]
  refine take_at 38 96 (v := ?va38) (fuel := 12) rfl rfl (by kernel_rfl) (by kernel_rfl) (by kernel_rfl) (fun _ _ _ h => h) (by rfl) hI6 ?hya38 ?resta38
  case hya38 => (intro w' hSw; (try dsimp only at hSw); go_simp <;> with_reducible rfl)
  simp only [Act.put, List.setIfInBounds_toArray, List.set_cons_zero, List.set_cons_succ]
  refine take_at 39 97 (v := ?va39) (fuel := 11) rfl rfl (by kernel_rfl) (by kernel_rfl) (by kernel_rfl) (fun _ _ _ h => h) (by rfl) hI6 ?hya39 ?resta39
  case hya39 => (intro w' hSw; (try dsimp only at hSw); go_simp <;> with_reducible rfl)
  simp only [Act.put, List.setIfInBounds_toArray, List.set_cons_zero, List.set_cons_succ]
  refine take_at 40 98 (v := ?va40) (fuel := 10) rfl rfl (by kernel_rfl) (by kernel_rfl) (by kernel_rfl) (fun _ _ _ h => h) (by rfl) hI6 ?hya40 ?resta40
  case hya40 => (intro w' hSw; (try dsimp only at hSw); go_simp <;> with_reducible rfl)
  simp only [Act.put, List.setIfInBounds_toArray, List.set_cons_zero, List.set_cons_succ]
  refine take_at 41 99 (v := ?va41) (fuel := 9) rfl rfl (by kernel_rfl) (by kernel_rfl) (by kernel_rfl) (fun _ _ _ h => h) (by rfl) hI6 ?hya41 ?resta41
  case hya41 => (intro w' hSw; (try dsimp only at hSw); go_simp <;> with_reducible rfl)
  simp only [Act.put, List.setIfInBounds_toArray, List.set_cons_zero, List.set_cons_succ]
  refine take_at 42 100 (v := ?va42) (fuel := 8) rfl rfl (by kernel_rfl) (by kernel_rfl) (by kernel_rfl) (fun _ _ _ h => h) (by rfl) hI6 ?hya42 ?resta42
  case hya42 => (intro w' hSw; (try dsimp only at hSw); go_simp <;> with_reducible rfl)
  simp only [Act.put, List.setIfInBounds_toArray, List.set_cons_zero, List.set_cons_succ]
  refine take_at 43 101 (v := ?va43) (fuel := 7) rfl rfl (by kernel_rfl) (by kernel_rfl) (by kernel_rfl) (fun _ _ _ h => h) (by rfl) hI6 ?hya43 ?resta43
  case hya43 => (intro w' hSw; (try dsimp only at hSw); go_simp <;> with_reducible rfl)
  simp only [Act.put, List.setIfInBounds_toArray, List.set_cons_zero, List.set_cons_succ]
  refine take_at 44 102 (v := ?va44) (fuel := 6) rfl rfl (by kernel_rfl) (by kernel_rfl) (by kernel_rfl) (fun _ _ _ h => h) (by rfl) hI6 ?hya44 ?resta44
  case hya44 => (intro w' hSw; (try dsimp only at hSw); go_simp <;> with_reducible rfl)
  simp only [Act.put, List.setIfInBounds_toArray, List.set_cons_zero, List.set_cons_succ]
  refine take_at 45 103 (v := ?va45) (fuel := 5) rfl rfl (by kernel_rfl) (by kernel_rfl) (by kernel_rfl) (fun _ _ _ h => h) (by rfl) hI6 ?hya45 ?resta45
  case hya45 => (intro w' hSw; (try dsimp only at hSw); go_simp <;> with_reducible rfl)
  simp only [Act.put, List.setIfInBounds_toArray, List.set_cons_zero, List.set_cons_succ]
  refine take_at 46 104 (v := ?va46) (fuel := 4) rfl rfl (by kernel_rfl) (by kernel_rfl) (by kernel_rfl) (fun _ _ _ h => h) (by rfl) hI6 ?hya46 ?resta46
  case hya46 => (intro w' hSw; (try dsimp only at hSw); go_simp <;> with_reducible rfl)
  simp only [Act.put, List.setIfInBounds_toArray, List.set_cons_zero, List.set_cons_succ]
  refine take_at 47 105 (v := ?va47) (fuel := 3) rfl rfl (by kernel_rfl) (by kernel_rfl) (by kernel_rfl) (fun _ _ _ h => h) (by rfl) hI6 ?hya47 ?resta47
  case hya47 => (intro w' hSw; (try dsimp only at hSw); go_simp <;> with_reducible rfl)
  simp only [Act.put, List.setIfInBounds_toArray, List.set_cons_zero, List.set_cons_succ]
  refine wpAnyH_ready (rs := [48]) (fuel := 2) (by kernel_rfl) (by simp) ?_
  refine AllReadyH.cons rfl (fun K hK => ?_) AllReadyH.nil
  go_simp
  refine (law_runs _).mono ?_
  rintro e v7 ⟨rfl, j7⟩
  have Q7 := Lib.hid (Q6.out.on j7)
  go_simp
  refine hK.out _ _ ⟨⟨⟨Q7.out.b, Q7.out.d⟩, M5.out.on (j6.trans (j7.mono j6.size))⟩, M6.out.on j7⟩ (fun hH7 => ?_)
  clear hK hI6
  (try simp only [Act.put, List.setIfInBounds_toArray, List.set_cons_zero, List.set_cons_succ])
  refine take_at 49 107 (v := ?va49) (fuel := 1) rfl rfl (by kernel_rfl) (by kernel_rfl) (by kernel_rfl) (fun _ _ _ h => h) (by rfl) hH7 ?hya49 ?resta49
  case hya49 => (intro w' hSw; (try dsimp only at hSw); go_simp <;> with_reducible rfl)
  simp only [Act.put, List.setIfInBounds_toArray, List.set_cons_zero, List.set_cons_succ]
  refine take_at 50 8 (v := ?va50) (fuel := 0) rfl rfl (by kernel_rfl) (by kernel_rfl) (by kernel_rfl) (fun _ _ _ h => h) (by rfl) hH7 ?hya50 ?resta50
  case hya50 => (intro w' hSw; (try dsimp only at hSw); go_simp <;> with_reducible rfl)
  simp only [Act.put, List.setIfInBounds_toArray, List.set_cons_zero, List.set_cons_succ]
  refine wpAnyH_done (by kernel_rfl) ?_ _
  go_wp2
  go_ret
  exact ⟨rfl, Q7.out.k⟩
set_option maxRecDepth 100000 in
set_option maxHeartbeats 8000000 in
theorem reads_gt (s : Int) (A : Option Addr) (n c : Nat) (L : List Ex) (s' : Int) (A' : Option Addr) (n' c' : Nat) (M : List Ex) (p k : Int) (w : World) (h : Exts w A n c L) (h' : Exts w A' n' c' M) (bp : -9223372036854775808 ≤ p ∧ p ≤ 9223372036854775807) (g : n ≤ 60) (g' : n' ≤ 60) (hk : 600 < k) (hk' : 4096 < k) :
    Calls Try.prog 4 #[ct s A n c, ct s' A' n' c', .int .i64 p, .int .i64 k] w (TruthPost true w) := by
  have P0 := Lib.hid (pair_new (s := s) (s' := s') h h')
  have b0 := P0.out.b.c0; have b1 := P0.out.b.c1; have d0 := P0.out.d.c0; have d1 := P0.out.d.c1
  clear h h'
  show Calls Try.prog 4 #[.agg #[.int .i64 s, .slice A n c], .agg #[.int .i64 s', .slice A' n' c'], .int .i64 p, .int .i64 k] w _
  go_enter Try.func4, Try.ntmps4
  obtain ⟨dd, hdd⟩ : ∃ d, dat s L p = d := ⟨_, rfl⟩
  obtain ⟨uu, huu⟩ : ∃ d, hol s L p = d := ⟨_, rfl⟩
  obtain ⟨y, hy⟩ : ∃ y, may s L = y := ⟨_, rfl⟩
  obtain ⟨z, hz⟩ : ∃ z, (decide (s = s') && decide (L = M)) = z := ⟨_, rfl⟩
  obtain ⟨zs, hzs⟩ : ∃ zs, rd s L p k = zs := ⟨_, rfl⟩
  have HD := Lib.hid hdd; have HU := Lib.hid huu; have HY := Lib.hid hy; have HZ := Lib.hid hz; have HS := Lib.hid hzs
  clear hdd huu hy hz hzs
  go_wp2_with fail
  refine (few_any s A n c _).mono ?_
  rintro e w1 ⟨rfl, k1⟩
  have P1 := Lib.hid (P0.out.on k1)
  clear k1 b0 b1 d0 d1
  have b0 := P1.out.b.c0; have b1 := P1.out.b.c1; have d0 := P1.out.d.c0; have d1 := P1.out.d.c1
  rw [show decide (n ≤ 60) = true from decide_eq_true g]
  go_wp2_with fail
  refine (few_any s' A' n' c' _).mono ?_
  rintro e w2 ⟨rfl, k2⟩
  have P2 := Lib.hid (P1.out.on k2)
  clear k2 b0 b1 d0 d1
  have b0 := P2.out.b.c0; have b1 := P2.out.b.c1; have d0 := P2.out.d.c0; have d1 := P2.out.d.c1
  rw [show decide (n' ≤ 60) = true from decide_eq_true g']
  go_wp2_with fail
  refine (data_any s A n c L p w2 P2.out.x (by omega) bp.1 bp.2 dd HD.out).mono ?_
  rintro e w3 ⟨rfl, k3⟩
  have P3 := Lib.hid (P2.out.on k3)
  clear k3 b0 b1 d0 d1
  have b0 := P3.out.b.c0; have b1 := P3.out.b.c1; have d0 := P3.out.d.c0; have d1 := P3.out.d.c1
  go_wp2_with fail
  refine (rdata_any s A n c L p w3 P3.out.x bp.1 bp.2 dd HD.out).mono ?_
  rintro e w4 ⟨rfl, k4⟩
  have P4 := Lib.hid (P3.out.on k4)
  clear k4 b0 b1 d0 d1
  have b0 := P4.out.b.c0; have b1 := P4.out.b.c1; have d0 := P4.out.d.c0; have d1 := P4.out.d.c1
  go_wp2_with fail
  refine (hole_any s A n c L p w4 P4.out.x (by omega) bp.1 bp.2 uu HU.out).mono ?_
  rintro e w5 ⟨rfl, k5⟩
  have P5 := Lib.hid (P4.out.on k5)
  clear k5 b0 b1 d0 d1
  have b0 := P5.out.b.c0; have b1 := P5.out.b.c1; have d0 := P5.out.d.c0; have d1 := P5.out.d.c1
  go_wp2_with fail
  refine (rhole_any s A n c L p w5 P5.out.x bp.1 bp.2 uu HU.out).mono ?_
  rintro e w6 ⟨rfl, k6⟩
  have P6 := Lib.hid (P5.out.on k6)
  clear k6 b0 b1 d0 d1
  have b0 := P6.out.b.c0; have b1 := P6.out.b.c1; have d0 := P6.out.d.c0; have d1 := P6.out.d.c1
  generalize dd.getD 0 = dv at *
  generalize dd.isSome = db at *
  generalize uu.getD 0 = uv at *
  generalize uu.isSome = ub at *
  have PD := Lib.hid (P6.out.on (Below.refl _ _).drew)
  have e1 : (y == y) = true := beq_self_eq_true y
  have e2 : (z == z) = true := beq_self_eq_true z
  have e3 : (db == db) = true := beq_self_eq_true db
  have e4 : (ub == ub) = true := beq_self_eq_true ub
  have hS : (fun w' : World => (Box w' w.heap.size s A n c ∧ Box w' (w.heap.size + 1) s' A' n' c')) w6.drew := ⟨PD.out.b, PD.out.d⟩
  go_wp2_with fail
  refine wp_region_held_drew (S := (fun w' : World => (Box w' w.heap.size s A n c ∧ Box w' (w.heap.size + 1) s' A' n' c'))) (by kernel_rfl) hS (fun hHeld => ?_)
  clear hS b0 b1 d0 d1
  show wpAnyH _ _ _ _ _ 51 _ _ _
  generalize w6.drew = W2 at *
  refine take_ct 0 58 (fuel := 50) _ w.heap.size s A n c rfl rfl (by kernel_rfl) (by kernel_rfl) (by kernel_rfl) (fun _ _ _ h => h) (by rfl) hHeld rfl rfl (fun _ h => h.1) ?_
  simp only [Act.put, List.setIfInBounds_toArray, List.set_cons_zero, List.set_cons_succ]
  refine take_ct 2 60 (fuel := 49) _ w.heap.size s A n c rfl rfl (by kernel_rfl) (by kernel_rfl) (by kernel_rfl) (fun _ _ _ h => h) (by rfl) hHeld rfl rfl (fun _ h => h.1) ?_
  simp only [Act.put, List.setIfInBounds_toArray, List.set_cons_zero, List.set_cons_succ]
  refine wpAnyH_ready (rs := [1]) (fuel := 48) (by kernel_rfl) (by simp) ?_
  refine AllReadyH.cons rfl (fun K hK => ?_) AllReadyH.nil
  go_simp
  refine (may_any s A n c L _ PD.out.x y HY.out).mono ?_
  rintro e v1 ⟨rfl, j1⟩
  have Q1 := Lib.hid (PD.out.on j1)
  go_simp
  refine hK.out _ _ ⟨Q1.out.b, Q1.out.d⟩ (fun hH1 => ?_)
  clear hK hHeld
  (try simp only [Act.put, List.setIfInBounds_toArray, List.set_cons_zero, List.set_cons_succ])
  refine wpAnyH_ready (rs := [3]) (fuel := 47) (by kernel_rfl) (by simp) ?_
  refine AllReadyH.cons rfl (fun K hK => ?_) AllReadyH.nil
  go_simp
  refine (rmay_any s A n c L _ Q1.out.x y HY.out).mono ?_
  rintro e v2 ⟨rfl, j2⟩
  have Q2 := Lib.hid (Q1.out.on j2)
  go_simp
  refine hK.out _ _ ⟨Q2.out.b, Q2.out.d⟩ (fun hH2 => ?_)
  clear hK hH1
  (try simp only [Act.put, List.setIfInBounds_toArray, List.set_cons_zero, List.set_cons_succ])
  refine take_at 4 62 (v := ?vb4) (fuel := 46) rfl rfl (by kernel_rfl) (by kernel_rfl) (by kernel_rfl) (fun _ _ _ h => h) (by rfl) hH2 ?hyb4 ?restb4
  case hyb4 => (intro w' hSw; (try dsimp only at hSw); go_simp <;> with_reducible rfl)
  simp only [Act.put, List.setIfInBounds_toArray, List.set_cons_zero, List.set_cons_succ]
  refine take_at 5 63 (v := ?vb5) (fuel := 45) rfl rfl (by kernel_rfl) (by kernel_rfl) (by kernel_rfl) (fun _ _ _ h => h) (by rfl) hH2 ?hyb5 ?restb5
  case hyb5 => (intro w' hSw; (try dsimp only at hSw); go_simp <;> with_reducible rfl)
  simp only [Act.put, List.setIfInBounds_toArray, List.set_cons_zero, List.set_cons_succ]
  refine take_ct 6 64 (fuel := 44) _ w.heap.size s A n c rfl rfl (by kernel_rfl) (by kernel_rfl) (by kernel_rfl) (fun _ _ _ h => h) (by rfl) hH2 rfl rfl (fun _ h => h.1) ?_
  simp only [Act.put, List.setIfInBounds_toArray, List.set_cons_zero, List.set_cons_succ]
  refine take_ct 7 65 (fuel := 43) _ (w.heap.size + 1) s' A' n' c' rfl rfl (by kernel_rfl) (by kernel_rfl) (by kernel_rfl) (fun _ _ _ h => h) (by rfl) hH2 rfl rfl (fun _ h => h.2) ?_
  simp only [Act.put, List.setIfInBounds_toArray, List.set_cons_zero, List.set_cons_succ]
  refine take_ct 9 67 (fuel := 42) _ w.heap.size s A n c rfl rfl (by kernel_rfl) (by kernel_rfl) (by kernel_rfl) (fun _ _ _ h => h) (by rfl) hH2 rfl rfl (fun _ h => h.1) ?_
  simp only [Act.put, List.setIfInBounds_toArray, List.set_cons_zero, List.set_cons_succ]
  refine take_ct 10 68 (fuel := 41) _ (w.heap.size + 1) s' A' n' c' rfl rfl (by kernel_rfl) (by kernel_rfl) (by kernel_rfl) (fun _ _ _ h => h) (by rfl) hH2 rfl rfl (fun _ h => h.2) ?_
  simp only [Act.put, List.setIfInBounds_toArray, List.set_cons_zero, List.set_cons_succ]
  refine wpAnyH_ready (rs := [8]) (fuel := 40) (by kernel_rfl) (by simp) ?_
  refine AllReadyH.cons rfl (fun K hK => ?_) AllReadyH.nil
  go_simp
  refine (same_any s A n c L s' A' n' c' M _ Q2.out.x Q2.out.y z HZ.out).mono ?_
  rintro e v3 ⟨rfl, j3⟩
  have Q3 := Lib.hid (Q2.out.on j3)
  go_simp
  refine hK.out _ _ ⟨Q3.out.b, Q3.out.d⟩ (fun hH3 => ?_)
  clear hK hH2
  (try simp only [Act.put, List.setIfInBounds_toArray, List.set_cons_zero, List.set_cons_succ])
  refine wpAnyH_ready (rs := [11]) (fuel := 39) (by kernel_rfl) (by simp) ?_
  refine AllReadyH.cons rfl (fun K hK => ?_) AllReadyH.nil
  go_simp
  refine (rsame_any s A n c L s' A' n' c' M _ Q3.out.x Q3.out.y z HZ.out).mono ?_
  rintro e v4 ⟨rfl, j4⟩
  have Q4 := Lib.hid (Q3.out.on j4)
  go_simp
  refine hK.out _ _ ⟨Q4.out.b, Q4.out.d⟩ (fun hH4 => ?_)
  clear hK hH3
  (try simp only [Act.put, List.setIfInBounds_toArray, List.set_cons_zero, List.set_cons_succ])
  refine take_at 12 70 (v := ?vb12) (fuel := 38) rfl rfl (by kernel_rfl) (by kernel_rfl) (by kernel_rfl) (fun _ _ _ h => h) (by rfl) hH4 ?hyb12 ?restb12
  case hyb12 => (intro w' hSw; (try dsimp only at hSw); go_simp <;> with_reducible rfl)
  simp only [Act.put, List.setIfInBounds_toArray, List.set_cons_zero, List.set_cons_succ]
  refine take_at 13 71 (v := ?vb13) (fuel := 37) rfl rfl (by kernel_rfl) (by kernel_rfl) (by kernel_rfl) (fun _ _ _ h => h) (by rfl) hH4 ?hyb13 ?restb13
  case hyb13 => (intro w' hSw; (try dsimp only at hSw); go_simp <;> with_reducible rfl)
  simp only [Act.put, List.setIfInBounds_toArray, List.set_cons_zero, List.set_cons_succ]
  refine take_at 14 72 (v := ?vb14) (fuel := 36) rfl rfl (by kernel_rfl) (by kernel_rfl) (by kernel_rfl) (fun _ _ _ h => h) (by rfl) hH4 ?hyb14 ?restb14
  case hyb14 => (intro w' hSw; (try dsimp only at hSw); go_simp <;> with_reducible rfl)
  simp only [Act.put, List.setIfInBounds_toArray, List.set_cons_zero, List.set_cons_succ]
  refine take_ct 15 73 (fuel := 35) _ w.heap.size s A n c rfl rfl (by kernel_rfl) (by kernel_rfl) (by kernel_rfl) (fun _ _ _ h => h) (by rfl) hH4 rfl rfl (fun _ h => h.1) ?_
  simp only [Act.put, List.setIfInBounds_toArray, List.set_cons_zero, List.set_cons_succ]
  refine take_at 16 74 (v := ?vb16) (fuel := 34) rfl rfl (by kernel_rfl) (by kernel_rfl) (by kernel_rfl) (fun _ _ _ h => h) (by rfl) hH4 ?hyb16 ?restb16
  case hyb16 => (intro w' hSw; (try dsimp only at hSw); go_simp <;> with_reducible rfl)
  simp only [Act.put, List.setIfInBounds_toArray, List.set_cons_zero, List.set_cons_succ]
  refine take_at 17 75 (v := ?vb17) (fuel := 33) rfl rfl (by kernel_rfl) (by kernel_rfl) (by kernel_rfl) (fun _ _ _ h => h) (by rfl) hH4 ?hyb17 ?restb17
  case hyb17 => (intro w' hSw; (try dsimp only at hSw); go_simp <;> with_reducible rfl)
  simp only [Act.put, List.setIfInBounds_toArray, List.set_cons_zero, List.set_cons_succ]
  refine take_ct 20 78 (fuel := 32) _ w.heap.size s A n c rfl rfl (by kernel_rfl) (by kernel_rfl) (by kernel_rfl) (fun _ _ _ h => h) (by rfl) hH4 rfl rfl (fun _ h => h.1) ?_
  simp only [Act.put, List.setIfInBounds_toArray, List.set_cons_zero, List.set_cons_succ]
  refine take_at 21 79 (v := ?vb21) (fuel := 31) rfl rfl (by kernel_rfl) (by kernel_rfl) (by kernel_rfl) (fun _ _ _ h => h) (by rfl) hH4 ?hyb21 ?restb21
  case hyb21 => (intro w' hSw; (try dsimp only at hSw); go_simp <;> with_reducible rfl)
  simp only [Act.put, List.setIfInBounds_toArray, List.set_cons_zero, List.set_cons_succ]
  refine take_at 22 80 (v := ?vb22) (fuel := 30) rfl rfl (by kernel_rfl) (by kernel_rfl) (by kernel_rfl) (fun _ _ _ h => h) (by rfl) hH4 ?hyb22 ?restb22
  case hyb22 => (intro w' hSw; (try dsimp only at hSw); go_simp <;> with_reducible rfl)
  simp only [Act.put, List.setIfInBounds_toArray, List.set_cons_zero, List.set_cons_succ]
  refine wpAnyH_ready (rs := [18]) (fuel := 29) (by kernel_rfl) (by simp) ?_
  refine AllReadyH.cons rfl (fun K hK => ?_) AllReadyH.nil
  go_simp
  refine (read_any s A n c L p k _ Q4.out.x (by omega) bp.1 bp.2 zs HS.out).mono ?_
  rintro e v5 ⟨A5, c5, rfl, m5, j5⟩
  have Q5 := Lib.hid (Q4.out.on j5)
  have M5 := Lib.hid m5
  go_simp
  refine hK.out _ _ ⟨Q5.out.b, Q5.out.d⟩ (fun hH5 => ?_)
  refine wpAnyH_more (S' := fun w' => (Box w' w.heap.size s A n c ∧ Box w' (w.heap.size + 1) s' A' n' c') ∧ Nums .u8 w' A5 zs.length c5 zs) (fun _ h => h.1) _ _ _ _ ?_
  have hI5 := (show (fun w' : World => (Box w' w.heap.size s A n c ∧ Box w' (w.heap.size + 1) s' A' n' c') ∧ Nums .u8 w' A5 zs.length c5 zs) v5 from ⟨hH5, M5.out⟩)
  clear hK hH4 hH5 m5
  (try simp only [Act.put, List.setIfInBounds_toArray, List.set_cons_zero, List.set_cons_succ])
  refine take_text 19 77 (fuel := 28) _ A5 zs.length c5 zs rfl rfl (by kernel_rfl) (by kernel_rfl) (by kernel_rfl) (fun _ _ _ h => h) (by rfl) hI5 rfl rfl (fun _ h => h.2) ?_
  simp only [Act.put, List.setIfInBounds_toArray, List.set_cons_zero, List.set_cons_succ]
  refine wpAnyH_ready (rs := [23]) (fuel := 27) (by kernel_rfl) (by simp) ?_
  refine AllReadyH.cons rfl (fun K hK => ?_) AllReadyH.nil
  go_simp
  refine (rread_any s A n c L p k _ Q5.out.x bp.1 bp.2 zs HS.out).mono ?_
  rintro e v6 ⟨A6, c6, rfl, m6, j6⟩
  have Q6 := Lib.hid (Q5.out.on j6)
  have M6 := Lib.hid m6
  go_simp
  refine hK.out _ _ ⟨⟨Q6.out.b, Q6.out.d⟩, M5.out.on j6⟩ (fun hH6 => ?_)
  refine wpAnyH_more (S' := fun w' => ((Box w' w.heap.size s A n c ∧ Box w' (w.heap.size + 1) s' A' n' c') ∧ Nums .u8 w' A5 zs.length c5 zs) ∧ Nums .u8 w' A6 zs.length c6 zs) (fun _ h => h.1) _ _ _ _ ?_
  have hI6 := (show (fun w' : World => ((Box w' w.heap.size s A n c ∧ Box w' (w.heap.size + 1) s' A' n' c') ∧ Nums .u8 w' A5 zs.length c5 zs) ∧ Nums .u8 w' A6 zs.length c6 zs) v6 from ⟨hH6, M6.out⟩)
  clear hK hI5 hH6 m6
  (try simp only [Act.put, List.setIfInBounds_toArray, List.set_cons_zero, List.set_cons_succ])
  refine take_text 24 82 (fuel := 26) _ A6 zs.length c6 zs rfl rfl (by kernel_rfl) (by kernel_rfl) (by kernel_rfl) (fun _ _ _ h => h) (by rfl) hI6 rfl rfl (fun _ h => h.2) ?_
  simp only [Act.put, List.setIfInBounds_toArray, List.set_cons_zero, List.set_cons_succ]
  refine take_at 25 83 (v := ?vb25) (fuel := 25) rfl rfl (by kernel_rfl) (by kernel_rfl) (by kernel_rfl) (fun _ _ _ h => h) (by rfl) hI6 ?hyb25 ?restb25
  case hyb25 => (intro w' hSw; (try dsimp only at hSw); go_simp <;> with_reducible rfl)
  simp only [Act.put, List.setIfInBounds_toArray, List.set_cons_zero, List.set_cons_succ]
  refine take_at 26 84 (v := ?vb26) (fuel := 24) rfl rfl (by kernel_rfl) (by kernel_rfl) (by kernel_rfl) (fun _ _ _ h => h) (by rfl) hI6 ?hyb26 ?restb26
  case hyb26 => (intro w' hSw; (try dsimp only at hSw); go_simp <;> with_reducible rfl)
  simp only [Act.put, List.setIfInBounds_toArray, List.set_cons_zero, List.set_cons_succ]
  refine take_at 27 85 (v := ?vb27) (fuel := 23) rfl rfl (by kernel_rfl) (by kernel_rfl) (by kernel_rfl) (fun _ _ _ h => h) (by rfl) hI6 ?hyb27 ?restb27
  case hyb27 => (intro w' hSw; (try dsimp only at hSw); go_simp <;> with_reducible rfl)
  simp only [Act.put, List.setIfInBounds_toArray, List.set_cons_zero, List.set_cons_succ]
  refine take_at 28 86 (v := ?vb28) (fuel := 22) rfl rfl (by kernel_rfl) (by kernel_rfl) (by kernel_rfl) (fun _ _ _ h => h) (by rfl) hI6 ?hyb28 ?restb28
  case hyb28 => (intro w' hSw; (try dsimp only at hSw); go_simp <;> with_reducible rfl)
  simp only [Act.put, List.setIfInBounds_toArray, List.set_cons_zero, List.set_cons_succ]
  refine take_at 29 87 (v := ?vb29) (fuel := 21) rfl rfl (by kernel_rfl) (by kernel_rfl) (by kernel_rfl) (fun _ _ _ h => h) (by rfl) hI6 ?hyb29 ?restb29
  case hyb29 => (intro w' hSw; (try dsimp only at hSw); go_simp <;> with_reducible rfl)
  simp only [Act.put, List.setIfInBounds_toArray, List.set_cons_zero, List.set_cons_succ]
  refine take_at 30 88 (v := ?vb30) (fuel := 20) rfl rfl (by kernel_rfl) (by kernel_rfl) (by kernel_rfl) (fun _ _ _ h => h) (by rfl) hI6 ?hyb30 ?restb30
  case hyb30 => (intro w' hSw; (try dsimp only at hSw); go_simp <;> with_reducible rfl)
  simp only [Act.put, List.setIfInBounds_toArray, List.set_cons_zero, List.set_cons_succ]
  refine take_at 31 89 (v := ?vb31) (fuel := 19) rfl rfl (by kernel_rfl) (by kernel_rfl) (by kernel_rfl) (fun _ _ _ h => h) (by rfl) hI6 ?hyb31 ?restb31
  case hyb31 => (intro w' hSw; (try dsimp only at hSw); go_simp <;> with_reducible rfl)
  simp only [Act.put, List.setIfInBounds_toArray, List.set_cons_zero, List.set_cons_succ]
  refine take_at 32 90 (v := ?vb32) (fuel := 18) rfl rfl (by kernel_rfl) (by kernel_rfl) (by kernel_rfl) (fun _ _ _ h => h) (by rfl) hI6 ?hyb32 ?restb32
  case hyb32 => (intro w' hSw; (try dsimp only at hSw); go_simp <;> with_reducible rfl)
  simp only [Act.put, List.setIfInBounds_toArray, List.set_cons_zero, List.set_cons_succ]
  refine take_at 33 91 (v := ?vb33) (fuel := 17) rfl rfl (by kernel_rfl) (by kernel_rfl) (by kernel_rfl) (fun _ _ _ h => h) (by rfl) hI6 ?hyb33 ?restb33
  case hyb33 => (intro w' hSw; (try dsimp only at hSw); go_simp <;> with_reducible rfl)
  simp only [Act.put, List.setIfInBounds_toArray, List.set_cons_zero, List.set_cons_succ]
  refine take_at 34 92 (v := ?vb34) (fuel := 16) rfl rfl (by kernel_rfl) (by kernel_rfl) (by kernel_rfl) (fun _ _ _ h => h) (by rfl) hI6 ?hyb34 ?restb34
  case hyb34 => (intro w' hSw; (try dsimp only at hSw); go_simp <;> with_reducible rfl)
  simp only [Act.put, List.setIfInBounds_toArray, List.set_cons_zero, List.set_cons_succ]
  refine take_at 35 93 (v := ?vb35) (fuel := 15) rfl rfl (by kernel_rfl) (by kernel_rfl) (by kernel_rfl) (fun _ _ _ h => h) (by rfl) hI6 ?hyb35 ?restb35
  case hyb35 => (intro w' hSw; (try dsimp only at hSw); go_simp <;> with_reducible rfl)
  simp only [Act.put, List.setIfInBounds_toArray, List.set_cons_zero, List.set_cons_succ]
  refine take_at 36 94 (v := ?vb36) (fuel := 14) rfl rfl (by kernel_rfl) (by kernel_rfl) (by kernel_rfl) (fun _ _ _ h => h) (by rfl) hI6 ?hyb36 ?restb36
  case hyb36 => (intro w' hSw; (try dsimp only at hSw); go_simp <;> with_reducible rfl)
  simp only [Act.put, List.setIfInBounds_toArray, List.set_cons_zero, List.set_cons_succ]
  refine take_at 37 95 (v := ?vb37) (fuel := 13) rfl rfl (by kernel_rfl) (by kernel_rfl) (by kernel_rfl) (fun _ _ _ h => h) (by rfl) hI6 ?hyb37 ?restb37
  case hyb37 => (intro w' hSw; (try dsimp only at hSw); go_simp <;> with_reducible rfl)
  simp only [Act.put, List.setIfInBounds_toArray, List.set_cons_zero, List.set_cons_succ]
  refine take_at 38 96 (v := ?vb38) (fuel := 12) rfl rfl (by kernel_rfl) (by kernel_rfl) (by kernel_rfl) (fun _ _ _ h => h) (by rfl) hI6 ?hyb38 ?restb38
  case hyb38 => (intro w' hSw; (try dsimp only at hSw); go_simp <;> with_reducible rfl)
  simp only [Act.put, List.setIfInBounds_toArray, List.set_cons_zero, List.set_cons_succ]
  refine take_at 39 97 (v := ?vb39) (fuel := 11) rfl rfl (by kernel_rfl) (by kernel_rfl) (by kernel_rfl) (fun _ _ _ h => h) (by rfl) hI6 ?hyb39 ?restb39
  case hyb39 => (intro w' hSw; (try dsimp only at hSw); go_simp <;> with_reducible rfl)
  simp only [Act.put, List.setIfInBounds_toArray, List.set_cons_zero, List.set_cons_succ]
  refine take_at 40 98 (v := ?vb40) (fuel := 10) rfl rfl (by kernel_rfl) (by kernel_rfl) (by kernel_rfl) (fun _ _ _ h => h) (by rfl) hI6 ?hyb40 ?restb40
  case hyb40 => (intro w' hSw; (try dsimp only at hSw); go_simp <;> with_reducible rfl)
  simp only [Act.put, List.setIfInBounds_toArray, List.set_cons_zero, List.set_cons_succ]
  refine take_at 41 99 (v := ?vb41) (fuel := 9) rfl rfl (by kernel_rfl) (by kernel_rfl) (by kernel_rfl) (fun _ _ _ h => h) (by rfl) hI6 ?hyb41 ?restb41
  case hyb41 => (intro w' hSw; (try dsimp only at hSw); go_simp <;> with_reducible rfl)
  simp only [Act.put, List.setIfInBounds_toArray, List.set_cons_zero, List.set_cons_succ]
  refine take_at 42 100 (v := ?vb42) (fuel := 8) rfl rfl (by kernel_rfl) (by kernel_rfl) (by kernel_rfl) (fun _ _ _ h => h) (by rfl) hI6 ?hyb42 ?restb42
  case hyb42 => (intro w' hSw; (try dsimp only at hSw); go_simp <;> with_reducible rfl)
  simp only [Act.put, List.setIfInBounds_toArray, List.set_cons_zero, List.set_cons_succ]
  refine take_at 43 101 (v := ?vb43) (fuel := 7) rfl rfl (by kernel_rfl) (by kernel_rfl) (by kernel_rfl) (fun _ _ _ h => h) (by rfl) hI6 ?hyb43 ?restb43
  case hyb43 => (intro w' hSw; (try dsimp only at hSw); go_simp <;> with_reducible rfl)
  simp only [Act.put, List.setIfInBounds_toArray, List.set_cons_zero, List.set_cons_succ]
  refine take_at 44 102 (v := ?vb44) (fuel := 6) rfl rfl (by kernel_rfl) (by kernel_rfl) (by kernel_rfl) (fun _ _ _ h => h) (by rfl) hI6 ?hyb44 ?restb44
  case hyb44 => (intro w' hSw; (try dsimp only at hSw); go_simp <;> with_reducible rfl)
  simp only [Act.put, List.setIfInBounds_toArray, List.set_cons_zero, List.set_cons_succ]
  refine take_at 45 103 (v := ?vb45) (fuel := 5) rfl rfl (by kernel_rfl) (by kernel_rfl) (by kernel_rfl) (fun _ _ _ h => h) (by rfl) hI6 ?hyb45 ?restb45
  case hyb45 => (intro w' hSw; (try dsimp only at hSw); go_simp <;> with_reducible rfl)
  simp only [Act.put, List.setIfInBounds_toArray, List.set_cons_zero, List.set_cons_succ]
  refine take_at 46 104 (v := ?vb46) (fuel := 4) rfl rfl (by kernel_rfl) (by kernel_rfl) (by kernel_rfl) (fun _ _ _ h => h) (by rfl) hI6 ?hyb46 ?restb46
  case hyb46 => (intro w' hSw; (try dsimp only at hSw); go_simp <;> with_reducible rfl)
  simp only [Act.put, List.setIfInBounds_toArray, List.set_cons_zero, List.set_cons_succ]
  refine take_at 47 105 (v := ?vb47) (fuel := 3) rfl rfl (by kernel_rfl) (by kernel_rfl) (by kernel_rfl) (fun _ _ _ h => h) (by rfl) hI6 ?hyb47 ?restb47
  case hyb47 => (intro w' hSw; (try dsimp only at hSw); go_simp <;> with_reducible rfl)
  simp only [Act.put, List.setIfInBounds_toArray, List.set_cons_zero, List.set_cons_succ]
  refine wpAnyH_ready (rs := [48]) (fuel := 2) (by kernel_rfl) (by simp) ?_
  refine AllReadyH.cons rfl (fun K hK => ?_) AllReadyH.nil
  go_simp
  refine (law_runs _).mono ?_
  rintro e v7 ⟨rfl, j7⟩
  have Q7 := Lib.hid (Q6.out.on j7)
  go_simp
  refine hK.out _ _ ⟨⟨⟨Q7.out.b, Q7.out.d⟩, M5.out.on (j6.trans (j7.mono j6.size))⟩, M6.out.on j7⟩ (fun hH7 => ?_)
  clear hK hI6
  (try simp only [Act.put, List.setIfInBounds_toArray, List.set_cons_zero, List.set_cons_succ])
  refine take_at 49 107 (v := ?vb49) (fuel := 1) rfl rfl (by kernel_rfl) (by kernel_rfl) (by kernel_rfl) (fun _ _ _ h => h) (by rfl) hH7 ?hyb49 ?restb49
  case hyb49 => (intro w' hSw; (try dsimp only at hSw); go_simp <;> with_reducible rfl)
  simp only [Act.put, List.setIfInBounds_toArray, List.set_cons_zero, List.set_cons_succ]
  refine take_at 50 8 (v := ?vb50) (fuel := 0) rfl rfl (by kernel_rfl) (by kernel_rfl) (by kernel_rfl) (fun _ _ _ h => h) (by rfl) hH7 ?hyb50 ?restb50
  case hyb50 => (intro w' hSw; (try dsimp only at hSw); go_simp <;> with_reducible rfl)
  simp only [Act.put, List.setIfInBounds_toArray, List.set_cons_zero, List.set_cons_succ]
  refine wpAnyH_done (by kernel_rfl) ?_ _
  go_wp2
  go_ret
  exact ⟨rfl, Q7.out.k⟩

set_option maxRecDepth 100000 in
set_option maxHeartbeats 8000000 in
theorem reads_runs (s : Int) (A : Option Addr) (n c : Nat) (L : List Ex) (s' : Int) (A' : Option Addr) (n' c' : Nat) (M : List Ex) (p k : Int) (w : World) (h : Exts w A n c L) (h' : Exts w A' n' c' M) (_ : -9223372036854775808 ≤ p ∧ p ≤ 9223372036854775807) (gg : ¬ (n ≤ 60 ∧ n' ≤ 60) ∨ (600 < k ∧ k ≤ 4096)) :
    Calls Try.prog 4 #[ct s A n c, ct s' A' n' c', .int .i64 p, .int .i64 k] w (TruthPost true w) := by
  have P0 := Lib.hid (pair_new (s := s) (s' := s') h h')
  have b0 := P0.out.b.c0; have b1 := P0.out.b.c1; have d0 := P0.out.d.c0; have d1 := P0.out.d.c1
  clear h h'
  show Calls Try.prog 4 #[.agg #[.int .i64 s, .slice A n c], .agg #[.int .i64 s', .slice A' n' c'], .int .i64 p, .int .i64 k] w _
  go_enter Try.func4, Try.ntmps4
  go_wp2_with fail
  refine (few_any s A n c _).mono ?_
  rintro e w1 ⟨rfl, k1⟩
  have P1 := Lib.hid (P0.out.on k1)
  clear k1 b0 b1 d0 d1
  have b0 := P1.out.b.c0; have b1 := P1.out.b.c1; have d0 := P1.out.d.c0; have d1 := P1.out.d.c1
  by_cases g : n ≤ 60
  · rw [show decide (n ≤ 60) = true from decide_eq_true g]
    go_wp2_with fail
    refine (few_any s' A' n' c' _).mono ?_
    rintro e w2 ⟨rfl, k2⟩
    have P2 := Lib.hid (P1.out.on k2)
    clear k2 b0 b1 d0 d1
    have b0 := P2.out.b.c0; have b1 := P2.out.b.c1; have d0 := P2.out.d.c0; have d1 := P2.out.d.c1
    by_cases g' : n' ≤ 60
    · rw [show decide (n' ≤ 60) = true from decide_eq_true g']
      obtain ⟨q1, q2⟩ : 600 < k ∧ k ≤ 4096 := gg.resolve_left (fun x => x ⟨g, g'⟩)
      go_wp2_with fail
      refine (law_runs _).mono ?_
      rintro e w9 ⟨rfl, k9⟩
      have K9 := Lib.hid (P2.out.k.trans (k9.mono P2.out.k.size))
      go_wp2
      go_ret
      exact ⟨rfl, K9.out⟩
    · rw [show decide (n' ≤ 60) = false from decide_eq_false g']
      go_wp2_with fail
      refine (law_runs _).mono ?_
      rintro e w9 ⟨rfl, k9⟩
      have K9 := Lib.hid (P2.out.k.trans (k9.mono P2.out.k.size))
      go_wp2
      go_ret
      exact ⟨rfl, K9.out⟩
  · rw [show decide (n ≤ 60) = false from decide_eq_false g]
    go_wp2_with fail
    refine (law_runs _).mono ?_
    rintro e w9 ⟨rfl, k9⟩
    have K9 := Lib.hid (P1.out.k.trans (k9.mono P1.out.k.size))
    go_wp2
    go_ret
    exact ⟨rfl, K9.out⟩

theorem law_reads (s : Int) (A : Option Addr) (n c : Nat) (L : List Ex) (s' : Int) (A' : Option Addr) (n' c' : Nat) (M : List Ex) (p k : Int) (w : World) (h : Exts w A n c L) (_ : (Lit.int .i64 s).wf = true) (h' : Exts w A' n' c' M) (_ : (Lit.int .i64 s').wf = true) (hp : (Lit.int .i64 p).wf = true) (_ : (Lit.int .i64 k).wf = true) :
    Calls Try.prog 4 #[ct s A n c, ct s' A' n' c', .int .i64 p, .int .i64 k] w (TruthPost true w) := by
  have bp := bounds_i64 hp
  by_cases g : n ≤ 60 ∧ n' ≤ 60
  · by_cases g1 : k ≤ 600
    · exact reads_le s A n c L s' A' n' c' M p k w h h' bp g.1 g.2 g1
    · by_cases g2 : 4096 < k
      · exact reads_gt s A n c L s' A' n' c' M p k w h h' bp g.1 g.2 (by omega) g2
      · exact reads_runs s A n c L s' A' n' c' M p k w h h' bp (.inr (by omega))
  · exact reads_runs s A n c L s' A' n' c' M p k w h h' bp (.inl g)
end Go.Proofs.Ytigfimlpjmmpoaa
