/- The law SwabPlays, walked. -/
import Derived.Test.YtjmbnjlicjicbaaRegionBy
import Derived.Test.YtjmbnjlicjicbaaWalksC
import Derived.WalkKit
import Derived.WalkSpells
import Derived.WalkLawsBesides
import Derived.Lib.Hide
import Derived.Deep.RegionHeld3
namespace Go.Proofs.Ytjmbnjlicjicbaa
open Go.RowKit

/-- The program's and the reference's, side by side. -/
structure Both (W w : World) (b r : Nat) (T : Nat → Prop) (on : Bool) (ks js : List Int) : Prop where
  f : Mine W w b on ks
  g : Fi w r T (.bool on) js
  new : ∀ d, T d → W.heap.size ≤ d
  apart : ¬ T b

theorem Both.fst {W w w' : World} {b r : Nat} {T : Nat → Prop} {on : Bool} {ks ks' js : List Int} (h : Both W w b r T on ks js) (f : Sw w' b on ks') (o : Only (fun d => d = b) w w') : Both W w' b r T on ks' js :=
  ⟨h.f.next f o, h.g.only o (fun _ hd he => h.apart (he ▸ hd)), h.new, h.apart⟩
theorem Both.snd {W w w' : World} {b r : Nat} {T T' : Nat → Prop} {on : Bool} {ks js js' : List Int} (h : Both W w b r T on ks js) (f : Fi w' r T' (.bool on) js') (o : Only T w w') (hs : ∀ d, T' d → T d ∨ w.heap.size ≤ d) : Both W w' b r T' on ks js' :=
  ⟨⟨h.f.sw.only o h.apart, h.f.new, h.f.below.trans (o.below h.f.below.size h.new)⟩, f, fun d hd => (hs d hd).elim (h.new d) (fun hl => Nat.le_trans h.f.below.size hl), fun hb => (hs b hb).elim h.apart (fun hl => by have := h.f.sw.lt; omega)⟩
theorem Both.on {W w w' : World} {b r : Nat} {T : Nat → Prop} {on : Bool} {ks js : List Int} (h : Both W w b r T on ks js) (k : Below w.heap.size w w') : Both W w' b r T on ks js :=
  ⟨h.f.on k, h.g.on k, h.new, h.apart⟩

theorem Fi.new (w : World) (k : Value) (t : TypeId) (o : Nat) (ho : o = w.heap.size) : Fi (w.alloc (.cells #[k, .slice none 0 0] t)) o (fun d => d = o) k [] := by
  subst ho
  have hb := heap_alloc_new w (.cells #[k, .slice none 0 0] t)
  refine ⟨rfl, fun d hd => by subst hd; simp, ?_, frozen_of_row _ _ _ _ t hb, none, 0, 0, ?_, Buf.nil _, fun g o s he => by cases he⟩
  · rw [cell_of_row _ _ _ _ t (0, 0) hb]; rfl
  · rw [cell_of_row _ _ _ _ t (0, 0) hb]; rfl

theorem both_new {W w : World} {b : Nat} {on : Bool} (t : TypeId) (h : Mine W w b on []) : Both W (w.alloc (.cells #[.bool on, .slice none 0 0] t)) b w.heap.size (fun d => d = w.heap.size) on [] [] :=
  ⟨h.on ((Below.refl _ _).alloc (Nat.le_refl _) _), Fi.new w _ t _ rfl, fun d hd => by have := h.below.size; omega, fun hb => by have := h.sw.lt; omega⟩

theorem hold1 {w w' : World} {lb p : Nat} {v : Value} (hb : lb < w.heap.size) (h1 : w.cell? ⟨lb, p, none⟩ = some v) (k : Below w.heap.size w w') : w'.cell? ⟨lb, p, none⟩ = some v ∧ Below w.heap.size w w' :=
  ⟨(k.cell (p := ⟨lb, p, none⟩) hb).trans h1, k⟩

set_option maxRecDepth 100000 in
set_option maxHeartbeats 8000000 in
theorem plays_walk (on : Bool) (A : Option Addr) (n c : Nat) (L : List El) (E : Option Addr) (en ec : Nat) (U : List Bool) (w : World) (hL : IsRows w A n L) (hU : IsBools w E en U) :
    Calls Try.prog 4 #[.bool on, .slice A n c, .slice E en ec] w fun e w' => e = .returned (.bool true) ∧ Below w.heap.size w w' := by
  obtain ⟨hm, hL⟩ := hL
  obtain ⟨he, hU⟩ := hU
  have HL := Lib.hid hL; have HU := Lib.hid hU
  clear hL hU
  have hm : n ≤ 9223372036854775807 := by unfold maxLen at hm; omega
  have he : en ≤ 9223372036854775807 := by unfold maxLen at he; omega
  go_enter Try.func4, Try.ntmps4
  go_wp2_with fail
  refine (few_any A n c L w HL.out hm).mono ?_
  rintro e w1 ⟨x, rfl, hx, rfl⟩
  cases x with
  | false =>
    go_wp2_with fail
    refine (law_runs _).mono ?_
    rintro e w2 ⟨rfl, k2⟩
    go_wp2
    go_ret
    exact ⟨rfl, k2⟩
  | true =>
    obtain ⟨hn60, htot⟩ := hx rfl
    rw [HL.out.len] at hn60
    have HT := Lib.hid htot
    clear hx htot
    go_wp2_with fail
    refine (new_any on _).mono ?_
    rintro e w1 ⟨b, rfl, F1, s1, k1⟩
    have B0 := Lib.hid (both_new 33 (show Mine w w1 b on [] from ⟨F1, s1, k1⟩))
    clear k1 F1 s1
    go_wp2
    generalize hr : w1.heap.size = r at *
    go_loopw [9] (fun i wr => ∃ (j : Nat) (T : Nat → Prop) (ks : List Int), j ≤ n ∧ i = .int .i64 j ∧ Hid (Both w wr b r T on ks ks)) (fun i _ => n - (intOf i).toNat)
    case atStart => exact ⟨0, _, [], Nat.zero_le _, rfl, B0.out⟩
    case round =>
     clear B0 hr
     obtain ⟨j, T, ks, hj, rfl, BB⟩ := hrel
     by_cases hlt : j < n
     · obtain ⟨lb, o, rfl, hlb, hc⟩ := HL.out.cells (by omega)
       have e1 := Lib.hid (hc j hlt)
       have hjl : j < L.length := by have := HL.out.len; omega
       have HX := Lib.hid (HL.out.ok j hlt)
       have HC := Lib.hid (cat_le L j hjl)
       clear hc hjl
       generalize L.getD j default = x at *
       obtain ⟨xa, xn, xc, xz⟩ := x
       simp only at e1 HC
       have hxn : xn ≤ 3000 := by have := HX.out.bytes.1; have := HC.out; have := HT.out; simp only at *; omega
       obtain ⟨o2, ho2⟩ : ∃ o2, tn on (ks ++ xz) = o2 := ⟨_, rfl⟩
       obtain ⟨k2, hk2⟩ : ∃ k2, od on (ks ++ xz) = k2 := ⟨_, rfl⟩
       have HO := Lib.hid ho2; have HK := Lib.hid hk2
       clear ho2 hk2
       have j0 : (0 : Int) ≤ (j : Int) := by omega
       have j1 : (j : Int) < (n : Int) := by omega
       have BD := Lib.hid (BB.out.on (Below.refl _ _).drew)
       have HE := Lib.hid (El_away BD.out.f HX.out)
       clear BB
       go_wp2_with fail
       have hS := hold1 hlb e1.out BD.out.f.below
       refine wp_region_held_drew (S := fun w' => w'.cell? ⟨lb, o + j, none⟩ = some (.slice xa xn xc) ∧ Below w.heap.size w w') (by kernel_rfl) hS (fun hHeld => ?_)
       clear hS
       show wpAnyH _ _ _ _ _ 15 _ _ _
       refine take_at 0 27 (v := ?vp0) (fuel := 14) rfl rfl (by kernel_rfl) (by kernel_rfl) (by kernel_rfl) (fun _ _ _ h => h) (by rfl) hHeld ?hyp0 ?restp0
       case hyp0 => (intro w' hSw; (try dsimp only at hSw); go_simp <;> with_reducible rfl)
       simp only [Act.put, List.setIfInBounds_toArray, List.set_cons_zero, List.set_cons_succ]
       refine take_at 1 28 (v := ?vp1) (fuel := 13) rfl rfl (by kernel_rfl) (by kernel_rfl) (by kernel_rfl) (fun _ _ _ h => h) (by rfl) hHeld ?hyp1 ?restp1
       case hyp1 => (intro w' hSw; (try dsimp only at hSw); go_simp <;> with_reducible rfl)
       simp only [Act.put, List.setIfInBounds_toArray, List.set_cons_zero, List.set_cons_succ]
       refine take_at 2 29 (v := ?vp2) (fuel := 12) rfl rfl (by kernel_rfl) (by kernel_rfl) (by kernel_rfl) (fun _ _ _ h => h) (by rfl) hHeld ?hyp2 ?restp2
       case hyp2 => (intro w' hSw; (try dsimp only at hSw); go_simp <;> with_reducible rfl)
       simp only [Act.put, List.setIfInBounds_toArray, List.set_cons_zero, List.set_cons_succ]
       refine take_at 3 30 (v := ?vp3) (fuel := 11) rfl rfl (by kernel_rfl) (by kernel_rfl) (by kernel_rfl) (fun _ _ _ h => h) (by rfl) hHeld ?hyp3 ?restp3
       case hyp3 => (intro w' hSw; (try dsimp only at hSw); go_simp <;> with_reducible rfl)
       simp only [Act.put, List.setIfInBounds_toArray, List.set_cons_zero, List.set_cons_succ]
       refine take_at 4 31 (v := ?vp4) (fuel := 10) rfl rfl (by kernel_rfl) (by kernel_rfl) (by kernel_rfl) (fun _ _ _ h => h) (by rfl) hHeld ?hyp4 ?restp4
       case hyp4 => (intro w' hSw; (try dsimp only at hSw); go_simp <;> with_reducible rfl)
       simp only [Act.put, List.setIfInBounds_toArray, List.set_cons_zero, List.set_cons_succ]
       refine take_at 7 34 (v := ?vp7) (fuel := 9) rfl rfl (by kernel_rfl) (by kernel_rfl) (by kernel_rfl) (fun _ _ _ h => h) (by rfl) hHeld ?hyp7 ?restp7
       case hyp7 => (intro w' hSw; (try dsimp only at hSw); go_simp <;> with_reducible rfl)
       simp only [Act.put, List.setIfInBounds_toArray, List.set_cons_zero, List.set_cons_succ]
       refine take_at 8 35 (v := ?vp8) (fuel := 8) rfl rfl (by kernel_rfl) (by kernel_rfl) (by kernel_rfl) (fun _ _ _ h => h) (by rfl) hHeld ?hyp8 ?restp8
       case hyp8 => (intro w' hSw; (try dsimp only at hSw); go_simp <;> with_reducible rfl)
       simp only [Act.put, List.setIfInBounds_toArray, List.set_cons_zero, List.set_cons_succ]
       refine take_at 9 36 (v := ?vp9) (fuel := 7) rfl rfl (by kernel_rfl) (by kernel_rfl) (by kernel_rfl) (fun _ _ _ h => h) (by rfl) hHeld ?hyp9 ?restp9
       case hyp9 => (intro w' hSw; (try dsimp only at hSw); go_simp <;> with_reducible rfl)
       simp only [Act.put, List.setIfInBounds_toArray, List.set_cons_zero, List.set_cons_succ]
       refine take_at 10 37 (v := ?vp10) (fuel := 6) rfl rfl (by kernel_rfl) (by kernel_rfl) (by kernel_rfl) (fun _ _ _ h => h) (by rfl) hHeld ?hyp10 ?restp10
       case hyp10 => (intro w' hSw; (try dsimp only at hSw); go_simp <;> with_reducible rfl)
       simp only [Act.put, List.setIfInBounds_toArray, List.set_cons_zero, List.set_cons_succ]
       refine take_at 11 38 (v := ?vp11) (fuel := 5) rfl rfl (by kernel_rfl) (by kernel_rfl) (by kernel_rfl) (fun _ _ _ h => h) (by rfl) hHeld ?hyp11 ?restp11
       case hyp11 => (intro w' hSw; (try dsimp only at hSw); go_simp <;> with_reducible rfl)
       simp only [Act.put, List.setIfInBounds_toArray, List.set_cons_zero, List.set_cons_succ]
       refine wpAnyH_ready (rs := [5]) (fuel := 4) (by kernel_rfl) (by simp) ?_
       refine AllReadyH.cons rfl (fun K hK => ?_) AllReadyH.nil
       go_simp
       refine (put_any b on ks xa xn xc xz o2 k2 _ BD.out.f.sw HE.out.1.bytes HX.out.nil HE.out.2 (by omega) HO.out HK.out).mono ?_
       rintro e w5 ⟨A1, m1, c1, rfl, q1, q2, q3, q4⟩
       have B5 := Lib.hid (BD.out.fst q3 q4)
       have T1 := Lib.hid q1; have N1 := Lib.hid (show ∀ g o s, A1 = some ⟨g, o, s⟩ → ¬ T g from fun g o s he ht => by have := q2 g o s he; have := BD.out.g.lt g ht; omega)
       go_simp
       refine hK.out _ _ (hold1 hlb e1.out B5.out.f.below) (fun hH1 => ?_)
       refine wpAnyH_more (S' := fun w' => (w'.cell? ⟨lb, o + j, none⟩ = some (.slice xa xn xc) ∧ Below w.heap.size w w') ∧ Bytes w' A1 m1 c1 o2) (fun _ h => h.1) _ _ _ _ ?_
       have hH2 := (show (fun w' : World => (w'.cell? ⟨lb, o + j, none⟩ = some (.slice xa xn xc) ∧ Below w.heap.size w w') ∧ Bytes w' A1 m1 c1 o2) w5 from ⟨hH1, T1.out.bytes.1⟩)
       clear hK K hHeld hH1 q1 q2 q3 q4
       (try simp only [Act.put, List.setIfInBounds_toArray, List.set_cons_zero, List.set_cons_succ])
       refine take_text 6 33 (fuel := 3) _ A1 m1 c1 o2 rfl rfl (by kernel_rfl) (by kernel_rfl) (by kernel_rfl) (fun _ _ _ h => h) (by rfl) hH2 rfl rfl (fun _ h => h.2) T1.out.bytes.2 ?_
       simp only [Act.put, List.setIfInBounds_toArray, List.set_cons_zero, List.set_cons_succ]
       refine wpAnyH_ready (rs := [12]) (fuel := 2) (by kernel_rfl) (by simp) ?_
       refine AllReadyH.cons rfl (fun K hK => ?_) AllReadyH.nil
       go_simp
       refine (rput_any r T on ks xa xn xc xz o2 k2 _ B5.out.g BD.out.f.sw.one BD.out.f.sw.off ((HX.out.on B5.out.f.below).bytes) HX.out.nil (by omega) HO.out HK.out).mono ?_
       rintro e w6 ⟨A2, m2, c2, T2, rfl, q1, q2, q3, q4, q5⟩
       have B6 := Lib.hid (B5.out.snd q3 q4 q5)
       have T6 := Lib.hid q1
       go_simp
       refine hK.out _ _ ⟨hold1 hlb e1.out B6.out.f.below, (T1.out.only q4 N1.out).bytes.1⟩ (fun hH3 => ?_)
       refine wpAnyH_more (S' := fun w' => ((w'.cell? ⟨lb, o + j, none⟩ = some (.slice xa xn xc) ∧ Below w.heap.size w w') ∧ Bytes w' A1 m1 c1 o2) ∧ Bytes w' A2 m2 c2 o2) (fun _ h => h.1) _ _ _ _ ?_
       have hH4 := (show (fun w' : World => ((w'.cell? ⟨lb, o + j, none⟩ = some (.slice xa xn xc) ∧ Below w.heap.size w w') ∧ Bytes w' A1 m1 c1 o2) ∧ Bytes w' A2 m2 c2 o2) w6 from ⟨hH3, T6.out.bytes.1⟩)
       clear hK K hH2 hH3 q1 q2 q3 q4 q5
       (try simp only [Act.put, List.setIfInBounds_toArray, List.set_cons_zero, List.set_cons_succ])
       refine take_text 13 40 (fuel := 1) _ A2 m2 c2 o2 rfl rfl (by kernel_rfl) (by kernel_rfl) (by kernel_rfl) (fun _ _ _ h => h) (by rfl) hH4 rfl rfl (fun _ h => h.2) T6.out.bytes.2 ?_
       simp only [Act.put, List.setIfInBounds_toArray, List.set_cons_zero, List.set_cons_succ]
       refine take_at 14 41 (v := ?vp14) (fuel := 0) rfl rfl (by kernel_rfl) (by kernel_rfl) (by kernel_rfl) (fun _ _ _ h => h) (by rfl) hH4 ?hyp14 ?restp14
       case hyp14 => (intro w' hSw; (try dsimp only at hSw); go_simp <;> with_reducible rfl)
       simp only [Act.put, List.setIfInBounds_toArray, List.set_cons_zero, List.set_cons_succ]
       refine wpAnyH_done (by kernel_rfl) ?_ _
       clear hH4 HE T1 N1 T6 B5 BD
       have BQ := Lib.hid (B6.out.on (Below.refl _ _).drew)
       clear B6
       by_cases hje : j < en
       · obtain ⟨eb, eo, rfl, heb, hec⟩ := HU.out.cells (by omega)
         have e2 := Lib.hid (hec j hje)
         clear hec
         have j2 : (j : Int) < (en : Int) := by omega
         generalize U.getD j false = u at e2
         cases u with
         | true =>
           go_wp2_with fail
           have hS := hold1 heb e2.out BQ.out.f.below
           refine wp_region_held_drew (S := fun w' => w'.cell? ⟨eb, eo + j, none⟩ = some (.bool true) ∧ Below w.heap.size w w') (by kernel_rfl) hS (fun hHeld => ?_)
           clear hS
           show wpAnyH _ _ _ _ _ 19 _ _ _
           refine take_at 0 42 (v := ?va0) (fuel := 18) rfl rfl (by kernel_rfl) (by kernel_rfl) (by kernel_rfl) (fun _ _ _ h => h) (by rfl) hHeld ?hya0 ?resta0
           case hya0 => (intro w' hSw; (try dsimp only at hSw); go_simp <;> with_reducible rfl)
           simp only [Act.put, List.setIfInBounds_toArray, List.set_cons_zero, List.set_cons_succ]
           refine take_at 1 43 (v := ?va1) (fuel := 17) rfl rfl (by kernel_rfl) (by kernel_rfl) (by kernel_rfl) (fun _ _ _ h => h) (by rfl) hHeld ?hya1 ?resta1
           case hya1 => (intro w' hSw; (try dsimp only at hSw); go_simp <;> with_reducible rfl)
           simp only [Act.put, List.setIfInBounds_toArray, List.set_cons_zero, List.set_cons_succ]
           refine take_at 2 44 (v := ?va2) (fuel := 16) rfl rfl (by kernel_rfl) (by kernel_rfl) (by kernel_rfl) (fun _ _ _ h => h) (by rfl) hHeld ?hya2 ?resta2
           case hya2 => (intro w' hSw; (try dsimp only at hSw); go_simp <;> with_reducible rfl)
           simp only [Act.put, List.setIfInBounds_toArray, List.set_cons_zero, List.set_cons_succ]
           refine take_at 3 45 (v := ?va3) (fuel := 15) rfl rfl (by kernel_rfl) (by kernel_rfl) (by kernel_rfl) (fun _ _ _ h => h) (by rfl) hHeld ?hya3 ?resta3
           case hya3 => (intro w' hSw; (try dsimp only at hSw); go_simp <;> with_reducible rfl)
           simp only [Act.put, List.setIfInBounds_toArray, List.set_cons_zero, List.set_cons_succ]
           refine take_at 4 46 (v := ?va4) (fuel := 14) rfl rfl (by kernel_rfl) (by kernel_rfl) (by kernel_rfl) (fun _ _ _ h => h) (by rfl) hHeld ?hya4 ?resta4
           case hya4 => (intro w' hSw; (try dsimp only at hSw); go_simp <;> with_reducible rfl)
           simp only [Act.put, List.setIfInBounds_toArray, List.set_cons_zero, List.set_cons_succ]
           refine take_at 5 47 (v := ?va5) (fuel := 13) rfl rfl (by kernel_rfl) (by kernel_rfl) (by kernel_rfl) (fun _ _ _ h => h) (by rfl) hHeld ?hya5 ?resta5
           case hya5 => (intro w' hSw; (try dsimp only at hSw); go_simp <;> with_reducible rfl)
           simp only [Act.put, List.setIfInBounds_toArray, List.set_cons_zero, List.set_cons_succ]
           refine take_at 6 48 (v := ?va6) (fuel := 12) rfl rfl (by kernel_rfl) (by kernel_rfl) (by kernel_rfl) (fun _ _ _ h => h) (by rfl) hHeld ?hya6 ?resta6
           case hya6 => (intro w' hSw; (try dsimp only at hSw); go_simp <;> with_reducible rfl)
           simp only [Act.put, List.setIfInBounds_toArray, List.set_cons_zero, List.set_cons_succ]
           refine take_at 7 49 (v := ?va7) (fuel := 11) rfl rfl (by kernel_rfl) (by kernel_rfl) (by kernel_rfl) (fun _ _ _ h => h) (by rfl) hHeld ?hya7 ?resta7
           case hya7 => (intro w' hSw; (try dsimp only at hSw); go_simp <;> with_reducible rfl)
           simp only [Act.put, List.setIfInBounds_toArray, List.set_cons_zero, List.set_cons_succ]
           refine take_at 8 50 (v := ?va8) (fuel := 10) rfl rfl (by kernel_rfl) (by kernel_rfl) (by kernel_rfl) (fun _ _ _ h => h) (by rfl) hHeld ?hya8 ?resta8
           case hya8 => (intro w' hSw; (try dsimp only at hSw); go_simp <;> with_reducible rfl)
           simp only [Act.put, List.setIfInBounds_toArray, List.set_cons_zero, List.set_cons_succ]
           refine take_at 9 51 (v := ?va9) (fuel := 9) rfl rfl (by kernel_rfl) (by kernel_rfl) (by kernel_rfl) (fun _ _ _ h => h) (by rfl) hHeld ?hya9 ?resta9
           case hya9 => (intro w' hSw; (try dsimp only at hSw); go_simp <;> with_reducible rfl)
           simp only [Act.put, List.setIfInBounds_toArray, List.set_cons_zero, List.set_cons_succ]
           refine take_at 10 52 (v := ?va10) (fuel := 8) rfl rfl (by kernel_rfl) (by kernel_rfl) (by kernel_rfl) (fun _ _ _ h => h) (by rfl) hHeld ?hya10 ?resta10
           case hya10 => (intro w' hSw; (try dsimp only at hSw); go_simp <;> with_reducible rfl)
           simp only [Act.put, List.setIfInBounds_toArray, List.set_cons_zero, List.set_cons_succ]
           refine take_at 11 53 (v := ?va11) (fuel := 7) rfl rfl (by kernel_rfl) (by kernel_rfl) (by kernel_rfl) (fun _ _ _ h => h) (by rfl) hHeld ?hya11 ?resta11
           case hya11 => (intro w' hSw; (try dsimp only at hSw); go_simp <;> with_reducible rfl)
           simp only [Act.put, List.setIfInBounds_toArray, List.set_cons_zero, List.set_cons_succ]
           refine take_at 14 56 (v := ?va14) (fuel := 6) rfl rfl (by kernel_rfl) (by kernel_rfl) (by kernel_rfl) (fun _ _ _ h => h) (by rfl) hHeld ?hya14 ?resta14
           case hya14 => (intro w' hSw; (try dsimp only at hSw); go_simp <;> with_reducible rfl)
           simp only [Act.put, List.setIfInBounds_toArray, List.set_cons_zero, List.set_cons_succ]
           refine wpAnyH_ready (rs := [12]) (fuel := 5) (by kernel_rfl) (by simp) ?_
           refine AllReadyH.cons rfl (fun K hK => ?_) AllReadyH.nil
           go_simp
           refine (end_any b on k2 _ BQ.out.f.sw).mono ?_
           rintro e w8 ⟨A3, m3, c3, rfl, q1, q2, q3, q4⟩
           have B8 := Lib.hid (BQ.out.fst q3 q4)
           have T3 := Lib.hid q1; have N3 := Lib.hid (show ∀ g o s, A3 = some ⟨g, o, s⟩ → g ≠ r ∧ g ≠ b from fun g o s he => by have := q2 g o s he; have := BQ.out.g.lt r BQ.out.g.mine; have := BQ.out.f.sw.lt; omega)
           go_simp
           refine hK.out _ _ (hold1 heb e2.out B8.out.f.below) (fun hH1 => ?_)
           refine wpAnyH_more (S' := fun w' => (w'.cell? ⟨eb, eo + j, none⟩ = some (.bool true) ∧ Below w.heap.size w w') ∧ Bytes w' A3 m3 c3 k2) (fun _ h => h.1) _ _ _ _ ?_
           have hH2 := (show (fun w' : World => (w'.cell? ⟨eb, eo + j, none⟩ = some (.bool true) ∧ Below w.heap.size w w') ∧ Bytes w' A3 m3 c3 k2) w8 from ⟨hH1, T3.out.bytes.1⟩)
           clear hK K hHeld hH1 q1 q2 q3 q4
           (try simp only [Act.put, List.setIfInBounds_toArray, List.set_cons_zero, List.set_cons_succ])
           refine take_text 13 55 (fuel := 4) _ A3 m3 c3 k2 rfl rfl (by kernel_rfl) (by kernel_rfl) (by kernel_rfl) (fun _ _ _ h => h) (by rfl) hH2 rfl rfl (fun _ h => h.2) T3.out.bytes.2 ?_
           simp only [Act.put, List.setIfInBounds_toArray, List.set_cons_zero, List.set_cons_succ]
           refine wpAnyH_ready (rs := [15]) (fuel := 3) (by kernel_rfl) (by simp) ?_
           refine AllReadyH.cons rfl (fun K hK => ?_) AllReadyH.nil
           go_simp
           refine (rend_any r T2 (.bool on) k2 _ B8.out.g).mono ?_
           rintro e w9 ⟨A4, m4, c4, rfl, q1, q2, q3, q4, q5⟩
           have B9 := Lib.hid (B8.out.snd q4 (q5.mono (fun d hd => by rw [hd]; exact B8.out.g.mine)) (fun d hd => .inl (by rw [hd]; exact B8.out.g.mine)))
           have N4 := Lib.hid q2; have N5 := Lib.hid (show ∀ g o, A4 = some ⟨g, o, none⟩ → 0 < m4 → g ≠ b from fun g o he _ hg => B8.out.apart (by rw [← hg]; exact (q3 g o none he).1))
           go_simp
           refine hK.out _ _ ⟨hold1 heb e2.out B9.out.f.below, (T3.out.only q5 (fun g o s he => (N3.out g o s he).1)).bytes.1⟩ (fun hH3 => ?_)
           refine wpAnyH_more (S' := fun w' => ((w'.cell? ⟨eb, eo + j, none⟩ = some (.bool true) ∧ Below w.heap.size w w') ∧ Bytes w' A3 m3 c3 k2) ∧ Bytes w' A4 m4 c4 k2) (fun _ h => h.1) _ _ _ _ ?_
           have hH4 := (show (fun w' : World => ((w'.cell? ⟨eb, eo + j, none⟩ = some (.bool true) ∧ Below w.heap.size w w') ∧ Bytes w' A3 m3 c3 k2) ∧ Bytes w' A4 m4 c4 k2) w9 from ⟨hH3, q1⟩)
           clear hK K hH2 hH3 q1 q2 q3 q4 q5
           (try simp only [Act.put, List.setIfInBounds_toArray, List.set_cons_zero, List.set_cons_succ])
           refine take_text 16 58 (fuel := 2) _ A4 m4 c4 k2 rfl rfl (by kernel_rfl) (by kernel_rfl) (by kernel_rfl) (fun _ _ _ h => h) (by rfl) hH4 rfl rfl (fun _ h => h.2) N4.out ?_
           simp only [Act.put, List.setIfInBounds_toArray, List.set_cons_zero, List.set_cons_succ]
           refine take_at 17 59 (v := ?va17) (fuel := 1) rfl rfl (by kernel_rfl) (by kernel_rfl) (by kernel_rfl) (fun _ _ _ h => h) (by rfl) hH4 ?hya17 ?resta17
           case hya17 => (intro w' hSw; (try dsimp only at hSw); go_simp <;> with_reducible rfl)
           simp only [Act.put, List.setIfInBounds_toArray, List.set_cons_zero, List.set_cons_succ]
           refine take_at 18 60 (v := ?va18) (fuel := 0) rfl rfl (by kernel_rfl) (by kernel_rfl) (by kernel_rfl) (fun _ _ _ h => h) (by rfl) hH4 ?hya18 ?resta18
           case hya18 => (intro w' hSw; (try dsimp only at hSw); go_simp <;> with_reducible rfl)
           simp only [Act.put, List.setIfInBounds_toArray, List.set_cons_zero, List.set_cons_succ]
           refine wpAnyH_done (by kernel_rfl) ?_ _
           clear hH4 T3 N3 N4 N5 B8 BQ
           go_wp2
           go_roundw
           case rel => exact ⟨j + 1, _, [], by omega, by go_num, B9.out⟩
           case measure => simp [intOf]; omega
         | false =>
           go_wp2_with fail
           have hS := hold1 heb e2.out BQ.out.f.below
           refine wp_region_held_drew (S := fun w' => w'.cell? ⟨eb, eo + j, none⟩ = some (.bool false) ∧ Below w.heap.size w w') (by kernel_rfl) hS (fun hHeld => ?_)
           clear hS
           show wpAnyH _ _ _ _ _ 19 _ _ _
           refine take_at 0 42 (v := ?vb0) (fuel := 18) rfl rfl (by kernel_rfl) (by kernel_rfl) (by kernel_rfl) (fun _ _ _ h => h) (by rfl) hHeld ?hyb0 ?restb0
           case hyb0 => (intro w' hSw; (try dsimp only at hSw); go_simp <;> with_reducible rfl)
           simp only [Act.put, List.setIfInBounds_toArray, List.set_cons_zero, List.set_cons_succ]
           refine take_at 1 43 (v := ?vb1) (fuel := 17) rfl rfl (by kernel_rfl) (by kernel_rfl) (by kernel_rfl) (fun _ _ _ h => h) (by rfl) hHeld ?hyb1 ?restb1
           case hyb1 => (intro w' hSw; (try dsimp only at hSw); go_simp <;> with_reducible rfl)
           simp only [Act.put, List.setIfInBounds_toArray, List.set_cons_zero, List.set_cons_succ]
           refine take_at 2 44 (v := ?vb2) (fuel := 16) rfl rfl (by kernel_rfl) (by kernel_rfl) (by kernel_rfl) (fun _ _ _ h => h) (by rfl) hHeld ?hyb2 ?restb2
           case hyb2 => (intro w' hSw; (try dsimp only at hSw); go_simp <;> with_reducible rfl)
           simp only [Act.put, List.setIfInBounds_toArray, List.set_cons_zero, List.set_cons_succ]
           refine take_at 3 45 (v := ?vb3) (fuel := 15) rfl rfl (by kernel_rfl) (by kernel_rfl) (by kernel_rfl) (fun _ _ _ h => h) (by rfl) hHeld ?hyb3 ?restb3
           case hyb3 => (intro w' hSw; (try dsimp only at hSw); go_simp <;> with_reducible rfl)
           simp only [Act.put, List.setIfInBounds_toArray, List.set_cons_zero, List.set_cons_succ]
           refine take_at 4 46 (v := ?vb4) (fuel := 14) rfl rfl (by kernel_rfl) (by kernel_rfl) (by kernel_rfl) (fun _ _ _ h => h) (by rfl) hHeld ?hyb4 ?restb4
           case hyb4 => (intro w' hSw; (try dsimp only at hSw); go_simp <;> with_reducible rfl)
           simp only [Act.put, List.setIfInBounds_toArray, List.set_cons_zero, List.set_cons_succ]
           refine take_at 5 47 (v := ?vb5) (fuel := 13) rfl rfl (by kernel_rfl) (by kernel_rfl) (by kernel_rfl) (fun _ _ _ h => h) (by rfl) hHeld ?hyb5 ?restb5
           case hyb5 => (intro w' hSw; (try dsimp only at hSw); go_simp <;> with_reducible rfl)
           simp only [Act.put, List.setIfInBounds_toArray, List.set_cons_zero, List.set_cons_succ]
           refine take_at 6 48 (v := ?vb6) (fuel := 12) rfl rfl (by kernel_rfl) (by kernel_rfl) (by kernel_rfl) (fun _ _ _ h => h) (by rfl) hHeld ?hyb6 ?restb6
           case hyb6 => (intro w' hSw; (try dsimp only at hSw); go_simp <;> with_reducible rfl)
           simp only [Act.put, List.setIfInBounds_toArray, List.set_cons_zero, List.set_cons_succ]
           refine take_at 7 49 (v := ?vb7) (fuel := 11) rfl rfl (by kernel_rfl) (by kernel_rfl) (by kernel_rfl) (fun _ _ _ h => h) (by rfl) hHeld ?hyb7 ?restb7
           case hyb7 => (intro w' hSw; (try dsimp only at hSw); go_simp <;> with_reducible rfl)
           simp only [Act.put, List.setIfInBounds_toArray, List.set_cons_zero, List.set_cons_succ]
           refine take_at 8 50 (v := ?vb8) (fuel := 10) rfl rfl (by kernel_rfl) (by kernel_rfl) (by kernel_rfl) (fun _ _ _ h => h) (by rfl) hHeld ?hyb8 ?restb8
           case hyb8 => (intro w' hSw; (try dsimp only at hSw); go_simp <;> with_reducible rfl)
           simp only [Act.put, List.setIfInBounds_toArray, List.set_cons_zero, List.set_cons_succ]
           refine take_at 9 51 (v := ?vb9) (fuel := 9) rfl rfl (by kernel_rfl) (by kernel_rfl) (by kernel_rfl) (fun _ _ _ h => h) (by rfl) hHeld ?hyb9 ?restb9
           case hyb9 => (intro w' hSw; (try dsimp only at hSw); go_simp <;> with_reducible rfl)
           simp only [Act.put, List.setIfInBounds_toArray, List.set_cons_zero, List.set_cons_succ]
           refine take_at 10 52 (v := ?vb10) (fuel := 8) rfl rfl (by kernel_rfl) (by kernel_rfl) (by kernel_rfl) (fun _ _ _ h => h) (by rfl) hHeld ?hyb10 ?restb10
           case hyb10 => (intro w' hSw; (try dsimp only at hSw); go_simp <;> with_reducible rfl)
           simp only [Act.put, List.setIfInBounds_toArray, List.set_cons_zero, List.set_cons_succ]
           refine skip_at 11 53 (fuel := 7) rfl rfl (by kernel_rfl) (by kernel_rfl) (by kernel_rfl) (fun _ _ _ h => h) (by rfl) hHeld ?_
           simp only [Act.put, List.setIfInBounds_toArray, List.set_cons_zero, List.set_cons_succ]
           refine skip_at 12 54 (fuel := 6) rfl rfl (by kernel_rfl) (by kernel_rfl) (by kernel_rfl) (fun _ _ _ h => h) (by rfl) hHeld ?_
           simp only [Act.put, List.setIfInBounds_toArray, List.set_cons_zero, List.set_cons_succ]
           refine skip_at 13 55 (fuel := 5) rfl rfl (by kernel_rfl) (by kernel_rfl) (by kernel_rfl) (fun _ _ _ h => h) (by rfl) hHeld ?_
           simp only [Act.put, List.setIfInBounds_toArray, List.set_cons_zero, List.set_cons_succ]
           refine skip_at 14 56 (fuel := 4) rfl rfl (by kernel_rfl) (by kernel_rfl) (by kernel_rfl) (fun _ _ _ h => h) (by rfl) hHeld ?_
           simp only [Act.put, List.setIfInBounds_toArray, List.set_cons_zero, List.set_cons_succ]
           refine skip_at 15 57 (fuel := 3) rfl rfl (by kernel_rfl) (by kernel_rfl) (by kernel_rfl) (fun _ _ _ h => h) (by rfl) hHeld ?_
           simp only [Act.put, List.setIfInBounds_toArray, List.set_cons_zero, List.set_cons_succ]
           refine skip_at 16 58 (fuel := 2) rfl rfl (by kernel_rfl) (by kernel_rfl) (by kernel_rfl) (fun _ _ _ h => h) (by rfl) hHeld ?_
           simp only [Act.put, List.setIfInBounds_toArray, List.set_cons_zero, List.set_cons_succ]
           refine skip_at 17 59 (fuel := 1) rfl rfl (by kernel_rfl) (by kernel_rfl) (by kernel_rfl) (fun _ _ _ h => h) (by rfl) hHeld ?_
           simp only [Act.put, List.setIfInBounds_toArray, List.set_cons_zero, List.set_cons_succ]
           refine take_at 18 60 (v := ?vb18) (fuel := 0) rfl rfl (by kernel_rfl) (by kernel_rfl) (by kernel_rfl) (fun _ _ _ h => h) (by rfl) hHeld ?hyb18 ?restb18
           case hyb18 => (intro w' hSw; (try dsimp only at hSw); go_simp <;> with_reducible rfl)
           simp only [Act.put, List.setIfInBounds_toArray, List.set_cons_zero, List.set_cons_succ]
           refine wpAnyH_done (by kernel_rfl) ?_ _
           clear hHeld
           go_wp2
           go_roundw
           case rel => exact ⟨j + 1, _, k2, by omega, by go_num, BQ.out⟩
           case measure => simp [intOf]; omega
       · have j2 : decide ((j : Int) < (en : Int)) = false := by simp; omega
         have j3 : ¬ (j : Int) < (en : Int) := by omega
         go_wp2_with fail
         have hS := BQ.out.f.below
         refine wp_region_held_drew (S := fun w' => Below w.heap.size w w') (by kernel_rfl) hS (fun hHeld => ?_)
         clear hS
         show wpAnyH _ _ _ _ _ 19 _ _ _
         refine take_at 0 42 (v := ?vc0) (fuel := 18) rfl rfl (by kernel_rfl) (by kernel_rfl) (by kernel_rfl) (fun _ _ _ h => h) (by rfl) hHeld ?hyc0 ?restc0
         case hyc0 => (intro w' hSw; (try dsimp only at hSw); go_simp <;> with_reducible rfl)
         simp only [Act.put, List.setIfInBounds_toArray, List.set_cons_zero, List.set_cons_succ]
         refine take_at 1 43 (v := ?vc1) (fuel := 17) rfl rfl (by kernel_rfl) (by kernel_rfl) (by kernel_rfl) (fun _ _ _ h => h) (by rfl) hHeld ?hyc1 ?restc1
         case hyc1 => (intro w' hSw; (try dsimp only at hSw); go_simp <;> with_reducible rfl)
         simp only [Act.put, List.setIfInBounds_toArray, List.set_cons_zero, List.set_cons_succ]
         refine take_at 2 44 (v := ?vc2) (fuel := 16) rfl rfl (by kernel_rfl) (by kernel_rfl) (by kernel_rfl) (fun _ _ _ h => h) (by rfl) hHeld ?hyc2 ?restc2
         case hyc2 => (intro w' hSw; (try dsimp only at hSw); go_simp <;> with_reducible rfl)
         simp only [Act.put, List.setIfInBounds_toArray, List.set_cons_zero, List.set_cons_succ]
         refine take_at 3 45 (v := ?vc3) (fuel := 15) rfl rfl (by kernel_rfl) (by kernel_rfl) (by kernel_rfl) (fun _ _ _ h => h) (by rfl) hHeld ?hyc3 ?restc3
         case hyc3 => (intro w' hSw; (try dsimp only at hSw); go_simp <;> with_reducible rfl)
         simp only [Act.put, List.setIfInBounds_toArray, List.set_cons_zero, List.set_cons_succ]
         refine take_at 4 46 (v := ?vc4) (fuel := 14) rfl rfl (by kernel_rfl) (by kernel_rfl) (by kernel_rfl) (fun _ _ _ h => h) (by rfl) hHeld ?hyc4 ?restc4
         case hyc4 => (intro w' hSw; (try dsimp only at hSw); go_simp <;> with_reducible rfl)
         simp only [Act.put, List.setIfInBounds_toArray, List.set_cons_zero, List.set_cons_succ]
         refine skip_at 5 47 (fuel := 13) rfl rfl (by kernel_rfl) (by kernel_rfl) (by kernel_rfl) (fun _ _ _ h => h) (by rfl) hHeld ?_
         simp only [Act.put, List.setIfInBounds_toArray, List.set_cons_zero, List.set_cons_succ]
         refine skip_at 6 48 (fuel := 12) rfl rfl (by kernel_rfl) (by kernel_rfl) (by kernel_rfl) (fun _ _ _ h => h) (by rfl) hHeld ?_
         simp only [Act.put, List.setIfInBounds_toArray, List.set_cons_zero, List.set_cons_succ]
         refine skip_at 7 49 (fuel := 11) rfl rfl (by kernel_rfl) (by kernel_rfl) (by kernel_rfl) (fun _ _ _ h => h) (by rfl) hHeld ?_
         simp only [Act.put, List.setIfInBounds_toArray, List.set_cons_zero, List.set_cons_succ]
         refine skip_at 8 50 (fuel := 10) rfl rfl (by kernel_rfl) (by kernel_rfl) (by kernel_rfl) (fun _ _ _ h => h) (by rfl) hHeld ?_
         simp only [Act.put, List.setIfInBounds_toArray, List.set_cons_zero, List.set_cons_succ]
         refine take_at 9 51 (v := ?vc9) (fuel := 9) rfl rfl (by kernel_rfl) (by kernel_rfl) (by kernel_rfl) (fun _ _ _ h => h) (by rfl) hHeld ?hyc9 ?restc9
         case hyc9 => (intro w' hSw; (try dsimp only at hSw); go_simp <;> with_reducible rfl)
         simp only [Act.put, List.setIfInBounds_toArray, List.set_cons_zero, List.set_cons_succ]
         refine take_at 10 52 (v := ?vc10) (fuel := 8) rfl rfl (by kernel_rfl) (by kernel_rfl) (by kernel_rfl) (fun _ _ _ h => h) (by rfl) hHeld ?hyc10 ?restc10
         case hyc10 => (intro w' hSw; (try dsimp only at hSw); go_simp <;> with_reducible rfl)
         simp only [Act.put, List.setIfInBounds_toArray, List.set_cons_zero, List.set_cons_succ]
         refine skip_at 11 53 (fuel := 7) rfl rfl (by kernel_rfl) (by kernel_rfl) (by kernel_rfl) (fun _ _ _ h => h) (by rfl) hHeld ?_
         simp only [Act.put, List.setIfInBounds_toArray, List.set_cons_zero, List.set_cons_succ]
         refine skip_at 12 54 (fuel := 6) rfl rfl (by kernel_rfl) (by kernel_rfl) (by kernel_rfl) (fun _ _ _ h => h) (by rfl) hHeld ?_
         simp only [Act.put, List.setIfInBounds_toArray, List.set_cons_zero, List.set_cons_succ]
         refine skip_at 13 55 (fuel := 5) rfl rfl (by kernel_rfl) (by kernel_rfl) (by kernel_rfl) (fun _ _ _ h => h) (by rfl) hHeld ?_
         simp only [Act.put, List.setIfInBounds_toArray, List.set_cons_zero, List.set_cons_succ]
         refine skip_at 14 56 (fuel := 4) rfl rfl (by kernel_rfl) (by kernel_rfl) (by kernel_rfl) (fun _ _ _ h => h) (by rfl) hHeld ?_
         simp only [Act.put, List.setIfInBounds_toArray, List.set_cons_zero, List.set_cons_succ]
         refine skip_at 15 57 (fuel := 3) rfl rfl (by kernel_rfl) (by kernel_rfl) (by kernel_rfl) (fun _ _ _ h => h) (by rfl) hHeld ?_
         simp only [Act.put, List.setIfInBounds_toArray, List.set_cons_zero, List.set_cons_succ]
         refine skip_at 16 58 (fuel := 2) rfl rfl (by kernel_rfl) (by kernel_rfl) (by kernel_rfl) (fun _ _ _ h => h) (by rfl) hHeld ?_
         simp only [Act.put, List.setIfInBounds_toArray, List.set_cons_zero, List.set_cons_succ]
         refine skip_at 17 59 (fuel := 1) rfl rfl (by kernel_rfl) (by kernel_rfl) (by kernel_rfl) (fun _ _ _ h => h) (by rfl) hHeld ?_
         simp only [Act.put, List.setIfInBounds_toArray, List.set_cons_zero, List.set_cons_succ]
         refine take_at 18 60 (v := ?vc18) (fuel := 0) rfl rfl (by kernel_rfl) (by kernel_rfl) (by kernel_rfl) (fun _ _ _ h => h) (by rfl) hHeld ?hyc18 ?restc18
         case hyc18 => (intro w' hSw; (try dsimp only at hSw); go_simp <;> with_reducible rfl)
         simp only [Act.put, List.setIfInBounds_toArray, List.set_cons_zero, List.set_cons_succ]
         refine wpAnyH_done (by kernel_rfl) ?_ _
         clear hHeld
         go_wp2
         go_roundw
         case rel => exact ⟨j + 1, _, k2, by omega, by go_num, BQ.out⟩
         case measure => simp [intOf]; omega
     · have BQ := Lib.hid (BB.out.on (Below.refl _ _).drew)
       clear BB
       go_wp2_with fail
       have hS := BQ.out.f.below
       refine wp_region_held_drew (S := fun w' => Below w.heap.size w w') (by kernel_rfl) hS (fun hHeld => ?_)
       clear hS
       show wpAnyH _ _ _ _ _ 17 _ _ _
       refine take_at 0 61 (v := ?ve0) (fuel := 16) rfl rfl (by kernel_rfl) (by kernel_rfl) (by kernel_rfl) (fun _ _ _ h => h) (by rfl) hHeld ?hye0 ?reste0
       case hye0 => (intro w' hSw; (try dsimp only at hSw); go_simp <;> with_reducible rfl)
       simp only [Act.put, List.setIfInBounds_toArray, List.set_cons_zero, List.set_cons_succ]
       refine take_at 3 64 (v := ?ve3) (fuel := 15) rfl rfl (by kernel_rfl) (by kernel_rfl) (by kernel_rfl) (fun _ _ _ h => h) (by rfl) hHeld ?hye3 ?reste3
       case hye3 => (intro w' hSw; (try dsimp only at hSw); go_simp <;> with_reducible rfl)
       simp only [Act.put, List.setIfInBounds_toArray, List.set_cons_zero, List.set_cons_succ]
       refine wpAnyH_ready (rs := [1]) (fuel := 14) (by kernel_rfl) (by simp) ?_
       refine AllReadyH.cons rfl (fun K hK => ?_) AllReadyH.nil
       go_simp
       refine (end_any b on ks _ BQ.out.f.sw).mono ?_
       rintro e w8 ⟨A3, m3, c3, rfl, q1, q2, q3, q4⟩
       have B8 := Lib.hid (BQ.out.fst q3 q4)
       have T3 := Lib.hid q1; have N3 := Lib.hid (show ∀ g o s, A3 = some ⟨g, o, s⟩ → g ≠ r ∧ g ≠ b from fun g o s he => by have := q2 g o s he; have := BQ.out.g.lt r BQ.out.g.mine; have := BQ.out.f.sw.lt; omega)
       go_simp
       refine hK.out _ _ (id B8.out.f.below) (fun hH1 => ?_)
       refine wpAnyH_more (S' := fun w' => (Below w.heap.size w w') ∧ Bytes w' A3 m3 c3 ks) (fun _ h => h.1) _ _ _ _ ?_
       have hH2 := (show (fun w' : World => (Below w.heap.size w w') ∧ Bytes w' A3 m3 c3 ks) w8 from ⟨hH1, T3.out.bytes.1⟩)
       clear hK K hHeld hH1 q1 q2 q3 q4
       (try simp only [Act.put, List.setIfInBounds_toArray, List.set_cons_zero, List.set_cons_succ])
       refine take_text 2 63 (fuel := 13) _ A3 m3 c3 ks rfl rfl (by kernel_rfl) (by kernel_rfl) (by kernel_rfl) (fun _ _ _ h => h) (by rfl) hH2 rfl rfl (fun _ h => h.2) T3.out.bytes.2 ?_
       simp only [Act.put, List.setIfInBounds_toArray, List.set_cons_zero, List.set_cons_succ]
       refine wpAnyH_ready (rs := [4]) (fuel := 12) (by kernel_rfl) (by simp) ?_
       refine AllReadyH.cons rfl (fun K hK => ?_) AllReadyH.nil
       go_simp
       refine (rend_any r T (.bool on) ks _ B8.out.g).mono ?_
       rintro e w9 ⟨A4, m4, c4, rfl, q1, q2, q3, q4, q5⟩
       have B9 := Lib.hid (B8.out.snd q4 (q5.mono (fun d hd => by rw [hd]; exact B8.out.g.mine)) (fun d hd => .inl (by rw [hd]; exact B8.out.g.mine)))
       have N4 := Lib.hid q2; have N5 := Lib.hid (show ∀ g o, A4 = some ⟨g, o, none⟩ → 0 < m4 → g ≠ b from fun g o he _ hg => B8.out.apart (by rw [← hg]; exact (q3 g o none he).1))
       go_simp
       refine hK.out _ _ ⟨id B9.out.f.below, (T3.out.only q5 (fun g o s he => (N3.out g o s he).1)).bytes.1⟩ (fun hH3 => ?_)
       refine wpAnyH_more (S' := fun w' => ((Below w.heap.size w w') ∧ Bytes w' A3 m3 c3 ks) ∧ Bytes w' A4 m4 c4 ks) (fun _ h => h.1) _ _ _ _ ?_
       have hH4 := (show (fun w' : World => ((Below w.heap.size w w') ∧ Bytes w' A3 m3 c3 ks) ∧ Bytes w' A4 m4 c4 ks) w9 from ⟨hH3, q1⟩)
       clear hK K hH2 hH3 q1 q2 q3 q4 q5
       (try simp only [Act.put, List.setIfInBounds_toArray, List.set_cons_zero, List.set_cons_succ])
       refine take_text 5 66 (fuel := 11) _ A4 m4 c4 ks rfl rfl (by kernel_rfl) (by kernel_rfl) (by kernel_rfl) (fun _ _ _ h => h) (by rfl) hH4 rfl rfl (fun _ h => h.2) N4.out ?_
       simp only [Act.put, List.setIfInBounds_toArray, List.set_cons_zero, List.set_cons_succ]
       refine take_at 6 67 (v := ?ve6) (fuel := 10) rfl rfl (by kernel_rfl) (by kernel_rfl) (by kernel_rfl) (fun _ _ _ h => h) (by rfl) hH4 ?hye6 ?reste6
       case hye6 => (intro w' hSw; (try dsimp only at hSw); go_simp <;> with_reducible rfl)
       simp only [Act.put, List.setIfInBounds_toArray, List.set_cons_zero, List.set_cons_succ]
       refine take_at 7 68 (v := ?ve7) (fuel := 9) rfl rfl (by kernel_rfl) (by kernel_rfl) (by kernel_rfl) (fun _ _ _ h => h) (by rfl) hH4 ?hye7 ?reste7
       case hye7 => (intro w' hSw; (try dsimp only at hSw); go_simp <;> with_reducible rfl)
       simp only [Act.put, List.setIfInBounds_toArray, List.set_cons_zero, List.set_cons_succ]
       refine take_at 8 69 (v := ?ve8) (fuel := 8) rfl rfl (by kernel_rfl) (by kernel_rfl) (by kernel_rfl) (fun _ _ _ h => h) (by rfl) hH4 ?hye8 ?reste8
       case hye8 => (intro w' hSw; (try dsimp only at hSw); go_simp <;> with_reducible rfl)
       simp only [Act.put, List.setIfInBounds_toArray, List.set_cons_zero, List.set_cons_succ]
       refine wpAnyH_ready (rs := [9]) (fuel := 7) (by kernel_rfl) (by simp) ?_
       refine AllReadyH.cons rfl (fun K hK => ?_) AllReadyH.nil
       go_simp
       refine (end_any b on [] _ B9.out.f.sw).mono ?_
       rintro e w10 ⟨A5, m5, c5, rfl, q1, q2, q3, q4⟩
       obtain rfl : m5 = 0 := q1.1.symm
       have B10 := Lib.hid (B9.out.fst q3 q4)
       go_simp
       refine hK.out _ _ ⟨⟨B10.out.f.below, hH4.1.2.only q4 (fun g o he _ => (N3.out g o none he).2)⟩, hH4.2.only q4 N5.out⟩ (fun hH5 => ?_)
       clear hK K hH4 q1 q2 q3 q4
       (try simp only [Act.put, List.setIfInBounds_toArray, List.set_cons_zero, List.set_cons_succ])
       refine take_at 10 71 (v := ?ve10) (fuel := 6) rfl rfl (by kernel_rfl) (by kernel_rfl) (by kernel_rfl) (fun _ _ _ h => h) (by rfl) hH5 ?hye10 ?reste10
       case hye10 => (intro w' hSw; (try dsimp only at hSw); go_simp <;> with_reducible rfl)
       simp only [Act.put, List.setIfInBounds_toArray, List.set_cons_zero, List.set_cons_succ]
       refine take_at 11 72 (v := ?ve11) (fuel := 5) rfl rfl (by kernel_rfl) (by kernel_rfl) (by kernel_rfl) (fun _ _ _ h => h) (by rfl) hH5 ?hye11 ?reste11
       case hye11 => (intro w' hSw; (try dsimp only at hSw); go_simp <;> with_reducible rfl)
       simp only [Act.put, List.setIfInBounds_toArray, List.set_cons_zero, List.set_cons_succ]
       refine take_at 12 73 (v := ?ve12) (fuel := 4) rfl rfl (by kernel_rfl) (by kernel_rfl) (by kernel_rfl) (fun _ _ _ h => h) (by rfl) hH5 ?hye12 ?reste12
       case hye12 => (intro w' hSw; (try dsimp only at hSw); go_simp <;> with_reducible rfl)
       simp only [Act.put, List.setIfInBounds_toArray, List.set_cons_zero, List.set_cons_succ]
       refine take_at 13 74 (v := ?ve13) (fuel := 3) rfl rfl (by kernel_rfl) (by kernel_rfl) (by kernel_rfl) (fun _ _ _ h => h) (by rfl) hH5 ?hye13 ?reste13
       case hye13 => (intro w' hSw; (try dsimp only at hSw); go_simp <;> with_reducible rfl)
       simp only [Act.put, List.setIfInBounds_toArray, List.set_cons_zero, List.set_cons_succ]
       refine wpAnyH_ready (rs := [14]) (fuel := 2) (by kernel_rfl) (by simp) ?_
       refine AllReadyH.cons rfl (fun K hK => ?_) AllReadyH.nil
       go_simp
       refine (law_runs _).mono ?_
       rintro e w11 ⟨rfl, k1⟩
       go_simp
       refine hK.out _ _ ⟨⟨hH5.1.1.trans (k1.mono hH5.1.1.size), hH5.1.2.on k1⟩, hH5.2.on k1⟩ (fun hH6 => ?_)
       clear hK K hH5 k1
       (try simp only [Act.put, List.setIfInBounds_toArray, List.set_cons_zero, List.set_cons_succ])
       refine take_at 15 76 (v := ?ve15) (fuel := 1) rfl rfl (by kernel_rfl) (by kernel_rfl) (by kernel_rfl) (fun _ _ _ h => h) (by rfl) hH6 ?hye15 ?reste15
       case hye15 => (intro w' hSw; (try dsimp only at hSw); go_simp <;> with_reducible rfl)
       simp only [Act.put, List.setIfInBounds_toArray, List.set_cons_zero, List.set_cons_succ]
       refine take_at 16 6 (v := ?ve16) (fuel := 0) rfl rfl (by kernel_rfl) (by kernel_rfl) (by kernel_rfl) (fun _ _ _ h => h) (by rfl) hH6 ?hye16 ?reste16
       case hye16 => (intro w' hSw; (try dsimp only at hSw); go_simp <;> with_reducible rfl)
       simp only [Act.put, List.setIfInBounds_toArray, List.set_cons_zero, List.set_cons_succ]
       refine wpAnyH_done (by kernel_rfl) ?_ _
       have KF := Lib.hid hH6.1.1
       clear hH6 T3 N3 N4 N5 B8 BQ B9 B10
       go_wp2
       go_ret
       exact ⟨rfl, KF.out⟩

end Go.Proofs.Ytjmbnjlicjicbaa
