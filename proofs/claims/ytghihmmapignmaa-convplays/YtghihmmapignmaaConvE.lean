/- Contracts of conv's pass, Put and End. -/
import Derived.Test.YtghihmmapignmaaConvD
import Derived.Test.YtghihmmapignmaaRegionBy
import Derived.WalkKit
import Derived.WalkSpells
import Derived.WalkLawsBesides
import Derived.Lib.Hide
import Derived.Deep.RegionHeld3
namespace Go.Proofs.Ytghihmmapignmaa
open Go.RowKit

section
variable {ops : Array Oper} {Q : Exit → Act → World → Prop} {S : World → Prop}
/-- A table inside a struct is read whole. -/
theorem take_mid (i d : Nat) {oi : Oper} {fuel : Nat} {listed : Array Bool} {a : Act} {w : World} (x : Operand) (b k : Nat) (l : List Int) (hi : ops[i]? = some oi) (hd : oi.dst = some d)
    (hs : Region.noSelect ops = true) (hf : Region.free .any ops listed i = true) (hr : (Region.ready .any ops listed).contains i = true)
    (hQ : ∀ c a w, Q (.panic c) (a.put oi.dst (tv l)) w → Q (.panic c) a w) (hw : Region.wanted oi (yielded ops a.tmps) = true) (hS : S w)
    (ho : oi.op = .load 50 x) (hx : a.eval x = .pointer (some ⟨b, k, none⟩)) (hR : ∀ w, S w → w.rangeAt b k (l.map (Value.int .u8))) (hl : l.length = 256)
    (h : wpAnyH Try.prog .any ops Q S fuel (listed.setIfInBounds i true) (a.put (some d) (tv l)) w) : wpAnyH Try.prog .any ops Q S (fuel + 1) listed a w :=
  take_at i d hi hd hs hf hr hQ hw hS (fun w1 h1 => by simp only [execOp, ho, hx, run_load_mid (hR w1 h1) hl, Sem.run_bind, Sem.run_pure, Result.andThen_ok]) h
end

set_option maxRecDepth 100000 in
set_option maxHeartbeats 8000000 in
theorem pass_any (b sb pb : Nat) (x : Cf) (ks l : List Int) (ct : Nat) (T : Nat → Prop) (A : Option Addr) (n c : Nat) (zs os l2 : List Int) (ct2 : Nat) (w : World) (h : Cw b sb pb x ks l ct w T) (hB : Bytes w A n c zs) (hare : Are zs) (hcb : x.cb ≤ 500) (hn : n ≤ 1700) (hl : l.length ≤ 100000) (hct : ct ≤ 100000)
    (ho : mapL x.t2 (x.rOut l (mapL x.t1 zs)) = os) (hl2 : x.rRest l (mapL x.t1 zs) = l2) (hc2 : ct + x.rCut l (mapL x.t1 zs) = ct2) :
    Calls Try.prog 41 #[.pointer (some ⟨b, 0, none⟩), .slice A n c] w (Gives (Cw b sb pb x ks l2 ct2) T os w) := by
  have KD := Lib.hid (show Below w.heap.size w w.drew from (Below.refl _ _).drew)
  have HD := Lib.hid (h.on KD.out); have HBD := Lib.hid (hB.on KD.out); have HR := Lib.hid hare
  have G1 := Lib.hid (good_t1 x); have G2 := Lib.hid (good_t2 x)
  obtain ⟨z1, hz1e⟩ : ∃ z1, mapL x.t1 zs = z1 := ⟨_, rfl⟩
  have R1 := Lib.hid (show Are z1 by rw [← hz1e]; exact mapL_are (good_t1 x) hare)
  have hz1 : z1.length ≤ 1700 := by rw [← hz1e, map_len, hB.1]; exact hn
  rw [hz1e] at ho hl2 hc2
  obtain ⟨z2, hz2e⟩ : ∃ z2, x.rOut l z1 = z2 := ⟨_, rfl⟩
  have R2 := Lib.hid (show Are z2 by rw [← hz2e]; exact are_rOut x h.al R1.out)
  have hz2 : z2.length ≤ 1000000 := by have := rOut_le hcb l z1 h.ok; rw [hz2e] at this; omega
  rw [hz2e] at ho
  have E1 := Lib.hid hz1e; have E2 := Lib.hid hz2e; have E3 := Lib.hid hl2; have E4 := Lib.hid hc2; have E5 := Lib.hid ho
  clear h hB hare hz1e hz2e hl2 hc2 ho
  go_enter Try.func41, Try.ntmps41
  go_wp2_with fail
  have hS := (show w.drew.rangeAt b 1 (x.t1.map (Value.int .u8)) ∧ w.drew.rangeAt b 257 (x.t2.map (Value.int .u8)) from ⟨HD.out.r1, HD.out.r2⟩)
  refine wp_region_held_drew (S := fun w' => w'.rangeAt b 1 (x.t1.map (Value.int .u8)) ∧ w'.rangeAt b 257 (x.t2.map (Value.int .u8))) (by kernel_rfl) hS (fun hHeld => ?_)
  clear hS
  show wpAnyH _ _ _ _ _ 14 _ _ _
  refine take_at 0 5 (v := ?vp0) (fuel := 13) rfl rfl (by kernel_rfl) (by kernel_rfl) (by kernel_rfl) (fun _ _ _ h => h) (by rfl) hHeld ?hyp0 ?restp0
  case hyp0 => (intro w' hSw; (try dsimp only at hSw); go_simp <;> with_reducible rfl)
  simp only [Act.put, List.setIfInBounds_toArray, List.set_cons_zero, List.set_cons_succ]
  refine take_at 1 6 (v := ?vp1) (fuel := 12) rfl rfl (by kernel_rfl) (by kernel_rfl) (by kernel_rfl) (fun _ _ _ h => h) (by rfl) hHeld ?hyp1 ?restp1
  case hyp1 => (intro w' hSw; (try dsimp only at hSw); go_simp <;> with_reducible rfl)
  simp only [Act.put, List.setIfInBounds_toArray, List.set_cons_zero, List.set_cons_succ]
  refine take_at 2 7 (v := ?vp2) (fuel := 11) rfl rfl (by kernel_rfl) (by kernel_rfl) (by kernel_rfl) (fun _ _ _ h => h) (by rfl) hHeld ?hyp2 ?restp2
  case hyp2 => (intro w' hSw; (try dsimp only at hSw); go_simp <;> with_reducible rfl)
  simp only [Act.put, List.setIfInBounds_toArray, List.set_cons_zero, List.set_cons_succ]
  refine take_mid 3 8 (fuel := 10) _ b 257 x.t2 rfl rfl (by kernel_rfl) (by kernel_rfl) (by kernel_rfl) (fun _ _ _ h => h) (by rfl) hHeld rfl rfl (fun _ h => h.2) G2.out.1 ?_
  simp only [Act.put, List.setIfInBounds_toArray, List.set_cons_zero, List.set_cons_succ]
  refine take_at 4 9 (v := ?vp4) (fuel := 9) rfl rfl (by kernel_rfl) (by kernel_rfl) (by kernel_rfl) (fun _ _ _ h => h) (by rfl) hHeld ?hyp4 ?restp4
  case hyp4 => (intro w' hSw; (try dsimp only at hSw); go_simp <;> with_reducible rfl)
  simp only [Act.put, List.setIfInBounds_toArray, List.set_cons_zero, List.set_cons_succ]
  refine take_at 5 10 (v := ?vp5) (fuel := 8) rfl rfl (by kernel_rfl) (by kernel_rfl) (by kernel_rfl) (fun _ _ _ h => h) (by rfl) hHeld ?hyp5 ?restp5
  case hyp5 => (intro w' hSw; (try dsimp only at hSw); go_simp <;> with_reducible rfl)
  simp only [Act.put, List.setIfInBounds_toArray, List.set_cons_zero, List.set_cons_succ]
  refine take_at 6 11 (v := ?vp6) (fuel := 7) rfl rfl (by kernel_rfl) (by kernel_rfl) (by kernel_rfl) (fun _ _ _ h => h) (by rfl) hHeld ?hyp6 ?restp6
  case hyp6 => (intro w' hSw; (try dsimp only at hSw); go_simp <;> with_reducible rfl)
  simp only [Act.put, List.setIfInBounds_toArray, List.set_cons_zero, List.set_cons_succ]
  refine take_at 7 12 (v := ?vp7) (fuel := 6) rfl rfl (by kernel_rfl) (by kernel_rfl) (by kernel_rfl) (fun _ _ _ h => h) (by rfl) hHeld ?hyp7 ?restp7
  case hyp7 => (intro w' hSw; (try dsimp only at hSw); go_simp <;> with_reducible rfl)
  simp only [Act.put, List.setIfInBounds_toArray, List.set_cons_zero, List.set_cons_succ]
  refine take_mid 8 13 (fuel := 5) _ b 1 x.t1 rfl rfl (by kernel_rfl) (by kernel_rfl) (by kernel_rfl) (fun _ _ _ h => h) (by rfl) hHeld rfl rfl (fun _ h => h.1) G1.out.1 ?_
  simp only [Act.put, List.setIfInBounds_toArray, List.set_cons_zero, List.set_cons_succ]
  refine take_at 9 14 (v := ?vp9) (fuel := 4) rfl rfl (by kernel_rfl) (by kernel_rfl) (by kernel_rfl) (fun _ _ _ h => h) (by rfl) hHeld ?hyp9 ?restp9
  case hyp9 => (intro w' hSw; (try dsimp only at hSw); go_simp <;> with_reducible rfl)
  simp only [Act.put, List.setIfInBounds_toArray, List.set_cons_zero, List.set_cons_succ]
  refine wpAnyH_ready (rs := [10]) (fuel := 3) (by kernel_rfl) (by simp) ?_
  refine AllReadyH.cons rfl (fun Kq hK => ?_) AllReadyH.nil
  go_simp
  refine (map_any x.t1 A n c zs _ G1.out HBD.out HR.out (by omega) z1 E1.out).mono ?_
  rintro e w1 ⟨A1, m1, cc1, rfl, q1, q2, q3⟩
  have H1 := Lib.hid (HD.out.on q3); have B1 := Lib.hid q1; have N1 := Lib.hid q2; have K1 := Lib.hid (KD.out.trans (q3.mono KD.out.size))
  obtain rfl : m1 = z1.length := q1.1.symm
  go_simp
  refine hK.out _ _ ⟨H1.out.r1, H1.out.r2⟩ (fun hH1 => ?_)
  clear hK Kq hHeld q1 q2 q3
  (try simp only [Act.put, List.setIfInBounds_toArray, List.set_cons_zero, List.set_cons_succ])
  refine wpAnyH_ready (rs := [11]) (fuel := 2) (by kernel_rfl) (by simp) ?_
  refine AllReadyH.cons rfl (fun Kq hK => ?_) AllReadyH.nil
  go_simp
  refine (putr_any b sb pb x ks l ct T A1 z1.length cc1 z1 z2 l2 ct2 _ H1.out B1.out.bytes.1 B1.out.bytes.2 (fun g o he _ ht => by have := N1.out g o none he; have := (Rec.keeps _ _ _ _).lt HD.out.rcs g ht; simp at *; omega) R1.out hcb hz1 hl hct E2.out E3.out E4.out).mono ?_
  rintro e w2 ⟨A2, m2, cc2, T2, rfl, q1, q2, q3, q4, q5⟩
  have H2 := Lib.hid q3; have B2 := Lib.hid q1; have N2 := Lib.hid q2; have O2 := Lib.hid q4; have Q2 := Lib.hid q5
  obtain rfl : m2 = z2.length := q1.1.symm
  go_simp
  refine hK.out _ _ ⟨H2.out.r1, H2.out.r2⟩ (fun hH2 => ?_)
  clear hK Kq hH1 q1 q2 q3 q4 q5
  (try simp only [Act.put, List.setIfInBounds_toArray, List.set_cons_zero, List.set_cons_succ])
  refine wpAnyH_ready (rs := [12]) (fuel := 1) (by kernel_rfl) (by simp) ?_
  refine AllReadyH.cons rfl (fun Kq hK => ?_) AllReadyH.nil
  go_simp
  refine (map_any x.t2 A2 z2.length cc2 z2 _ G2.out B2.out R2.out hz2 os E5.out).mono ?_
  rintro e w3 ⟨A3, m3, cc3, rfl, q1, q2, q3⟩
  have H3 := Lib.hid (H2.out.on q3); have B3 := Lib.hid q1; have N3 := Lib.hid q2; have K3 := Lib.hid q3
  go_simp
  refine hK.out _ _ ⟨H3.out.r1, H3.out.r2⟩ (fun hH3 => ?_)
  clear hK Kq hH2 q1 q2 q3
  (try simp only [Act.put, List.setIfInBounds_toArray, List.set_cons_zero, List.set_cons_succ])
  refine take_at 13 4 (v := ?vp13) (fuel := 0) rfl rfl (by kernel_rfl) (by kernel_rfl) (by kernel_rfl) (fun _ _ _ h => h) (by rfl) hH3 ?hyp13 ?restp13
  case hyp13 => (intro w' hSw; (try dsimp only at hSw); go_simp <;> with_reducible rfl)
  simp only [Act.put, List.setIfInBounds_toArray, List.set_cons_zero, List.set_cons_succ]
  refine wpAnyH_done (by kernel_rfl) ?_ _
  clear hH3
  go_wp2
  go_ret
  refine ⟨A3, m3, cc3, T2, rfl, B3.out, fun g o s he => ?_, H3.out, ?_, fun d hd => (Q2.out d hd).imp id (fun h => Nat.le_trans K1.out.size h)⟩
  · have h1 := N3.out g o s he
    have h2 := K1.out.size
    have h3 := O2.out.size
    exact ⟨by omega, fun ht => by have := (Rec.keeps _ _ _ _).lt H2.out.rcs g ht; omega⟩
  · exact (Only.of_below K1.out).trans (T := T) (O2.out.trans (T := fun _ => False) (Only.of_below K3.out) (fun d h _ => h.elim)) (fun d h _ => h)

end Go.Proofs.Ytghihmmapignmaa
