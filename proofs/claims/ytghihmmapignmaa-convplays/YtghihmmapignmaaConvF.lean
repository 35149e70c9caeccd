/- Contracts of conv's Put and End. -/
import Derived.Test.YtghihmmapignmaaConvE
import Derived.WalkKit
import Derived.WalkSpells
import Derived.WalkLawsBesides
import Derived.Lib.Hide
import Derived.Deep.RegionHeld3
namespace Go.Proofs.Ytghihmmapignmaa
open Go.RowKit

set_option maxHeartbeats 2000000 in
theorem putc_any (b sb pb : Nat) (x : Cf) (ks l : List Int) (ct : Nat) (T : Nat → Prop) (A : Option Addr) (n c : Nat) (zs os ks2 l2 : List Int) (ct2 : Nat) (w : World) (h : Cw b sb pb x ks l ct w T) (hB : Bytes w A n c zs) (hN : A = none → n = 0 ∧ c = 0) (hA : ∀ g o, A = some ⟨g, o, none⟩ → 0 < n → ¬ Bs b sb T g) (hare : Are zs) (hcb : x.cb ≤ 500) (hn : n ≤ 1600) (hl : l.length ≤ 100000) (hct : ct ≤ 100000)
    (ho : x.cO ks l zs = os) (hk2 : x.cK ks zs = ks2) (hl2 : x.cL ks l zs = l2) (hc2 : ct + x.cC ks l zs = ct2) :
    Calls Try.prog 18 #[.pointer (some ⟨b, 0, none⟩), .slice A n c] w (Gives (Cv b sb pb x ks2 l2 ct2) (Bs b sb T) os w) := by
  obtain ⟨z1, hz1⟩ : ∃ z1, tn x.sw (ks ++ zs) = z1 := ⟨_, rfl⟩
  have hzl : z1.length ≤ 1700 := by
    have h1 := tn_le x.sw (ks ++ zs); have h2 := h.swb.one; have h3 := hB.1
    rw [hz1, List.length_append] at h1
    omega
  have AK := Lib.hid (h.ak.append hare)
  have R1 := Lib.hid (show Are z1 by rw [← hz1]; exact are_tn _ AK.out)
  have AK2 := Lib.hid (show Are ks2 by rw [← hk2]; exact are_od _ AK.out)
  have E1 := Lib.hid hz1; have E2 := Lib.hid (show od x.sw (ks ++ zs) = ks2 from hk2)
  have E3 := Lib.hid (show mapL x.t2 (x.rOut l (mapL x.t1 z1)) = os by rw [← ho, ← hz1]; rfl)
  have E4 := Lib.hid (show x.rRest l (mapL x.t1 z1) = l2 by rw [← hl2, ← hz1]; rfl)
  have E5 := Lib.hid (show ct + x.rCut l (mapL x.t1 z1) = ct2 by rw [← hc2, ← hz1]; rfl)
  have H := Lib.hid h; have HB := Lib.hid hB; have HN := Lib.hid hN; have HA := Lib.hid hA
  have c0 := h.c0
  clear h hB hN hA hare hz1 ho hk2 hl2 hc2
  go_enter Try.func18, Try.ntmps18
  go_wp2_with fail
  refine (sput_any sb x.sw ks A n c zs z1 ks2 w H.out.swb HB.out HN.out (fun g o he hp hg => HA.out g o he hp (.inr (.inl hg))) (by omega) E1.out E2.out).mono ?_
  rintro e w1 ⟨A1, m1, cc1, rfl, q1, q2, q3, q4⟩
  have H1 := Lib.hid (H.out.swabs q3 q4 AK2.out); have B1 := Lib.hid q1; have O1 := Lib.hid q4
  obtain rfl : m1 = z1.length := q1.1.symm
  clear q1 q2 q3 q4
  go_wp2_with fail
  refine (pass_any b sb pb x ks2 l ct T A1 z1.length cc1 z1 os l2 ct2 w1 H1.out B1.out.bytes.1 R1.out hcb hzl hl hct E3.out E4.out E5.out).mono ?_
  rintro e w2 ⟨A2, m2, cc2, T2, rfl, q1, q2, q3, q4, q5⟩
  have F := Lib.hid (show Gives (Cv b sb pb x ks2 l2 ct2) (Bs b sb T) os w (.returned (.slice A2 m2 cc2)) w2 from by
    refine ⟨A2, m2, cc2, Bs b sb T2, rfl, q1, fun g o s he => ?_, ⟨T2, rfl, q3⟩, ?_, ?_⟩
    · have h1 := q2 g o s he
      have h2 := O1.out.size
      refine ⟨by omega, ?_⟩
      rintro (hg | hg | hg)
      · have := H.out.lt; omega
      · have := H.out.swb.lt; omega
      · exact h1.2 hg
    · exact (O1.out.mono (T := Bs b sb T) (fun d hd => .inr (.inl hd))).trans (T := T) q4 (fun d hd _ => .inr (.inr hd))
    · rintro d (hd | hd | hd)
      · exact .inl (.inl hd)
      · exact .inl (.inr (.inl hd))
      · rcases q5 d hd with h | h
        · exact .inl (.inr (.inr h))
        · exact .inr (Nat.le_trans O1.out.size h))
  clear q1 q2 q3 q4 q5
  go_wp2
  go_ret
  exact F.out

/-- What came out of the first half stays through the second. -/
theorem end_bytes {b sb : Nat} {w1 w3 w4 : World} {A : Option Addr} {n c : Nat} {zs : List Int} {T T' : Nat → Prop} (h : Buf w1 A n c zs) (hn : ∀ g o s, A = some ⟨g, o, s⟩ → ¬ Bs b sb T g) (o : Only T w1 w3) (g : ∀ d, T' d → T d ∨ w1.heap.size ≤ d) (k : Below w3.heap.size w3 w4) :
    Buf w4 A n c zs ∧ ∀ d, At A d → ¬ Bs b sb T' d := by
  refine ⟨(h.only o (fun g' o' s he ht => hn g' o' s he (.inr (.inr ht)))).on k, ?_⟩
  rintro d ⟨o', s, he⟩ (hd | hd | hd)
  · exact hn d o' s he (.inl hd)
  · exact hn d o' s he (.inr (.inl hd))
  · rcases g d hd with h1 | h1
    · exact hn d o' s he (.inr (.inr h1))
    · have := h.at d o' s he; omega

set_option maxRecDepth 100000 in
set_option maxHeartbeats 8000000 in
theorem endc_any (b sb pb : Nat) (x : Cf) (ks l : List Int) (ct : Nat) (T : Nat → Prop) (os : List Int) (ct2 : Nat) (w : World) (h : Cw b sb pb x ks l ct w T) (hcb : x.cb ≤ 500) (hl : l.length ≤ 50000) (hct : ct ≤ 50000)
    (ho : x.eO ks l = os) (hc2 : ct + x.eC ks l = ct2) :
    Calls Try.prog 21 #[.pointer (some ⟨b, 0, none⟩)] w (Gives (Cv b sb pb x [] [] ct2) (Bs b sb T) os w) := by
  have hk := h.swb.one
  obtain ⟨o1, ho1⟩ : ∃ o1, x.eA ks l = o1 := ⟨_, rfl⟩
  obtain ⟨l1, hl1e⟩ : ∃ l1, x.eL ks l = l1 := ⟨_, rfl⟩
  obtain ⟨ct1, hc1⟩ : ∃ ct1, ct + x.rCut l (mapL x.t1 ks) = ct1 := ⟨_, rfl⟩
  obtain ⟨o2, ho2e⟩ : ∃ o2, x.rEnd l1 = o2 := ⟨_, rfl⟩
  obtain ⟨o3, ho3⟩ : ∃ o3, mapL x.t2 o2 = o3 := ⟨_, rfl⟩
  have AM := mapL_are (good_t1 x) h.ak
  have AL1 : Are l1 := by rw [← hl1e]; exact are_rRest x h.al AM
  have OK1 : x.Ok l1 := by rw [← hl1e]; exact ok_rest x _ h.ok
  have hl1 : l1.length ≤ 100000 := by
    have := rRest_le hcb l (mapL x.t1 ks) h.ok
    rw [map_len] at this
    have e : x.rRest l (mapL x.t1 ks) = l1 := hl1e
    rw [e] at this
    omega
  have hct1 : ct1 ≤ 100000 := by have := rCut_le x l (mapL x.t1 ks); rw [map_len] at this; omega
  have ho2 : o2.length ≤ 1000000 := by have := rEnd_le hcb l1 OK1; rw [ho2e] at this; omega
  have hsum : o1.length + o3.length ≤ 1000000 := by
    have h1 := rOut_le hcb l (mapL x.t1 ks) h.ok
    have h2 := rEnd_le hcb l1 OK1
    rw [map_len] at h1
    rw [ho2e] at h2
    rw [← ho1, ← ho3, map_len, Cf.eA, map_len]
    omega
  have R2 := Lib.hid (show Are o2 by rw [← ho2e]; exact are_rEnd x AL1)
  have E1 := Lib.hid (show mapL x.t2 (x.rOut l (mapL x.t1 ks)) = o1 from ho1)
  have E2 := Lib.hid (show x.rRest l (mapL x.t1 ks) = l1 from hl1e)
  have EC := Lib.hid hc1
  have E3 := Lib.hid ho2e
  have E4 := Lib.hid (show ct1 + x.rOver l1 = ct2 by rw [← hc2, ← hc1, ← hl1e, Cf.eC]; omega)
  have E5 := Lib.hid ho3
  have EO := Lib.hid (show o1 ++ o3 = os by rw [← ho, Cf.eO, Cf.eB, ho1, hl1e, ho2e, ho3])
  have AK := Lib.hid h.ak
  have H := Lib.hid h
  have G2 := Lib.hid (good_t2 x)
  have c0 := h.c0
  clear h AM AL1 OK1 ho1 hl1e hc1 ho2e ho3 ho hc2
  go_enter Try.func21, Try.ntmps21
  go_wp2_with fail
  refine (send_any sb x.sw ks w H.out.swb).mono ?_
  rintro e w1 ⟨A1, m1, cc1, rfl, q1, q2, q3, q4⟩
  have H1 := Lib.hid (H.out.swabs q3 q4 Are.nil); have B1 := Lib.hid q1; have O1 := Lib.hid q4
  obtain rfl : m1 = ks.length := q1.1.symm
  clear q1 q2 q3 q4
  go_wp2_with fail
  refine (pass_any b sb pb x [] l ct T A1 ks.length cc1 ks o1 l1 ct1 w1 H1.out B1.out.bytes.1 AK.out hcb (by omega) (by omega) (by omega) E1.out E2.out EC.out).mono ?_
  rintro e w2 ⟨A2, m2, cc2, T1, rfl, q1, q2, q3, q4, q5⟩
  obtain rfl : m2 = o1.length := q1.1.symm
  have H2 := Lib.hid q3; have B2 := Lib.hid q1; have O2 := Lib.hid q4; have Q2 := Lib.hid q5
  have N2 := Lib.hid (show ∀ g o s, A2 = some ⟨g, o, s⟩ → w.heap.size ≤ g ∧ ¬ Bs b sb T1 g from fun g o s he => by
    have h1 := q2 g o s he
    have h2 := O1.out.size
    refine ⟨by omega, ?_⟩
    rintro (hg | hg | hg)
    · have := H.out.lt; omega
    · have := H.out.swb.lt; omega
    · exact h1.2 hg)
  clear q1 q2 q3 q4 q5
  have KD := Lib.hid (show Below w2.heap.size w2 w2.drew from (Below.refl _ _).drew)
  have HD := Lib.hid (H2.out.on KD.out); have BD := Lib.hid (B2.out.on KD.out)
  have ND := Lib.hid (fun g o s he => (N2.out g o s he).2)
  go_wp2_with fail
  have hS := HD.out.r2
  refine wp_region_held_drew (S := fun w' => w'.rangeAt b 257 (x.t2.map (Value.int .u8))) (by kernel_rfl) hS (fun hHeld => ?_)
  clear hS
  show wpAnyH _ _ _ _ _ 10 _ _ _
  refine take_at 0 11 (v := ?vp0) (fuel := 9) rfl rfl (by kernel_rfl) (by kernel_rfl) (by kernel_rfl) (fun _ _ _ h => h) (by rfl) hHeld ?hyp0 ?restp0
  case hyp0 => (intro w' hSw; (try dsimp only at hSw); go_simp <;> with_reducible rfl)
  simp only [Act.put, List.setIfInBounds_toArray, List.set_cons_zero, List.set_cons_succ]
  refine take_at 1 12 (v := ?vp1) (fuel := 8) rfl rfl (by kernel_rfl) (by kernel_rfl) (by kernel_rfl) (fun _ _ _ h => h) (by rfl) hHeld ?hyp1 ?restp1
  case hyp1 => (intro w' hSw; (try dsimp only at hSw); go_simp <;> with_reducible rfl)
  simp only [Act.put, List.setIfInBounds_toArray, List.set_cons_zero, List.set_cons_succ]
  refine take_at 2 13 (v := ?vp2) (fuel := 7) rfl rfl (by kernel_rfl) (by kernel_rfl) (by kernel_rfl) (fun _ _ _ h => h) (by rfl) hHeld ?hyp2 ?restp2
  case hyp2 => (intro w' hSw; (try dsimp only at hSw); go_simp <;> with_reducible rfl)
  simp only [Act.put, List.setIfInBounds_toArray, List.set_cons_zero, List.set_cons_succ]
  refine take_at 3 14 (v := ?vp3) (fuel := 6) rfl rfl (by kernel_rfl) (by kernel_rfl) (by kernel_rfl) (fun _ _ _ h => h) (by rfl) hHeld ?hyp3 ?restp3
  case hyp3 => (intro w' hSw; (try dsimp only at hSw); go_simp <;> with_reducible rfl)
  simp only [Act.put, List.setIfInBounds_toArray, List.set_cons_zero, List.set_cons_succ]
  refine take_mid 4 15 (fuel := 5) _ b 257 x.t2 rfl rfl (by kernel_rfl) (by kernel_rfl) (by kernel_rfl) (fun _ _ _ h => h) (by rfl) hHeld rfl rfl (fun _ h => h) G2.out.1 ?_
  simp only [Act.put, List.setIfInBounds_toArray, List.set_cons_zero, List.set_cons_succ]
  refine take_at 5 16 (v := ?vp5) (fuel := 4) rfl rfl (by kernel_rfl) (by kernel_rfl) (by kernel_rfl) (fun _ _ _ h => h) (by rfl) hHeld ?hyp5 ?restp5
  case hyp5 => (intro w' hSw; (try dsimp only at hSw); go_simp <;> with_reducible rfl)
  simp only [Act.put, List.setIfInBounds_toArray, List.set_cons_zero, List.set_cons_succ]
  refine wpAnyH_ready (rs := [6]) (fuel := 3) (by kernel_rfl) (by simp) ?_
  refine AllReadyH.cons rfl (fun Kq hK => ?_) AllReadyH.nil
  go_simp
  refine (endr_c b sb pb x [] l1 ct1 T1 o2 ct2 _ HD.out hl1 hct1 E3.out E4.out).mono ?_
  rintro e w3 ⟨A3, m3, cc3, T3, rfl, q1, q2, q3, q4, q5⟩
  have H3 := Lib.hid q3; have B3 := Lib.hid q1; have N3 := Lib.hid q2; have O3 := Lib.hid q4; have Q3 := Lib.hid q5
  obtain rfl : m3 = o2.length := q1.1.symm
  go_simp
  refine hK.out _ _ H3.out.r2 (fun hH1 => ?_)
  clear hK Kq hHeld q1 q2 q3 q4 q5
  (try simp only [Act.put, List.setIfInBounds_toArray, List.set_cons_zero, List.set_cons_succ])
  refine wpAnyH_ready (rs := [7]) (fuel := 2) (by kernel_rfl) (by simp) ?_
  refine AllReadyH.cons rfl (fun Kq hK => ?_) AllReadyH.nil
  go_simp
  refine (map_any x.t2 A3 o2.length cc3 o2 _ G2.out B3.out R2.out ho2 o3 E5.out).mono ?_
  rintro e w4 ⟨A4, m4, cc4, rfl, q1, q2, q3⟩
  have H4 := Lib.hid (H3.out.on q3); have B4 := Lib.hid q1; have K4 := Lib.hid q3
  obtain rfl : m4 = o3.length := q1.1.symm
  have F4 := Lib.hid (end_bytes BD.out ND.out O3.out Q3.out K4.out)
  go_simp
  refine hK.out _ _ H4.out.r2 (fun hH2 => ?_)
  clear hK Kq hH1 q1 q2 q3
  (try simp only [Act.put, List.setIfInBounds_toArray, List.set_cons_zero, List.set_cons_succ])
  refine wpAnyH_ready (rs := [8]) (fuel := 1) (by kernel_rfl) (by simp) ?_
  refine AllReadyH.cons rfl (fun Kq hK => ?_) AllReadyH.nil
  refine step_append_buf rfl _ _ rfl F4.out.1 rfl B4.out.bytes.1 B4.out.bytes.2 rfl hsum ?_
  intro A5 cc5 w5 q1 q2 q3
  have B5 := Lib.hid q1; have O5 := Lib.hid q2; have N5 := Lib.hid q3
  have H5 := Lib.hid (H4.out.only q2 (fun d hd ha => F4.out.2 d ha hd))
  go_simp
  refine hK.out _ _ H5.out.r2 (fun hH3 => ?_)
  clear hK Kq hH2 q1 q2 q3
  (try simp only [Act.put, List.setIfInBounds_toArray, List.set_cons_zero, List.set_cons_succ])
  refine take_at 9 2 (v := ?vp9) (fuel := 0) rfl rfl (by kernel_rfl) (by kernel_rfl) (by kernel_rfl) (fun _ _ _ h => h) (by rfl) hH3 ?hyp9 ?restp9
  case hyp9 => (intro w' hSw; (try dsimp only at hSw); go_simp <;> with_reducible rfl)
  simp only [Act.put, List.setIfInBounds_toArray, List.set_cons_zero, List.set_cons_succ]
  refine wpAnyH_done (by kernel_rfl) ?_ _
  clear hH3
  go_wp2
  go_ret
  have hs1 := O1.out.size; have hs2 := O2.out.size; have hs3 := KD.out.size; have hs4 := O3.out.size; have hs5 := K4.out.size; have hs6 := O5.out.size
  have g1 : ∀ d, T3 d → T d ∨ w.heap.size ≤ d := fun d hd => by
    rcases Q3.out d hd with h | h
    · rcases Q2.out d h with h | h
      · exact .inl h
      · right; omega
    · right; omega
  refine ⟨A5, _, cc5, Bs b sb T3, rfl, by rw [← EO.out]; exact B5.out, fun g o s he => ?_, ⟨T3, rfl, H5.out⟩, ?_, ?_⟩
  · rcases N5.out with h5 | h5
    · rw [h5] at he
      exact ⟨(N2.out g o s he).1, F4.out.2 g ⟨o, s, he⟩⟩
    · rw [h5] at he
      injection he with he; injection he with he
      exact ⟨by omega, fun hb => by have := H4.out.stlt g hb; omega⟩
  · have o12 : Only (Bs b sb T) w w2 := (O1.out.mono (T := Bs b sb T) (fun d hd => .inr (.inl hd))).trans (T := T) O2.out (fun d hd _ => .inr (.inr hd))
    have o13 : Only (Bs b sb T) w w3 := (o12.trans (T := fun _ => False) (Only.of_below KD.out) (fun d h _ => h.elim)).trans (T := T1) O3.out (fun d hd hl => (Q2.out d hd).elim (fun h => .inr (.inr h)) (fun h => by omega))
    have o14 : Only (Bs b sb T) w w4 := o13.trans (T := fun _ => False) (Only.of_below K4.out) (fun d h _ => h.elim)
    exact o14.trans O5.out (fun d ⟨o, s, he⟩ hl => by have := (N2.out d o s he).1; omega)
  · rintro d (hd | hd | hd)
    · exact .inl (.inl hd)
    · exact .inl (.inr (.inl hd))
    · rcases g1 d hd with h | h
      · exact .inl (.inr (.inr h))
      · exact .inr h

end Go.Proofs.Ytghihmmapignmaa
