/- The walk of the law RunsJoin. -/
import Derived.Test.YtjmgdnkfhfbbiaaRead
import Derived.Test.YtjmgdnkfhfbbiaaWalksD
import Derived.WalkKit
import Derived.WalkSpells
import Derived.WalkLawsBesides
import Derived.Lib.Hide
namespace Go.Proofs.Ytjmgdnkfhfbbiaa
open Go.RowKit

theorem lead_at (A : Option Addr) (n c : Nat) (zs : List Int) (m : Nat) (w : World) (h : Bytes w A n c zs) (hm : Plain.lead zs = m) :
    Calls Try.prog 10 #[.slice A n c] w fun e w' => e = .returned (.int .i64 (m : Nat)) ∧ w = w' := by
  subst hm
  exact lead_any A n c zs w h
theorem trail_at (A : Option Addr) (n c : Nat) (zs : List Int) (m : Nat) (w : World) (h : Bytes w A n c zs) (hm : Plain.trail zs = m) :
    Calls Try.prog 11 #[.slice A n c] w fun e w' => e = .returned (.int .i64 (m : Nat)) ∧ w = w' := by
  subst hm
  exact trail_any A n c zs w h

set_option maxHeartbeats 1000000 in
theorem join_big (A : Option Addr) (n c : Nat) (B : Option Addr) (m d : Nat) (w : World) (hn : n ≤ 9223372036854775807) (hm : m ≤ 9223372036854775807) (h : 2000 < n ∨ 2000 < m) :
    Calls Try.prog 7 #[.slice A n c, .slice B m d] w fun e w' => e = .returned (.bool true) ∧ Below w.heap.size w w' := by
  by_cases hn2 : 2000 < n
  · clear h
    go_enter Try.func7, Try.ntmps7
    go_wp2_with fail
    refine (law_runs _).mono ?_
    rintro e w1 ⟨rfl, k1⟩
    go_wp2
    go_ret
    exact ⟨rfl, k1⟩
  · have hm2 : 2000 < m := by omega
    clear h
    go_enter Try.func7, Try.ntmps7
    go_wp2_with fail
    refine (law_runs _).mono ?_
    rintro e w1 ⟨rfl, k1⟩
    go_wp2
    go_ret
    exact ⟨rfl, k1⟩

set_option maxHeartbeats 2000000 in
theorem join_small (A : Option Addr) (n c : Nat) (B : Option Addr) (m d : Nat) (xs ys : List Int) (w : World) (ha : Bytes w A n c xs) (hb : Bytes w B m d ys) (hA : A = none → n = 0 ∧ c = 0) (hB : B = none → m = 0 ∧ d = 0) (hn : n ≤ 2000) (hm : m ≤ 2000) :
    Calls Try.prog 7 #[.slice A n c, .slice B m d] w fun e w' => e = .returned (.bool true) ∧ Below w.heap.size w w' := by
  have XA := Lib.hid ha; have XB := Lib.hid hb; have HA := Lib.hid hA; have HB := Lib.hid hB
  have hla := Plain.lead_le xs
  have hlb := Plain.lead_le ys
  have hta := Plain.trail_le xs
  have htb := Plain.trail_le ys
  have hL := Plain.lead_append xs ys
  have hT := Plain.trail_append xs ys
  rw [ha.1] at hla hta hL
  rw [hb.1] at hlb htb hT
  obtain ⟨la, h1⟩ : ∃ q, Plain.lead xs = q := ⟨_, rfl⟩
  obtain ⟨lb, h2⟩ : ∃ q, Plain.lead ys = q := ⟨_, rfl⟩
  obtain ⟨ta, h3⟩ : ∃ q, Plain.trail xs = q := ⟨_, rfl⟩
  obtain ⟨tb, h4⟩ : ∃ q, Plain.trail ys = q := ⟨_, rfl⟩
  rw [h1] at hla hL
  rw [h2] at hlb hL
  rw [h3] at hta hT
  rw [h4] at htb hT
  have H1 := Lib.hid h1; have H2 := Lib.hid h2; have H3 := Lib.hid h3; have H4 := Lib.hid h4; have HL := Lib.hid hL; have HT := Lib.hid hT
  clear h1 h2 h3 h4 hL hT ha hb hA hB
  go_enter Try.func7, Try.ntmps7
  go_wp2_with (at_builtin; first | (refine append_bytes rfl _ _ rfl w.heap.size _ 0 [] rfl (World.ownsRow_nil _ _ _ _) A n c xs XA.out HA.out rfl (by omega) (Nat.le_refl _) ?_; intro v1 w1 o1 k1; have O1 := Lib.hid o1; have K1 := Lib.hid k1; clear o1 k1) | (refine append_bytes rfl _ _ rfl w.heap.size _ (0 + n) ([] ++ xs) rfl O1.out B m d ys (XB.out.on K1.out) HB.out rfl (by omega) K1.out.size ?_; intro v2 w2 o2 k2; have O2 := Lib.hid o2; have K2 := Lib.hid (K1.out.trans k2); clear o2 k2))
  have YA := Lib.hid (XA.out.on K2.out); have YB := Lib.hid (XB.out.on K2.out)
  obtain ⟨C, q, rfl, hC, _⟩ := own_bytes (by have h1 := XA.out.1; have h2 := XB.out.1; simp; omega) O2.out
  have YC := Lib.hid hC
  clear hC O1 O2 K1 XA XB HA HB
  rw [List.nil_append] at YC
  rw [Nat.zero_add] at *
  refine (lead_at _ _ _ xs la _ YA.out H1.out).mono ?_
  rintro e w3 ⟨rfl, rfl⟩
  go_wp2_with fail
  refine (trail_at _ _ _ ys tb _ YB.out H4.out).mono ?_
  rintro e w3 ⟨rfl, rfl⟩
  by_cases hp : la = n
  · rw [if_pos hp] at HL
    subst hp
    go_wp2_with fail
    refine (lead_at _ _ _ ys lb _ YB.out H2.out).mono ?_
    rintro e w3 ⟨rfl, rfl⟩
    by_cases hq : tb = m
    · rw [if_pos hq] at HT
      subst hq
      go_wp2_with fail
      refine (trail_at _ _ _ xs ta _ YA.out H3.out).mono ?_
      rintro e w3 ⟨rfl, rfl⟩
      go_wp2_with fail
      refine (lead_at _ _ _ _ _ _ YC.out HL.out).mono ?_
      rintro e w3 ⟨rfl, rfl⟩
      go_wp2_with fail
      refine (trail_at _ _ _ _ _ _ YC.out HT.out).mono ?_
      rintro e w3 ⟨rfl, rfl⟩
      go_wp2_with fail
      refine (law_runs _).mono ?_
      rintro e w4 ⟨rfl, k4⟩
      go_wp2
      go_ret
      exact ⟨by first | rfl | simp, K2.out.trans (k4.mono K2.out.size)⟩
    · rw [if_neg hq] at HT
      go_wp2_with fail
      refine (lead_at _ _ _ _ _ _ YC.out HL.out).mono ?_
      rintro e w3 ⟨rfl, rfl⟩
      go_wp2_with fail
      refine (trail_at _ _ _ _ _ _ YC.out HT.out).mono ?_
      rintro e w3 ⟨rfl, rfl⟩
      go_wp2_with fail
      refine (law_runs _).mono ?_
      rintro e w4 ⟨rfl, k4⟩
      go_wp2
      go_ret
      exact ⟨by first | rfl | simp, K2.out.trans (k4.mono K2.out.size)⟩
  · rw [if_neg hp] at HL
    by_cases hq : tb = m
    · rw [if_pos hq] at HT
      subst hq
      go_wp2_with fail
      refine (trail_at _ _ _ xs ta _ YA.out H3.out).mono ?_
      rintro e w3 ⟨rfl, rfl⟩
      go_wp2_with fail
      refine (lead_at _ _ _ _ _ _ YC.out HL.out).mono ?_
      rintro e w3 ⟨rfl, rfl⟩
      go_wp2_with fail
      refine (trail_at _ _ _ _ _ _ YC.out HT.out).mono ?_
      rintro e w3 ⟨rfl, rfl⟩
      go_wp2_with fail
      refine (law_runs _).mono ?_
      rintro e w4 ⟨rfl, k4⟩
      go_wp2
      go_ret
      exact ⟨by first | rfl | simp, K2.out.trans (k4.mono K2.out.size)⟩
    · rw [if_neg hq] at HT
      go_wp2_with fail
      refine (lead_at _ _ _ _ _ _ YC.out HL.out).mono ?_
      rintro e w3 ⟨rfl, rfl⟩
      go_wp2_with fail
      refine (trail_at _ _ _ _ _ _ YC.out HT.out).mono ?_
      rintro e w3 ⟨rfl, rfl⟩
      go_wp2_with fail
      refine (law_runs _).mono ?_
      rintro e w4 ⟨rfl, k4⟩
      go_wp2
      go_ret
      exact ⟨by first | rfl | simp, K2.out.trans (k4.mono K2.out.size)⟩

theorem join_walk (A : Option Addr) (n c : Nat) (xs : List Int) (B : Option Addr) (m d : Nat) (ys : List Int) (w : World) (ha : IsRow .u8 w A n c xs) (hb : IsRow .u8 w B m d ys) :
    Calls Try.prog 7 #[.slice A n c, .slice B m d] w fun e w' => e = .returned (.bool true) ∧ Below w.heap.size w w' := by
  have h1 := ha.bytes
  have h2 := hb.bytes
  have h3 := h1.1.2.2.1
  have h4 := h2.1.2.2.1
  have h5 := h1.1.2.1
  have h6 := h2.1.2.1
  unfold maxLen at h3 h4
  by_cases hn : n ≤ 2000 ∧ m ≤ 2000
  · exact join_small A n c B m d _ _ w h1.1 h2.1 h1.2 h2.2 hn.1 hn.2
  · exact join_big A n c B m d w (by omega) (by omega) (by omega)

end Go.Proofs.Ytjmgdnkfhfbbiaa
