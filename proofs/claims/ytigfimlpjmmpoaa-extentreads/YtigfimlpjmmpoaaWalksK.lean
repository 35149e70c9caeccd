/- Contracts of slices.Grow and slices.Concat, of three lists. -/
import Derived.Test.YtigfimlpjmmpoaaWalksF
import Derived.WalkKit
import Derived.WalkSpells
import Derived.WalkLawsBesides
import Derived.Lib.Hide
import Derived.BigQuiet
namespace Go.Proofs.Ytigfimlpjmmpoaa
open Go.RowKit

set_option maxHeartbeats 1000000 in
theorem grow_any (m : Nat) (w : World) (hm : m ≤ 1000000) : Calls Try.prog 54 #[.slice none 0 0, .int .i64 (m : Int)] w fun e w' => ∃ v, e = .returned v ∧ Own w.heap.size w' v [] ∧ Below w.heap.size w w' := by
  obtain ⟨i0, hi, hz0, hz1, hz2⟩ := info_parts info32
  rcases Nat.eq_zero_or_pos m with h0 | h0
  · subst h0
    go_enter Try.func54, Try.ntmps54
    go_wp2
    go_ret
    exact ⟨_, rfl, own_nil _ _, Below.refl _ _⟩
  · have hgc := grownCap_ge w m 0 32
    have hgm := grownCap_le_maxLen w m 0 32 (by unfold maxLen; omega)
    have hrun := fun ty => Lib.run_append_nil_zeros (P := Try.prog) w 22 3 ty 32 i0 _ .i64 .i64 Try.underlying22 Try.underlying3 hi hz0 m h0 (by rw [hz1]; decide) (by omega) (by rw [hz2]; omega)
    generalize grownCap w m 0 32 = C at *
    have HR := Lib.hid hrun
    clear hrun
    have hC0 : ¬ C = 0 := by omega
    have hm0 : (0 : Int) < (m : Int) := by omega
    have hm1 : ¬ (m : Int) < 0 := by omega
    go_enter Try.func54, Try.ntmps54
    go_wp2_with (at_builtin; refine Lib.wpList_append_run w rfl _ _ 22 3 rfl _ _ rfl rfl _ _ (HR.out _) ?_)
    go_ret
    refine ⟨_, rfl, ?_, ((Below.refl w.heap.size w).drew).alloc (Nat.le_refl _) _⟩
    refine ⟨World.ownsRow_made w.drew _ C (Nat.le_refl _) hgm ?_, by simp⟩
    rw [Array.size_append, size_zeroCells, size_zeroCells]
    simp only [ecl_size (ok_nul 0)]
    omega

set_option maxRecDepth 100000 in
set_option maxHeartbeats 4000000 in
theorem concat_any (b : Nat) (A1 : Option Addr) (n1 c1 : Nat) (L1 : List Ex) (A2 : Option Addr) (n2 c2 : Nat) (L2 : List Ex) (A3 : Option Addr) (n3 c3 : Nat) (L3 : List Ex) (w : World)
    (hb : Row w b 22 #[.slice A1 n1 c1, .slice A2 n2 c2, .slice A3 n3 c3]) (h1 : Exts w A1 n1 c1 L1) (h2 : Exts w A2 n2 c2 L2) (h3 : Exts w A3 n3 c3 L3) (m1 : n1 ≤ 100000) (m2 : n2 ≤ 100000) (m3 : n3 ≤ 100000)
    (LL : List Ex) (hLL : L1 ++ L2 ++ L3 = LL) :
    Calls Try.prog 45 #[.slice (some ⟨b, 0, none⟩) 3 3] w (ListPost LL w) := by
  have HLL := Lib.hid hLL
  clear hLL
  have H1 := Lib.hid h1; have H2 := Lib.hid h2; have H3 := Lib.hid h3; have HB := Lib.hid hb
  have e0 := hb.at 0; have e1 := hb.at 1; have e2 := hb.at 2
  simp only [List.getElem?_toArray, List.getElem?_cons_zero, List.getElem?_cons_succ] at e0 e1 e2
  clear h1 h2 h3 hb
  go_enter Try.func45, Try.ntmps45
  go_wp2
  go_loop [3, 11] (fun s i => (i = .int .i64 0 ∧ s = .int .i64 0) ∨ (i = .int .i64 1 ∧ s = .int .i64 n1) ∨ (i = .int .i64 2 ∧ s = .int .i64 (n1 + n2)) ∨ (i = .int .i64 3 ∧ s = .int .i64 (n1 + n2 + n3))) (fun _ i => 3 - (intOf i).toNat)
  case atStart => exact .inl ⟨rfl, rfl⟩
  case round =>
    rcases hrel with ⟨rfl, rfl⟩ | ⟨rfl, rfl⟩ | ⟨rfl, rfl⟩ | ⟨rfl, rfl⟩
    · go_wp2
      go_round
      case rel => exact .inr (.inl ⟨by go_num, by go_num⟩)
      case measure => simp [intOf]
    · go_wp2
      go_round
      case rel => exact .inr (.inr (.inl ⟨by go_num, by go_num⟩))
      case measure => simp [intOf]
    · go_wp2
      go_round
      case rel => exact .inr (.inr (.inr ⟨by go_num, by go_num⟩))
      case measure => simp [intOf]
    · obtain ⟨m, hm⟩ : ∃ m : Nat, (n1 : Int) + (n2 : Int) + (n3 : Int) = (m : Int) := ⟨n1 + n2 + n3, by omega⟩
      have hm6 : m ≤ 1000000 := by omega
      go_wp2_with fail
      refine (grow_any m w hm6).mono ?_
      rintro e w1 ⟨v, rfl, o1, k1⟩
      have O1 := Lib.hid o1; have K1 := Lib.hid k1
      clear o1 k1
      go_wp2
      go_loopw [6, 27] (fun v i wr => ((i = .int .i64 0 ∧ Hid (Own w.heap.size wr v [])) ∨ (i = .int .i64 1 ∧ Hid (Own w.heap.size wr v L1)) ∨ (i = .int .i64 2 ∧ Hid (Own w.heap.size wr v (L1 ++ L2))) ∨ (i = .int .i64 3 ∧ Hid (Own w.heap.size wr v LL))) ∧ Hid (Below w.heap.size w wr)) (fun _ i _ => 3 - (intOf i).toNat)
      case atStart => exact ⟨.inl ⟨rfl, O1.out⟩, K1.out⟩
      case round =>
        clear K1 O1 e0 e1 e2
        obtain ⟨hrel, K2⟩ := hrel
        have e0 := (HB.out.on K2.out).at 0; have e1 := (HB.out.on K2.out).at 1; have e2 := (HB.out.on K2.out).at 2
        simp only [List.getElem?_toArray, List.getElem?_cons_zero, List.getElem?_cons_succ] at e0 e1 e2
        have l1 := H1.out.len; have l2 := H2.out.len
        rcases hrel with ⟨rfl, HO⟩ | ⟨rfl, HO⟩ | ⟨rfl, HO⟩ | ⟨rfl, HO⟩
        · go_wp2_with (at_builtin; refine st_cat rfl _ _ rfl w.heap.size u6 [] rfl HO.out _ _ _ L1 rfl (H1.out.on K2.out) (by simp; omega) K2.out.size ?_; intro v' w3 q3 k3; have Q3 := Lib.hid q3; have K3 := Lib.hid (K2.out.trans k3); clear q3 k3)
          go_roundw
          case rel => exact ⟨.inr (.inl ⟨by go_num, Q3.out⟩), K3.out⟩
          case measure => simp [intOf]
        · go_wp2_with (at_builtin; refine st_cat rfl _ _ rfl w.heap.size u6 L1 rfl HO.out _ _ _ L2 rfl (H2.out.on K2.out) (by omega) K2.out.size ?_; intro v' w3 q3 k3; have Q3 := Lib.hid q3; have K3 := Lib.hid (K2.out.trans k3); clear q3 k3)
          go_roundw
          case rel => exact ⟨.inr (.inr (.inl ⟨by go_num, Q3.out⟩)), K3.out⟩
          case measure => simp [intOf]
        · go_wp2_with (at_builtin; refine st_cat rfl _ _ rfl w.heap.size u6 (L1 ++ L2) rfl HO.out _ _ _ L3 rfl (H3.out.on K2.out) (by rw [List.length_append]; omega) K2.out.size ?_; intro v' w3 q3 k3; rw [HLL.out] at q3; have Q3 := Lib.hid q3; have K3 := Lib.hid (K2.out.trans k3); clear q3 k3)
          go_roundw
          case rel => exact ⟨.inr (.inr (.inr ⟨by go_num, Q3.out⟩)), K3.out⟩
          case measure => simp [intOf]
        · go_wp2
          go_ret
          obtain ⟨A', c', rfl, hmm⟩ := HO.out.mut
          exact ⟨A', c', rfl, hmm, K2.out⟩
end Go.Proofs.Ytigfimlpjmmpoaa
