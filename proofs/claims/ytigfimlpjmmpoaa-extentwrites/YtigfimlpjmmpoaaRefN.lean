/- Contract of the reference's need. -/
import Derived.Test.YtigfimlpjmmpoaaRefE
import Derived.Test.YtigfimlpjmmpoaaSpecF
import Derived.WalkKit
import Derived.WalkSpells
import Derived.WalkLawsBesides
import Derived.Lib.Hide
import Derived.BigQuiet
namespace Go.Proofs.Ytigfimlpjmmpoaa
open Go.RowKit

theorem ins_there {L : List Ex} (hu : Up L) {no : Int} (h : idx L no < L.length ∧ (L.getD (idx L no) default).no = no) : ins L no = L := by
  unfold ins; rw [look_idx hu, if_pos h]; rfl
theorem ins_not {L : List Ex} (hu : Up L) {no : Int} (h : ¬ (idx L no < L.length ∧ (L.getD (idx L no) default).no = no)) : ins L no = L.take (idx L no) ++ ([⟨no, nul8⟩] ++ L.drop (idx L no)) := by
  unfold ins; rw [look_idx hu, if_neg h]; rfl
/-- What need leaves: the block's place, the content's variable, the new list. -/
def NeedPost (b B : Nat) (s : Int) (L : List Ex) (no : Int) (w : World) (e : Ending) (w' : World) : Prop :=
  ∃ A c, e = .returned (.int .i64 ((idx L no : Nat) : Int)) ∧ Box w' b s A (ins L no).length c ∧ Mut B w' A (ins L no).length c (ins L no) ∧ Only (fun d => d = b) w w'
theorem need_done {w W : World} {b B : Nat} {s : Int} {A : Option Addr} {n c : Nat} {L : List Ex} {no : Int} (hb : Box w b s A n c) (hk : Below w.heap.size w W) {v : Value} (ho : Own w.heap.size W v (ins L no)) {k : Nat} (hi : idx L no = k) (hB : B ≤ w.heap.size) :
    NeedPost b B s L no w (.returned (.int .i64 (k : Int))) (W.setCell ⟨b, 1, none⟩ v) := by
  subst hi
  obtain ⟨A', c', rfl, hm⟩ := ho.mut
  have hl := hb.lt
  refine ⟨A', c', rfl, (hb.on hk).set1 A' _ c', hm.only ((Only.refl (fun d => d = b) W).setCell ⟨b, 1, none⟩ (fun _ => rfl) _) (fun g hg hd => by omega) hB, ?_⟩
  exact (Only.of_below hk : Only (fun d => d = b) w W).setCell ⟨b, 1, none⟩ (fun _ => rfl) _

theorem need_same {w : World} {b B : Nat} {s : Int} {A : Option Addr} {n c : Nat} {L : List Ex} {no : Int} (hb : Box w b s A n c) (hm : Mut B w A n c L) (hl : L.length = n) (hi : ins L no = L) {k : Nat} (hk : idx L no = k) :
    NeedPost b B s L no w (.returned (.int .i64 (k : Int))) w := by
  subst hk hl
  exact ⟨A, c, rfl, by rw [hi]; exact hb, by rw [hi]; exact hm, Only.refl _ _⟩

set_option maxRecDepth 100000 in
set_option maxHeartbeats 4000000 in
theorem need_any (b B : Nat) (s : Int) (A : Option Addr) (n c : Nat) (L : List Ex) (no : Int) (w : World) (hb : Box w b s A n c) (hm : Mut B w A n c L) (hn : n ≤ 100000) (hu : Up L) (hB : B ≤ w.heap.size) :
    Calls Try.prog 42 #[.pointer (some ⟨b, 0, none⟩), .int .i64 no] w (NeedPost b B s L no w) := by
  have HB := Lib.hid hb; have HM := Lib.hid hm; have HU := Lib.hid hu
  have H := Lib.hid hm.exts
  have hmx := hm.exts.max
  have hlen := hm.exts.len
  have c1 := hb.c1
  have HLe := Lib.hid (show idx L no ≤ n by have := idx_le L no; have := hm.exts.len; omega)
  clear hb hm hu
  go_enter Try.func42, Try.ntmps42
  go_wp2
  go_loop [5] (fun i => ∃ j : Nat, j ≤ idx L no ∧ i = .int .i64 j) (fun i => idx L no - (intOf i).toNat)
  case atStart => exact ⟨0, Nat.zero_le _, rfl⟩
  case round =>
    obtain ⟨j, hj, rfl⟩ := hrel
    have hjn : j ≤ n := Nat.le_trans hj HLe.out
    by_cases hlt : j < n
    · obtain ⟨b1, o1, rfl, hb1, _⟩ := H.out.cells (by omega)
      have cn := H.out.no j hlt
      have hji : (j : Int) < (n : Int) := by omega
      obtain ⟨x, hx⟩ : ∃ x, (L.getD j default).no = x := ⟨_, rfl⟩
      rw [hx] at cn
      by_cases g : x < no
      · have HJ := Lib.hid (show j < idx L no by
          by_cases hh : j < idx L no
          · exact hh
          · have := idx_ge L no HU.out j (by omega) (by omega); omega)
        clear hx
        go_wp2
        go_round
        case rel => exact ⟨j + 1, HJ.out, by go_num⟩
        case measure => have := HJ.out; simp [intOf]; omega
      · have HJ := Lib.hid (show idx L no = j by
          by_cases hh : j < idx L no
          · have := idx_lt L no j hh; omega
          · omega)
        have HXx := Lib.hid hx
        clear hx
        by_cases g2 : x = no
        · have HI := Lib.hid (show ins L no = L from ins_there HU.out (by rw [HJ.out]; exact ⟨by omega, by rw [HXx.out]; exact g2⟩))
          go_wp2
          go_ret
          exact need_same HB.out HM.out H.out.len HI.out HJ.out
        · obtain ⟨k, hk0⟩ : ∃ k, k = j := ⟨_, rfl⟩
          subst hk0
          have HKa := Lib.hid HJ.out
          have HI := Lib.hid (show ins L no = L.take (idx L no) ++ ([⟨no, nul8⟩] ++ L.drop (idx L no)) from ins_not HU.out (by rw [HJ.out]; rintro ⟨_, hh⟩; rw [HXx.out] at hh; exact g2 hh))
          have hk := HKa.out
          obtain ⟨A1, d1, hs1, hx1⟩ := cut_h H.out k (by have := HLe.out; omega)
          obtain ⟨A2, d2, hs2, hx2⟩ := cut_l H.out k (by have := HLe.out; omega)
          have X1 := Lib.hid hx1; have X2 := Lib.hid hx2
          clear hx1 hx2
          go_wp2_with (first | (at_builtin; refine st_cat rfl _ _ rfl w.heap.size v4 (L.take k ++ [⟨no, nul8⟩]) rfl Q2.out _ _ _ (L.drop k) rfl (X2.out.on K2.out) (by simp; omega) K2.out.size ?_; intro v5 w5 q5 k5; obtain ⟨A5, d5, N5, hv⟩ : ∃ A5 d5 N5, v5 = Value.slice A5 N5 d5 := (by obtain ⟨A5, d5, hv, _⟩ := q5.mut; exact ⟨_, _, _, hv⟩); subst hv; have Q5 := Lib.hid q5; have K5 := Lib.hid (K2.out.trans k5); clear q5 k5; have B5 := Lib.hid (HB.out.on K5.out); have b4 := B5.out.c1; have b5 := B5.out.f1) | (at_builtin; refine st_cat rfl _ _ rfl w.heap.size v1 (L.take k) rfl (Q1.out.on K3.out) _ _ _ [⟨no, nul8⟩] rfl E3.out (by simp; omega) (K1.out.trans (K3.out.mono K1.out.size)).size ?_; intro v4 w4 q4 k4; have Q2 := Lib.hid q4; have K2 := Lib.hid ((K1.out.trans (K3.out.mono K1.out.size)).trans k4); clear q4 k4; have c1 := (HB.out.on K2.out).c1) | (at_builtin; refine st_cat rfl _ _ rfl w.heap.size _ [] rfl (own_nil _ _) _ _ _ (L.take k) rfl X1.out (by simp; omega) (Nat.le_refl _) ?_; intro v1 w1 q1 k1; rw [List.nil_append] at q1; have Q1 := Lib.hid q1; have K1 := Lib.hid k1; clear q1 k1) | (refine st_build rfl _ rfl no rfl ?_) | (refine st_one rfl _ rfl ⟨no, nul8⟩ rfl (ok_nul no) ?_; intro b3 w3 hb3 r3 k3; have E3 := Lib.hid (exts_one r3 (ok_nul no)); have K3 := Lib.hid k3; clear r3 k3))
          go_ret
          exact need_done HB.out K5.out (by rw [HI.out, ← List.append_assoc, hk]; exact Q5.out) HKa.out hB
    · have HJ := Lib.hid (show idx L no = j by have := HLe.out; omega)
      have HJN := Lib.hid (show j = n by omega)
      have hji : ¬ ((j : Int) < (n : Int)) := by omega
      clear hlt
      obtain ⟨k, hk0⟩ : ∃ k, k = j := ⟨_, rfl⟩
      subst hk0
      have HKb := Lib.hid HJ.out
      have HI := Lib.hid (show ins L no = L.take (idx L no) ++ ([⟨no, nul8⟩] ++ L.drop (idx L no)) from ins_not HU.out (by rw [HJ.out, H.out.len]; rintro ⟨hh, _⟩; have := HJN.out; omega))
      have hk := HKb.out
      obtain ⟨A1, d1, hs1, hx1⟩ := cut_h H.out k (by have := HLe.out; omega)
      obtain ⟨A2, d2, hs2, hx2⟩ := cut_l H.out k (by have := HLe.out; omega)
      have X1 := Lib.hid hx1; have X2 := Lib.hid hx2
      clear hx1 hx2
      go_wp2_with (first | (at_builtin; refine st_cat rfl _ _ rfl w.heap.size v4 (L.take k ++ [⟨no, nul8⟩]) rfl Q2.out _ _ _ (L.drop k) rfl (X2.out.on K2.out) (by simp; omega) K2.out.size ?_; intro v5 w5 q5 k5; obtain ⟨A5, d5, N5, hv⟩ : ∃ A5 d5 N5, v5 = Value.slice A5 N5 d5 := (by obtain ⟨A5, d5, hv, _⟩ := q5.mut; exact ⟨_, _, _, hv⟩); subst hv; have Q5 := Lib.hid q5; have K5 := Lib.hid (K2.out.trans k5); clear q5 k5; have B5 := Lib.hid (HB.out.on K5.out); have b4 := B5.out.c1; have b5 := B5.out.f1) | (at_builtin; refine st_cat rfl _ _ rfl w.heap.size v1 (L.take k) rfl (Q1.out.on K3.out) _ _ _ [⟨no, nul8⟩] rfl E3.out (by simp; omega) (K1.out.trans (K3.out.mono K1.out.size)).size ?_; intro v4 w4 q4 k4; have Q2 := Lib.hid q4; have K2 := Lib.hid ((K1.out.trans (K3.out.mono K1.out.size)).trans k4); clear q4 k4; have c1 := (HB.out.on K2.out).c1) | (at_builtin; refine st_cat rfl _ _ rfl w.heap.size _ [] rfl (own_nil _ _) _ _ _ (L.take k) rfl X1.out (by simp; omega) (Nat.le_refl _) ?_; intro v1 w1 q1 k1; rw [List.nil_append] at q1; have Q1 := Lib.hid q1; have K1 := Lib.hid k1; clear q1 k1) | (refine st_build rfl _ rfl no rfl ?_) | (refine st_one rfl _ rfl ⟨no, nul8⟩ rfl (ok_nul no) ?_; intro b3 w3 hb3 r3 k3; have E3 := Lib.hid (exts_one r3 (ok_nul no)); have K3 := Lib.hid k3; clear r3 k3))
      go_ret
      exact need_done HB.out K5.out (by rw [HI.out, ← List.append_assoc, hk]; exact Q5.out) HKb.out hB
end Go.Proofs.Ytigfimlpjmmpoaa
