/- Contract of the reference's Take. -/
import Derived.Test.YtbmcaldeiddgeaaWalksC
import Derived.WalkKit
import Derived.WalkSpells
import Derived.WalkLawsBesides
import Derived.Lib.Hide
import Derived.BigQuiet
import Derived.StillTailTactics
import Derived.Deep.RegionLaw
namespace Go.Proofs.Ytbmcaldeiddgeaa
open Go.RowKit

theorem rtake_step {w w4 : World} {b : Nat} {S : Nat → Prop} {K : Int} {zs ts ys : List Int} {k3 c3 n5 c5 : Nat} {A3 A5 : Option Addr} {u : Value} {H2 : Nat} (H : Fi w b S K zs) (c1 : w4.cell? ⟨b, 1, none⟩ = some u)
    (q1 : Buf w4 A3 k3 c3 ts) (q2 : ∀ g o s, A3 = some ⟨g, o, s⟩ → w.heap.size ≤ g ∧ g < H2) (q4 : Buf w4 A5 n5 c5 ys) (q5 : ∀ g o s, A5 = some ⟨g, o, s⟩ → H2 ≤ g) (hH : w.heap.size ≤ H2) (B4 : Below w.heap.size w w4) :
    ∃ S', Fi (w4.setCell ⟨b, 1, none⟩ (.slice A5 n5 c5)) b S' K ys ∧ Only S w (w4.setCell ⟨b, 1, none⟩ (.slice A5 n5 c5)) ∧ Buf (w4.setCell ⟨b, 1, none⟩ (.slice A5 n5 c5)) A3 k3 c3 ts ∧ (∀ g o s, A3 = some ⟨g, o, s⟩ → w.heap.size ≤ g ∧ ¬ S' g) ∧ ∀ d, S' d → S d ∨ w.heap.size ≤ d := by
  have hbw := H.lt b H.mine
  have hd : Only S w w4 := Only.of_below B4
  refine ⟨fun d => S d ∨ ∃ o s, A5 = some ⟨d, o, s⟩, Fi.stored (.inl H.mine) ?_ ((B4.cell (p := ⟨b, 0, none⟩) hbw).trans H.size) c1 ((B4.frozen (p := ⟨b, 1, none⟩) hbw).trans H.free) q4 ?_, hd.setCell ⟨b, 1, none⟩ (fun _ => H.mine) _, ?_, ?_, ?_⟩
  · rintro d (h | ⟨o, s, he⟩)
    · exact Nat.lt_of_lt_of_le (H.lt d h) hd.size
    · obtain ⟨_, _, _, ⟨h4, _⟩ | ⟨g', o', he', hl, _⟩⟩ := q4
      · rw [h4] at he; cases he
      · rw [he'] at he; injection he with he; injection he with he; omega
  · intro g o s he
    exact ⟨.inr ⟨o, s, he⟩, by have := q5 g o s he; omega⟩
  · exact q1.only (S := fun d => d = b) ((Only.refl (fun d => d = b) w4).setCell ⟨b, 1, none⟩ (fun _ => rfl) _) (fun g o s he hg => by have := q2 g o s he; omega)
  · intro g o s he
    refine ⟨(q2 g o s he).1, ?_⟩
    rintro (h | ⟨o', s', he'⟩)
    · have := q2 g o s he; have := H.lt g h; omega
    · have := q2 g o s he; have := q5 g o' s' he'; omega
  · rintro d (h | ⟨o, s, he⟩)
    · exact .inl h
    · right; have := q5 d o s he; omega

theorem rtake_all {w W4 w5 : World} {b : Nat} {S : Nat → Prop} {K : Int} {zs ts ys : List Int} {k3 c3 n5 c5 : Nat} {A3 A5 : Option Addr} {u : Value} (H : Fi w b S K zs) (d1 : w.cell? ⟨b, 1, none⟩ = some u) (B4 : Below w.heap.size w W4) (Q1 : Buf W4 A3 k3 c3 ts) (Q4 : ∀ g o s, A3 = some ⟨g, o, s⟩ → w.heap.size ≤ g ∧ g < W4.heap.size)
    (q1 : Buf w5 A5 n5 c5 ys) (q2 : Only (fun d => ∃ o s, (none : Option Addr) = some ⟨d, o, s⟩) W4 w5) (q3 : A5 = none ∨ A5 = some ⟨W4.heap.size, 0, none⟩) :
    w5.cell? ⟨b, 1, none⟩ = some u ∧ w5.frozen? ⟨b, 1, none⟩ = false ∧ ∃ S', Fi (w5.setCell ⟨b, 1, none⟩ (.slice A5 n5 c5)) b S' K ys ∧ Only S w (w5.setCell ⟨b, 1, none⟩ (.slice A5 n5 c5)) ∧ Buf (w5.setCell ⟨b, 1, none⟩ (.slice A5 n5 c5)) A3 k3 c3 ts ∧ (∀ g o s, A3 = some ⟨g, o, s⟩ → w.heap.size ≤ g ∧ ¬ S' g) ∧ ∀ d, S' d → S d ∨ w.heap.size ≤ d := by
  have hbw := H.lt b H.mine
  have B45 : Below W4.heap.size W4 w5 := q2.below (Nat.le_refl _) (fun d ⟨_, _, he⟩ => by cases he)
  have B5 := B4.trans (B45.mono B4.size)
  have e1 := (B5.cell (p := ⟨b, 1, none⟩) hbw).trans d1
  refine ⟨e1, (B5.frozen (p := ⟨b, 1, none⟩) hbw).trans H.free, rtake_step H e1 (Q1.only (S := fun _ => False) (Only.of_below B45) (fun _ _ _ _ h => h)) Q4 q1 ?_ B4.size B5⟩
  intro g o s he
  rcases q3 with rfl | rfl
  · cases he
  · injection he with he; injection he with he; omega

set_option maxHeartbeats 400000 in
theorem rtake_no (b : Nat) (S : Nat → Prop) (k : Nat) (zs : List Int) (w : World) (h : Fi w b S k zs) (hk : zs.length < k) :
    Calls Try.prog 15 #[.pointer (some ⟨b, 0, none⟩)] w (TakeNo b S k zs w) := by
  have H := Lib.hid h
  obtain ⟨A, n, c, c1, hb, _⟩ := h.held
  have c0 := h.size
  have hn : n < k := by have := hb.1; omega
  clear hb h hk
  have hni : (n : Int) < (k : Int) := by omega
  go_enter Try.func15, Try.ntmps15
  go_wp2
  go_quiet (fail)
  go_wp2
  go_ret2
  exact ⟨rfl, H.out.drewN _, below_drewN (Below.refl _ _) _⟩

set_option maxHeartbeats 1000000 in
theorem rtake_yes (b : Nat) (S : Nat → Prop) (k : Nat) (zs : List Int) (w : World) (h : Fi w b S k zs) (hk : k ≤ zs.length) (h1 : 1 ≤ k) (hm : k ≤ 4096) (hz : zs.length ≤ 1000000) :
    Calls Try.prog 15 #[.pointer (some ⟨b, 0, none⟩)] w (TakeYes b S k zs w) := by
  have H := Lib.hid h
  obtain ⟨A, n, c, c1, hb, hA⟩ := h.held
  have c0 := h.size
  have hn : k ≤ n := by have := hb.1; omega
  have hnm : n ≤ 1000000 := by have := hb.1; omega
  have hnc := hb.2.1
  have hcm : c ≤ 9223372036854775807 := by have := hb.2.2.1; unfold maxLen at this; omega
  obtain ⟨g, o, rfl⟩ : ∃ g o, A = some ⟨g, o, none⟩ := by
    rcases hb.2.2.2 with ⟨_, h0⟩ | ⟨g, o, he, _⟩
    · omega
    · exact ⟨g, o, he⟩
  have TX := Lib.hid (show Bytes w (some ⟨g, o, none⟩) k c (zs.take k) from by have := hb.bytes.1.piece 0 k (by omega); simpa using this)
  have HB := Lib.hid hb; have HA := Lib.hid hA
  clear hb h hk hA hz
  have hni : decide ((n : Int) < (k : Int)) = false := by simp; omega
  have hkn : (k : Int) ≤ (n : Int) := by omega
  have hkc : (k : Int) ≤ (c : Int) := by omega
  have hk0 : (0 : Int) ≤ (k : Int) := by omega
  have hk1 : 0 + k ≤ 1000000 := by omega
  go_enter Try.func15, Try.ntmps15
  go_wp2
  go_quiet (fail)
  go_wp2
  generalize hW : w.drewN nq = W at *
  have B1 := Lib.hid (show Below w.heap.size w W by rw [← hW]; exact below_drewN (Below.refl _ _) _)
  have d0 := c0; have d1 := c1
  have c0 : W.cell? ⟨b, 0, none⟩ = some (.int .i64 k) := by rw [← hW]; exact c0
  have c1 : W.cell? ⟨b, 1, none⟩ = some (.slice (some ⟨g, o, none⟩) n c) := by rw [← hW]; exact c1
  clear hW
  go_still_tail 9, (by kernel_rfl)
  change wpList _ _ _ _ _ W.drew
  generalize hW2 : W.drew = W2 at *
  have B2 := Lib.hid (show Below w.heap.size w W2 by rw [← hW2]; exact B1.out.drew)
  clear hW2 B1 c0 c1
  have TX2 := Lib.hid (TX.out.on B2.out)
  go_wp2_with (at_builtin; refine append_buf rfl _ _ rfl (Buf.nil _) rfl TX2.out (fun h => by cases h) rfl hk1 ?_; intro A3 c3 w3 q1 q2 q3; have Q1 := Lib.hid q1; have Q2 := Lib.hid q2; have Q3 := Lib.hid q3; clear q1 q2 q3)
  have B3 := Lib.hid (B2.out.trans (Q2.out.below B2.out.size (fun d ⟨_, _, he⟩ => by cases he)))
  have Q4 := Lib.hid (show ∀ g o s, A3 = some ⟨g, o, s⟩ → w.heap.size ≤ g ∧ g < w3.heap.size from fun g o s he => by
    obtain ⟨_, _, _, ⟨h4, _⟩ | ⟨g', o', he', hl, _⟩⟩ := Q1.out
    · rw [h4] at he; cases he
    · have h5 := B2.out.size
      rw [he'] at he; injection he with he; injection he with he
      rcases Q3.out with hx | hx
      · rw [hx] at he'; cases he'
      · rw [hx] at he'; injection he' with he'; injection he' with he'; omega)
  rw [Nat.zero_add] at *
  rw [List.nil_append] at Q1
  clear Q2 Q3
  have hbw := H.out.lt b H.out.mine
  have c0 : w3.cell? ⟨b, 0, none⟩ = some (.int .i64 k) := (B3.out.cell (p := ⟨b, 0, none⟩) hbw).trans d0
  have c1 : w3.cell? ⟨b, 1, none⟩ = some (.slice (some ⟨g, o, none⟩) n c) := (B3.out.cell (p := ⟨b, 1, none⟩) hbw).trans d1
  have HB3 := Lib.hid (HB.out.only (S := fun _ => False) (Only.of_below B3.out) (fun _ _ _ _ h => h))
  clear hk1
  by_cases hck : c = k
  · have hck2 : n = k := by omega
    have TY := Lib.hid (show Bytes w3 (some ⟨g, o, none⟩) 0 0 (zs.drop k) by have := (HB3.out.cut k hn (some ⟨g, o, none⟩) (.inr ⟨hck, rfl⟩)).bytes.1; rwa [show n - k = 0 by omega, show c - k = 0 by omega] at this)
    have hl5 : 0 + 0 ≤ 1000000 := by omega
    have B4 := Lib.hid (show Below w3.heap.size w3 w3.drew from (Below.refl _ _).drew)
    have TY4 := Lib.hid (TY.out.on B4.out)
    have BW := Lib.hid (B3.out.trans (B4.out.mono B3.out.size))
    have QW := Lib.hid (Q1.out.only (S := fun _ => False) (Only.of_below B4.out) (fun _ _ _ _ h => h))
    go_wp2
    go_region_law (refine step_append_buf rfl (.const (.slice none 0 0)) (.tmp 34) rfl (Buf.nil w3.drew) rfl TY4.out (fun h => by cases h) (by simp [Act.eval, Act.put]) hl5 ?_; intro A5 c5 w5 q1 q2 q3; obtain ⟨e1, ef, S', X, Y, Z1, Z2, Z3⟩ := rtake_all H.out d1 BW.out QW.out (fun g o s he => ⟨(Q4.out g o s he).1, Nat.lt_of_lt_of_le (Q4.out g o s he).2 B4.out.size⟩) q1 q2 q3; clear q1 q2 q3)
    all_goals
      go_wp2
      go_ret2
      exact ⟨A3, c3, S', rfl, Z1, Z2, by simpa using X, Y, Z3⟩
  · have TY := Lib.hid (HB3.out.cut k hn (some ⟨g, o + k, none⟩) (.inl rfl)).bytes.1
    have hl5 : 0 + (n - k) ≤ 1000000 := by omega
    have B4 := Lib.hid (show Below w3.heap.size w3 w3.drew from (Below.refl _ _).drew)
    have TY4 := Lib.hid (TY.out.on B4.out)
    have BW := Lib.hid (B3.out.trans (B4.out.mono B3.out.size))
    have QW := Lib.hid (Q1.out.only (S := fun _ => False) (Only.of_below B4.out) (fun _ _ _ _ h => h))
    go_wp2
    go_region_law (refine step_append_buf rfl (.const (.slice none 0 0)) (.tmp 34) rfl (Buf.nil w3.drew) rfl TY4.out (fun h => by cases h) (by simp [Act.eval, Act.put]) hl5 ?_; intro A5 c5 w5 q1 q2 q3; rw [Nat.zero_add] at q1; obtain ⟨e1, ef, S', X, Y, Z1, Z2, Z3⟩ := rtake_all H.out d1 BW.out QW.out (fun g o s he => ⟨(Q4.out g o s he).1, Nat.lt_of_lt_of_le (Q4.out g o s he).2 B4.out.size⟩) q1 q2 q3; clear q1 q2 q3)
    all_goals
      go_wp2
      go_ret2
      exact ⟨A3, c3, S', rfl, Z1, Z2, by simpa using X, Y, Z3⟩

end Go.Proofs.Ytbmcaldeiddgeaa
