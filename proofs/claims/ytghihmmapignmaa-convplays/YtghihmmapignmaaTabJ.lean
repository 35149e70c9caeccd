/- Contracts of the reference's named and rows. -/
import Derived.Test.YtghihmmapignmaaTabH
import Derived.WalkKit
import Derived.WalkSpells
import Derived.WalkLawsBesides
import Derived.Lib.Hide
import Derived.Great.Walk
namespace Go.Proofs.Ytghihmmapignmaa
open Go.RowKit

def namedL : List Int := [0x00, 0x00, 0x09, 0x05, 0x0A, 0x25, 0x0D, 0x0D, 0x20, 0x40, 0x21, 0x5A, 0x22, 0x7F, 0x23, 0x7B, 0x24, 0x5B, 0x25, 0x6C, 0x26, 0x50, 0x27, 0x7D, 0x28, 0x4D, 0x29, 0x5D, 0x2A, 0x5C, 0x2B, 0x4E, 0x2C, 0x6B, 0x2D, 0x60, 0x2E, 0x4B, 0x2F, 0x61, 0x3A, 0x7A, 0x3B, 0x5E, 0x3C, 0x4C, 0x3D, 0x7E, 0x3E, 0x6E, 0x3F, 0x6F, 0x40, 0x7C, 0x5B, 0xAD, 0x5C, 0xE0, 0x5D, 0xBD, 0x5E, 0x9A, 0x5F, 0x6D, 0x60, 0x79, 0x7B, 0xC0, 0x7C, 0x4F, 0x7D, 0xD0, 0x7E, 0x5F]

def RNamedPost (w : World) (e : Ending) (w' : World) : Prop := ∃ b, e = .returned (.slice (some ⟨b, 0, none⟩) 74 74) ∧ Row w' b 5 (cs namedL) ∧ w.heap.size ≤ b ∧ Below w.heap.size w w'

set_option maxRecDepth 100000 in
set_option maxHeartbeats 1000000 in
theorem rnamed_any (w : World) : Calls Try.prog 77 #[] w (RNamedPost w) := by
  go_enter Try.func77, Try.ntmps77
  go_wp2_with (refine wpList_buildFlat rfl 24 5 74 _ rfl .u8 namedL Try.underlying24 (by kernel_rfl) (by kernel_rfl) rfl (by omega) (by omega) (by kernel_rfl) ?_)
  go_ret
  exact ⟨_, rfl, row_new _ _ _, Nat.le_refl _, (Below.refl _ _).alloc (Nat.le_refl _) _⟩

def part1 : Nat → List Int
  | 0 => []
  | k + 1 => part1 k ++ [48 + (k : Int), 240 + (k : Int)]
def part2 : Nat → List Int
  | 0 => []
  | k + 1 => part2 k ++ [65 + (k : Int), 193 + (k : Int), 74 + (k : Int), 209 + (k : Int), 97 + (k : Int), 129 + (k : Int), 106 + (k : Int), 145 + (k : Int)]
def part3 : Nat → List Int
  | 0 => []
  | k + 1 => part3 k ++ [83 + (k : Int), 226 + (k : Int), 115 + (k : Int), 162 + (k : Int)]
theorem len_part1 : ∀ k, (part1 k).length = 2 * k
  | 0 => rfl
  | k + 1 => by rw [part1, List.length_append, len_part1 k]; simp; omega
theorem len_part2 : ∀ k, (part2 k).length = 8 * k
  | 0 => rfl
  | k + 1 => by rw [part2, List.length_append, len_part2 k]; simp; omega
theorem len_part3 : ∀ k, (part3 k).length = 4 * k
  | 0 => rfl
  | k + 1 => by rw [part3, List.length_append, len_part3 k]; simp; omega

theorem Buf.alloc {w : World} {A : Option Addr} {n c : Nat} {zs : List Int} (h : Buf w A n c zs) (o : Obj) : Buf (w.alloc o) A n c zs :=
  h.only (S := fun _ => False) ((Only.refl _ w).alloc o) (fun _ _ _ _ h => h)

/-- Bytes that may be written, in blocks from B on. -/
structure Own (B : Nat) (W w : World) (A : Option Addr) (n c : Nat) (zs : List Int) : Prop where
  buf : Buf w A n c zs
  new : ∀ g o s, A = some ⟨g, o, s⟩ → B ≤ g
  below : Below B W w
  le : B ≤ W.heap.size

/-- One append further. -/
theorem Own.next {B : Nat} {W w w2 : World} {A A2 : Option Addr} {n c n2 c2 : Nat} {zs ys : List Int} (h : Own B W w A n c zs) (ob : Obj) (q1 : Buf w2 A2 n2 c2 ys) (q2 : Only (fun d => ∃ o s, A = some ⟨d, o, s⟩) (w.alloc ob) w2) (q3 : A2 = A ∨ A2 = some ⟨(w.alloc ob).heap.size, 0, none⟩) : Own B W w2 A2 n2 c2 ys := by
  have hs := h.below.size
  have hl := h.le
  refine ⟨q1, fun g o s e => ?_, (h.below.alloc (by omega) ob).trans (q2.below (by simp; omega) (fun d ⟨o, s, e⟩ => h.new d o s e)), hl⟩
  rcases q3 with rfl | rfl
  · exact h.new g o s e
  · injection e with e; injection e with e; simp at e; omega

def RRowsPost (B : Nat) (zs : List Int) (W : World) (e : Ending) (w' : World) : Prop := ∃ A n c, e = .returned (.slice A n c) ∧ Own B W w' A n c zs

set_option maxRecDepth 100000 in
set_option maxHeartbeats 4000000 in
theorem rrows_any (B : Nat) (A : Option Addr) (n c : Nat) (zs m : List Int) (W w : World) (h : Own B W w A n c zs) (hn : n ≤ 1000) (hm : zs ++ part1 10 ++ part2 9 ++ part3 8 = m) : Calls Try.prog 76 #[.slice A n c] w (RRowsPost B m W) := by
  have H := Lib.hid h
  have E := Lib.hid (show ∀ a b d, a = 10 → b = 9 → d = 8 → zs ++ part1 a ++ part2 b ++ part3 d = m from fun a b d ha hb hd => by rw [ha, hb, hd]; exact hm)
  have hz := h.buf.1
  have HZ := Lib.hid hz
  clear h hm hz
  go_enter Try.func76, Try.ntmps76
  go_wp2
  go_loopw [0, 3] (fun v i wr => ∃ (k : Nat) (A' : Option Addr) (n' c' : Nat), k ≤ 10 ∧ i = .int .i64 k ∧ v = .slice A' n' c' ∧ Hid (Own B W wr A' n' c' (zs ++ part1 k))) (fun _ i _ => 10 - (intOf i).toNat)
  case atStart => exact ⟨0, A, n, c, by omega, rfl, rfl, by rw [part1, List.append_nil]; exact H⟩
  case round =>
    clear H
    obtain ⟨k, A', n', c', hk, rfl, rfl, H⟩ := hrel
    have hl : n' ≤ 2000 := by have := H.out.buf.1; rw [List.length_append, HZ.out, len_part1] at this; omega
    by_cases hlt : k < 10
    · go_wp2_with (at_builtin; refine append_buf rfl _ _ rfl (H.out.buf.alloc _) rfl (bytes_new wr _ [48 + (k : Int), 240 + (k : Int)] 5 _ 2 rfl rfl rfl (by decide)) (fun h => by cases h) rfl (by omega) ?_; intro A2 c2 w2 q1 q2 q3; have Q := Lib.hid (H.out.next _ q1 q2 q3); clear q1 q2 q3)
      go_roundw
      case rel => exact ⟨k + 1, A2, _, c2, by omega, by go_num, rfl, by rw [part1, ← List.append_assoc]; exact Q⟩
      case measure => simp [intOf]; omega
    · have E2 := Lib.hid (show ∀ b d, b = 9 → d = 8 → zs ++ part1 k ++ part2 b ++ part3 d = m from fun b d hb hd => E.out k b d (by omega) hb hd)
      have HZ2 := Lib.hid (show (zs ++ part1 k).length = n' from H.out.buf.1)
      generalize zs ++ part1 k = z2 at H E2 HZ2
      clear E HZ
      go_wp2
      go_loopw [0, 4] (fun v i wr => ∃ (k : Nat) (A' : Option Addr) (n2 c' : Nat), k ≤ 9 ∧ i = .int .i64 k ∧ v = .slice A' n2 c' ∧ Hid (Own B W wr A' n2 c' (z2 ++ part2 k))) (fun _ i _ => 9 - (intOf i).toNat)
      case atStart => exact ⟨0, A', n', c', by omega, rfl, rfl, by rw [part2, List.append_nil]; exact H⟩
      case round =>
        clear H
        obtain ⟨k2, A2, n2, c2, hk2, rfl, rfl, H⟩ := hrel
        have hl2 : n2 ≤ 3000 := by have := H.out.buf.1; rw [List.length_append, HZ2.out, len_part2] at this; omega
        by_cases hlt2 : k2 < 9
        · go_wp2_with (at_builtin; refine append_buf rfl _ _ rfl (H.out.buf.alloc _) rfl (bytes_new wr _ [65 + (k2 : Int), 193 + (k2 : Int), 74 + (k2 : Int), 209 + (k2 : Int), 97 + (k2 : Int), 129 + (k2 : Int), 106 + (k2 : Int), 145 + (k2 : Int)] 5 _ 8 rfl rfl rfl (by decide)) (fun h => by cases h) rfl (by omega) ?_; intro A3 c3 w2 q1 q2 q3; have Q := Lib.hid (H.out.next _ q1 q2 q3); clear q1 q2 q3)
          go_roundw
          case rel => exact ⟨k2 + 1, A3, _, c3, by omega, by go_num, rfl, by rw [part2, ← List.append_assoc]; exact Q⟩
          case measure => simp [intOf]; omega
        · have E3 := Lib.hid (show ∀ d, d = 8 → z2 ++ part2 k2 ++ part3 d = m from fun d hd => E2.out k2 d (by omega) hd)
          have HZ3 := Lib.hid (show (z2 ++ part2 k2).length = n2 from H.out.buf.1)
          generalize z2 ++ part2 k2 = z3 at H E3 HZ3
          clear E2 HZ2
          go_wp2
          go_loopw [0, 5] (fun v i wr => ∃ (k : Nat) (A' : Option Addr) (n2 c' : Nat), k ≤ 8 ∧ i = .int .i64 k ∧ v = .slice A' n2 c' ∧ Hid (Own B W wr A' n2 c' (z3 ++ part3 k))) (fun _ i _ => 8 - (intOf i).toNat)
          case atStart => exact ⟨0, A2, n2, c2, by omega, rfl, rfl, by rw [part3, List.append_nil]; exact H⟩
          case round =>
            clear H
            obtain ⟨k3, A3, n3, c3, hk3, rfl, rfl, H⟩ := hrel
            have hl3 : n3 ≤ 4000 := by have := H.out.buf.1; rw [List.length_append, HZ3.out, len_part3] at this; omega
            by_cases hlt3 : k3 < 8
            · go_wp2_with (at_builtin; refine append_buf rfl _ _ rfl (H.out.buf.alloc _) rfl (bytes_new wr _ [83 + (k3 : Int), 226 + (k3 : Int), 115 + (k3 : Int), 162 + (k3 : Int)] 5 _ 4 rfl rfl rfl (by decide)) (fun h => by cases h) rfl (by omega) ?_; intro A4 c4 w2 q1 q2 q3; have Q := Lib.hid (H.out.next _ q1 q2 q3); clear q1 q2 q3)
              go_roundw
              case rel => exact ⟨k3 + 1, A4, _, c4, by omega, by go_num, rfl, by rw [part3, ← List.append_assoc]; exact Q⟩
              case measure => simp [intOf]; omega
            · have E4 := Lib.hid (show z3 ++ part3 k3 = m from E3.out k3 (by omega))
              go_wp2
              go_ret
              exact ⟨A3, n3, c3, rfl, by rw [← E4.out]; exact H.out⟩

end Go.Proofs.Ytghihmmapignmaa
