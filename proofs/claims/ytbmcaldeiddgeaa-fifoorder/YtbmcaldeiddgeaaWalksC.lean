/- Contract of Take. -/
import Derived.Test.YtbmcaldeiddgeaaWalksB
import Derived.WalkKit
import Derived.WalkSpells
import Derived.WalkLawsBesides
import Derived.Lib.Hide
import Derived.BigQuiet
import Derived.StillTailTactics
namespace Go.Proofs.Ytbmcaldeiddgeaa
open Go.RowKit

theorem Fi.drewN {w : World} {b : Nat} {S : Nat → Prop} {k : Int} {zs : List Int} (h : Fi w b S k zs) (n : Nat) : Fi (w.drewN n) b S k zs := h.on (below_drewN (Below.refl _ _) n)

/-- There are fewer. -/
def TakeNo (b : Nat) (S : Nat → Prop) (k : Nat) (zs : List Int) (w : World) (e : Ending) (w' : World) : Prop :=
  e = .returned (.tuple #[.slice none 0 0, .bool false]) ∧ Fi w' b S k zs ∧ Below w.heap.size w w'
/-- A block. -/
def TakeYes (b : Nat) (S : Nat → Prop) (k : Nat) (zs : List Int) (w : World) (e : Ending) (w' : World) : Prop :=
  ∃ A c S', e = .returned (.tuple #[.slice A k c, .bool true]) ∧ Buf w' A k c (zs.take k) ∧ (∀ g o s, A = some ⟨g, o, s⟩ → w.heap.size ≤ g ∧ ¬ S' g) ∧
    Fi w' b S' k (zs.drop k) ∧ Only S w w' ∧ ∀ d, S' d → S d ∨ w.heap.size ≤ d

theorem take_step {w w3 : World} {b : Nat} {S : Nat → Prop} {K : Int} {zs ts : List Int} {g o n c k k3 c3 : Nat} {A3 : Option Addr} {H2 : Nat} (H : Fi w b S K zs) (c1 : w.cell? ⟨b, 1, none⟩ = some (.slice (some ⟨g, o, none⟩) n c)) (HB : Buf w (some ⟨g, o, none⟩) n c zs)
    (hA : ∀ g' o' s, some (⟨g, o, none⟩ : Addr) = some ⟨g', o', s⟩ → S g' ∧ g' ≠ b) (q1 : Buf w3 A3 k3 c3 ts) (q2 : ∀ g o s, A3 = some ⟨g, o, s⟩ → H2 ≤ g) (hk : k ≤ n ∧ w.heap.size ≤ H2) (B3 : Below w.heap.size w w3) (W4 : World) (hW : w3.drew = W4)
    (A' : Option Addr) (n' c' : Nat) (hA' : A' = some ⟨g, o + k, none⟩ ∨ (c = k ∧ A' = some ⟨g, o, none⟩)) (hn' : n' = n - k) (hc' : c' = c - k) :
    Fi (W4.setCell ⟨b, 1, none⟩ (.slice A' n' c')) b S K (zs.drop k) ∧ Only S w (W4.setCell ⟨b, 1, none⟩ (.slice A' n' c')) ∧ Buf (W4.setCell ⟨b, 1, none⟩ (.slice A' n' c')) A3 k3 c3 ts ∧ ∀ g o s, A3 = some ⟨g, o, s⟩ → w.heap.size ≤ g ∧ ¬ S g := by
  subst hW hn' hc'
  have hbw := H.lt b H.mine
  have hS : ∀ g o s, A3 = some ⟨g, o, s⟩ → ¬ S g := fun g o s he hs => by have h1 := q2 g o s he; have h2 := H.lt g hs; omega
  have hd : Only S w w3.drew := (Only.of_below B3).drew
  have hY : Only S w (w3.drew.setCell ⟨b, 1, none⟩ (.slice A' (n - k) (c - k))) := hd.setCell ⟨b, 1, none⟩ (fun _ => H.mine) _
  have hb2 : Buf w3.drew (some ⟨g, o, none⟩) n c zs := HB.only (S := fun _ => False) ((Only.of_below B3).drew) (fun _ _ _ _ h => h)
  refine ⟨Fi.stored H.mine (fun d h => Nat.lt_of_lt_of_le (H.lt d h) hd.size) ((B3.cell (p := ⟨b, 0, none⟩) hbw).trans H.size) ((B3.cell (p := ⟨b, 1, none⟩) hbw).trans c1) ((B3.frozen (p := ⟨b, 1, none⟩) hbw).trans H.free) (hb2.cut k hk.1 A' hA') ?_, hY, ?_, fun g o s he => ⟨by have := q2 g o s he; omega, hS g o s he⟩⟩
  · intro g' o' s he
    rcases hA' with rfl | ⟨_, rfl⟩
    · injection he with he
      injection he with e1 e2 e3
      subst e1
      exact hA g o none rfl
    · exact hA g' o' s he
  · exact q1.only (S := fun d => d = b) (((Only.refl (fun d => d = b) w3).drew).setCell ⟨b, 1, none⟩ (fun _ => rfl) _) (fun g o s he hg => hS g o s he (by rw [hg]; exact H.mine))

set_option maxHeartbeats 400000 in
theorem take_no (b : Nat) (S : Nat → Prop) (k : Nat) (zs : List Int) (w : World) (h : Fi w b S k zs) (hk : zs.length < k) :
    Calls Try.prog 9 #[.pointer (some ⟨b, 0, none⟩)] w (TakeNo b S k zs w) := by
  have H := Lib.hid h
  obtain ⟨A, n, c, c1, hb, _⟩ := h.held
  have c0 := h.size
  have hn : n < k := by have := hb.1; omega
  clear hb h hk
  have hni : (n : Int) < (k : Int) := by omega
  go_enter Try.func9, Try.ntmps9
  go_wp2
  go_quiet (fail)
  go_wp2
  go_ret2
  exact ⟨rfl, H.out.drewN _, below_drewN (Below.refl _ _) _⟩

set_option maxHeartbeats 1000000 in
theorem take_yes (b : Nat) (S : Nat → Prop) (k : Nat) (zs : List Int) (w : World) (h : Fi w b S k zs) (hk : k ≤ zs.length) (h1 : 1 ≤ k) (hm : k ≤ 4096) :
    Calls Try.prog 9 #[.pointer (some ⟨b, 0, none⟩)] w (TakeYes b S k zs w) := by
  have H := Lib.hid h
  obtain ⟨A, n, c, c1, hb, hA⟩ := h.held
  have c0 := h.size
  have hf := h.free
  have hn : k ≤ n := by have := hb.1; omega
  have hnc := hb.2.1
  have hcm : c ≤ 9223372036854775807 := by have := hb.2.2.1; unfold maxLen at this; omega
  obtain ⟨g, o, rfl⟩ : ∃ g o, A = some ⟨g, o, none⟩ := by
    rcases hb.2.2.2 with ⟨_, h0⟩ | ⟨g, o, he, _⟩
    · omega
    · exact ⟨g, o, he⟩
  have TX := Lib.hid (show Bytes w (some ⟨g, o, none⟩) k c (zs.take k) from by have := hb.bytes.1.piece 0 k (by omega); simpa using this)
  have HL := Lib.hid (show (zs.take k).length = k by have := hb.1; simp; omega)
  have HB := Lib.hid hb; have HA := Lib.hid hA
  clear hb h hk hA
  have hni : decide ((n : Int) < (k : Int)) = false := by simp; omega
  have hkn : (k : Int) ≤ (n : Int) := by omega
  have hkc : (k : Int) ≤ (c : Int) := by omega
  have hk0 : (0 : Int) ≤ (k : Int) := by omega
  go_enter Try.func9, Try.ntmps9
  go_wp2
  go_quiet (fail)
  go_wp2
  generalize hW : w.drewN nq = W at *
  have B1 := Lib.hid (show Below w.heap.size w W by rw [← hW]; exact below_drewN (Below.refl _ _) _)
  have d0 := c0; have d1 := c1
  have c0 : W.cell? ⟨b, 0, none⟩ = some (.int .i64 k) := by rw [← hW]; exact c0
  have c1 : W.cell? ⟨b, 1, none⟩ = some (.slice (some ⟨g, o, none⟩) n c) := by rw [← hW]; exact c1
  clear hW
  go_still_tail 9, (by kernel_rfl)
  change wpList _ _ _ _ _ W.drew
  generalize hW2 : W.drew = W2 at *
  have B2 := Lib.hid (show Below w.heap.size w W2 by rw [← hW2]; exact B1.out.drew)
  clear hW2 B1 c0 c1
  go_wp2_with fail
  refine (clone_any g o k c (zs.take k) W2 (B2.out |> fun b2 => TX.out.on b2) (by omega)).mono ?_
  rintro e w3 ⟨A3, c3, rfl, q1, q2, q3⟩
  rw [HL.out] at q1 ⊢
  have Q1 := Lib.hid q1; have Q2 := Lib.hid q2
  have B3 := Lib.hid (B2.out.trans (q3.mono B2.out.size))
  clear q1 q2 q3
  have hbw := H.out.lt b H.out.mine
  have c0 : w3.cell? ⟨b, 0, none⟩ = some (.int .i64 k) := (B3.out.cell (p := ⟨b, 0, none⟩) hbw).trans d0
  have c1 : w3.cell? ⟨b, 1, none⟩ = some (.slice (some ⟨g, o, none⟩) n c) := (B3.out.cell (p := ⟨b, 1, none⟩) hbw).trans d1
  have hf3 : w3.frozen? ⟨b, 1, none⟩ = false := (B3.out.frozen (p := ⟨b, 1, none⟩) hbw).trans hf
  by_cases hck : c = k
  · have hck2 : n = k := by omega
    go_wp2
    go_still_tail 12, (by kernel_rfl)
    change wpList _ _ _ _ _ w3.drew
    generalize hW4 : w3.drew = W4 at *
    obtain ⟨X, Y, Z⟩ := take_step H.out d1 HB.out HA.out Q1.out Q2.out ⟨by omega, B2.out.size⟩ B3.out W4 hW4 (some ⟨g, o, none⟩) 0 0 (.inr ⟨hck, rfl⟩) (by omega) (by omega)
    have c1 : W4.cell? ⟨b, 1, none⟩ = some (.slice (some ⟨g, o, none⟩) n c) := by rw [← hW4]; exact c1
    have hf4 : W4.frozen? ⟨b, 1, none⟩ = false := by rw [← hW4]; exact hf3
    clear hW4
    go_wp2
    go_ret2
    exact ⟨A3, c3, S, rfl, Z.1, Z.2, X, Y, fun d hd => .inl hd⟩
  · go_wp2
    go_still_tail 12, (by kernel_rfl)
    change wpList _ _ _ _ _ w3.drew
    generalize hW4 : w3.drew = W4 at *
    obtain ⟨X, Y, Z⟩ := take_step H.out d1 HB.out HA.out Q1.out Q2.out ⟨by omega, B2.out.size⟩ B3.out W4 hW4 (some ⟨g, o + k, none⟩) (n - k) (c - k) (.inl rfl) rfl rfl
    have c1 : W4.cell? ⟨b, 1, none⟩ = some (.slice (some ⟨g, o, none⟩) n c) := by rw [← hW4]; exact c1
    have hf4 : W4.frozen? ⟨b, 1, none⟩ = false := by rw [← hW4]; exact hf3
    clear hW4
    go_wp2
    go_ret2
    exact ⟨A3, c3, S, rfl, Z.1, Z.2, X, Y, fun d hd => .inl hd⟩

end Go.Proofs.Ytbmcaldeiddgeaa
