/- What a law's walk is told of an argument that is a slice of lists of bytes. -/
import Derived.Test.YtjmgdnkfhfbbiaaRead
import Derived.WalkKit
import Derived.Deep.Matrix
namespace Go.Proofs.Ytjmgdnkfhfbbiaa
open Go.RowKit

/-- A slice of lists of bytes that came in. -/
def IsRows (w : World) (A : Option Addr) (n : Nat) (L : List El) : Prop :=
  n ≤ maxLen ∧ Lists w A n L ∧ ∀ k, k < n → (L.getD k default).a = none → (L.getD k default).n = 0 ∧ (L.getD k default).c = 0

theorem isRows_nil (w : World) : IsRows w none 0 [] :=
  ⟨Nat.zero_le _, ⟨rfl, fun h => absurd h (by omega), fun k h => absurd h (by omega)⟩, fun k h => absurd h (by omega)⟩

theorem isRows_of {w : World} {a : Addr} {len cap base : Nat} {A : Nat → Option Addr} {L C : Nat → Nat} {Z : Nat → List Int} (hl : len ≤ cap) (hm : cap ≤ maxLen)
    (hx : ∀ r, r < cap → w.cell? (a.add r) = some (.slice (A r) (L r) (C r)) ∧ L r ≤ C r ∧ C r ≤ maxLen ∧ (Z r).length = C r ∧ (∀ n ∈ Z r, (Lit.int .u8 n).wf = true) ∧ (A r = none → C r = 0) ∧
        ∀ a', A r = some a' → base ≤ a'.block ∧ ∀ c, c < C r → w.cell? (a'.add c) = some (.int .u8 ((Z r).getD c 0))) :
    IsRows w (some a) len ((List.range len).map fun r => ⟨A r, L r, C r, (Z r).take (L r)⟩) := by
  have hg : ∀ k, k < len → ((List.range len).map fun r => (⟨A r, L r, C r, (Z r).take (L r)⟩ : El)).getD k default = ⟨A k, L k, C k, (Z k).take (L k)⟩ := by
    intro k hk
    rw [List.getD_eq_getElem?_getD, List.getElem?_map, List.getElem?_range hk]
    rfl
  refine ⟨by omega, ⟨by simp, fun hp => ?_, fun k hk => ?_⟩, fun k hk hn => ?_⟩
  · obtain ⟨b, o, s⟩ := a
    have h0 := (hx 0 (by omega)).1
    have hs : s = none := by simpa [Addr.add] using World.cell?_spot h0
    subst hs
    refine ⟨b, o, rfl, World.block_lt_of_cell? w ⟨b, o, none⟩ (by simpa [Addr.add] using h0), fun k hk => ?_⟩
    rw [hg k hk]
    have hk' := (hx k (by omega)).1
    by_cases h0 : k = 0
    · subst h0; simpa [Addr.add] using hk'
    · simpa [Addr.add, h0] using hk'
  · rw [hg k hk]
    obtain ⟨_, h1, h2, h3, _, h5, h6⟩ := hx k (by omega)
    show Bytes w (A k) (L k) (C k) ((Z k).take (L k))
    cases hA : A k with
    | none =>
      have h7 := h5 hA
      have h8 : L k = 0 := by omega
      rw [h7, h8]
      exact ⟨by simp, Nat.le_refl _, Nat.zero_le _, fun h => absurd h (by omega)⟩
    | some x => exact bytes_of h1 h2 h3 (fun i hi => (h6 x hA).2 i (by omega))
  · rw [hg k hk] at hn ⊢
    obtain ⟨_, h1, _, _, _, h5, _⟩ := hx k (by omega)
    have h7 := h5 hn
    exact ⟨by show L k = 0; omega, h7⟩

/-- All bytes of lists, one behind the other. -/
def cat (L : List El) : List Int := L.flatMap fun x => x.zs
theorem cat_snoc (L : List El) (k : Nat) (h : k < L.length) : cat (L.take (k + 1)) = cat (L.take k) ++ (L.getD k default).zs := by
  rw [List.take_add_one, cat, List.flatMap_append, List.getElem?_eq_getElem h, List.getD_eq_getElem?_getD, List.getElem?_eq_getElem h]
  simp [cat]
theorem allZeros_snoc (L : List El) (k : Nat) (h : k < L.length) : allZeros (L.take (k + 1)) = (allZeros (L.take k) && Plain.zeros (L.getD k default).zs) := by
  rw [List.take_add_one, allZeros, List.all_append, List.getElem?_eq_getElem h, List.getD_eq_getElem?_getD, List.getElem?_eq_getElem h]
  simp [allZeros]
theorem zeros_cat : ∀ L : List El, Plain.zeros (cat L) = allZeros L
  | [] => rfl
  | x :: L => by
    have := zeros_cat L
    rw [show cat (x :: L) = x.zs ++ cat L from rfl, Plain.zeros_append, this]; rfl
theorem zeros_snoc (zs : List Int) (j : Nat) (h : j < zs.length) : Plain.zeros (zs.take (j + 1)) = (Plain.zeros (zs.take j) && (zs.getD j 0 == 0)) := by
  rw [List.take_add_one, Plain.zeros_append, List.getElem?_eq_getElem h, List.getD_eq_getElem?_getD, List.getElem?_eq_getElem h]
  simp [Plain.zeros]

end Go.Proofs.Ytjmgdnkfhfbbiaa
