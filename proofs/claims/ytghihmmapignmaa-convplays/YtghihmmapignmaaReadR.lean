/- What a law's walk is told of an argument that is a slice of lists of bytes, or of truths. -/
import Derived.Test.YtghihmmapignmaaRead
import Derived.Test.YtghihmmapignmaaPlainF
import Derived.WalkKit
import Derived.Deep.Matrix
import Derived.Deep.Slices
import Derived.Deep.SlicePairs
namespace Go.Proofs.Ytghihmmapignmaa
open Go.RowKit Go.ChangeShapes Go.WideShapes

theorem byte_of {z : Int} (h : (Lit.int .u8 z).wf = true) : 0 ≤ z ∧ z < 256 := by
  have := bounds_u8 h
  omega

/-- A list of bytes that is told. -/
structure ElOk (w : World) (x : El) : Prop where
  bytes : Bytes w x.a x.n x.c x.zs
  nil : x.a = none → x.n = 0 ∧ x.c = 0
  are : Are x.zs
theorem ElOk.on {w w' : World} {x : El} (h : ElOk w x) (k : Below w.heap.size w w') : ElOk w' x := ⟨h.bytes.on k, h.nil, h.are⟩

/-- A slice of lists of bytes. -/
structure Lists (w : World) (A : Option Addr) (m : Nat) (L : List El) : Prop where
  len : L.length = m
  cells : 0 < m → ∃ b o, A = some ⟨b, o, none⟩ ∧ b < w.heap.size ∧ ∀ k, k < m → w.cell? ⟨b, o + k, none⟩ = some (.slice (L.getD k default).a (L.getD k default).n (L.getD k default).c)
  ok : ∀ k, k < m → ElOk w (L.getD k default)
theorem Lists.on {w w' : World} {A : Option Addr} {m : Nat} {L : List El} (h : Lists w A m L) (k : Below w.heap.size w w') : Lists w' A m L := by
  refine ⟨h.len, fun hn => ?_, fun j hj => (h.ok j hj).on k⟩
  obtain ⟨b, o, rfl, hb, hc⟩ := h.cells hn
  exact ⟨b, o, rfl, Nat.lt_of_lt_of_le hb k.size, fun j hj => (k.cell (p := ⟨b, o + j, none⟩) hb).trans (hc j hj)⟩

/-- A slice of lists of bytes that came in. -/
def IsRows (w : World) (A : Option Addr) (n : Nat) (L : List El) : Prop := n ≤ maxLen ∧ Lists w A n L

theorem isRows_nil (w : World) : IsRows w none 0 [] := ⟨Nat.zero_le _, ⟨rfl, fun h => absurd h (by omega), fun k h => absurd h (by omega)⟩⟩

theorem isRows_of {w : World} {a : Addr} {len cap base : Nat} {A : Nat → Option Addr} {L C : Nat → Nat} {Z : Nat → List Int} (hl : len ≤ cap) (hm : cap ≤ maxLen)
    (hx : ∀ r, r < cap → w.cell? (a.add r) = some (.slice (A r) (L r) (C r)) ∧ L r ≤ C r ∧ C r ≤ maxLen ∧ (Z r).length = C r ∧ (∀ n ∈ Z r, (Lit.int .u8 n).wf = true) ∧ (A r = none → C r = 0) ∧
        ∀ a', A r = some a' → base ≤ a'.block ∧ ∀ c, c < C r → w.cell? (a'.add c) = some (.int .u8 ((Z r).getD c 0))) :
    IsRows w (some a) len ((List.range len).map fun r => ⟨A r, L r, C r, (Z r).take (L r)⟩) := by
  have hg : ∀ k, k < len → ((List.range len).map fun r => (⟨A r, L r, C r, (Z r).take (L r)⟩ : El)).getD k default = ⟨A k, L k, C k, (Z k).take (L k)⟩ := by
    intro k hk
    rw [List.getD_eq_getElem?_getD, List.getElem?_map, List.getElem?_range hk]
    rfl
  refine ⟨by omega, ⟨by simp, fun hp => ?_, fun k hk => ⟨?_, fun hn => ?_, ?_⟩⟩⟩
  · obtain ⟨b, o, s⟩ := a
    have h0 := (hx 0 (by omega)).1
    have hs : s = none := by simpa [Addr.add] using World.cell?_spot h0
    subst hs
    refine ⟨b, o, rfl, World.block_lt_of_cell? w ⟨b, o, none⟩ (by simpa [Addr.add] using h0), fun k hk => ?_⟩
    rw [hg k hk]
    have hk' := (hx k (by omega)).1
    by_cases h0 : k = 0
    · subst h0; simpa [Addr.add] using hk'
    · simpa [Addr.add, h0] using hk'
  · rw [hg k hk]
    obtain ⟨_, h1, h2, h3, _, h5, h6⟩ := hx k (by omega)
    show Bytes w (A k) (L k) (C k) ((Z k).take (L k))
    cases hA : A k with
    | none =>
      have h7 := h5 hA
      have h8 : L k = 0 := by omega
      rw [h7, h8]
      exact ⟨by simp, Nat.le_refl _, Nat.zero_le _, fun h => absurd h (by omega)⟩
    | some x => exact bytes_of h1 h2 h3 (fun i hi => (h6 x hA).2 i (by omega))
  · rw [hg k hk] at hn ⊢
    obtain ⟨_, h1, _, _, _, h5, _⟩ := hx k (by omega)
    have h7 := h5 hn
    exact ⟨by show L k = 0; omega, h7⟩
  · rw [hg k hk]
    obtain ⟨_, _, _, _, h4, _, _⟩ := hx k (by omega)
    exact fun z hz => byte_of (h4 z (List.mem_of_mem_take hz))

/-- One list in a slice, just written out. -/
theorem lists_one (w : World) (x : El) (t : TypeId) (s : Nat) (hs : s = w.heap.size) (hx : ElOk w x) : Lists (w.alloc (.cells #[.slice x.a x.n x.c] t)) (some ⟨s, 0, none⟩) 1 [x] := by
  subst hs
  have hk : Below w.heap.size w (w.alloc (.cells #[.slice x.a x.n x.c] t)) := (Below.refl _ _).alloc (Nat.le_refl _) _
  refine ⟨rfl, fun _ => ⟨_, _, rfl, by simp, fun k hk => ?_⟩, fun k hk' => ?_⟩
  · obtain rfl : k = 0 := by omega
    rw [cell_of_row _ _ _ _ t (0, 0) (heap_alloc_new w _)]; rfl
  · obtain rfl : k = 0 := by omega
    exact hx.on hk

/-- All bytes of lists, one behind the other. -/
def cat (L : List El) : List Int := L.flatMap fun x => x.zs
theorem cat_snoc (L : List El) (k : Nat) (h : k < L.length) : cat (L.take (k + 1)) = cat (L.take k) ++ (L.getD k default).zs := by
  rw [List.take_add_one, cat, List.flatMap_append, List.getElem?_eq_getElem h, List.getD_eq_getElem?_getD, List.getElem?_eq_getElem h]
  simp [cat]
theorem cat_take (L : List El) (k : Nat) : (cat (L.take k)).length ≤ (cat L).length := by
  have h2 : cat L = cat (L.take k) ++ cat (L.drop k) := by rw [cat, cat, cat, ← List.flatMap_append, List.take_append_drop]
  rw [h2]; simp
theorem cat_le (L : List El) (k : Nat) (h : k < L.length) : (cat (L.take k)).length + (L.getD k default).zs.length ≤ (cat L).length := by
  have h1 := cat_snoc L k h
  have h2 := cat_take L (k + 1)
  rw [h1] at h2
  simpa using h2

/-- A slice of truths. -/
structure Bools (w : World) (A : Option Addr) (n : Nat) (T : List Bool) : Prop where
  len : T.length = n
  cells : 0 < n → ∃ b o, A = some ⟨b, o, none⟩ ∧ b < w.heap.size ∧ ∀ k, k < n → w.cell? ⟨b, o + k, none⟩ = some (.bool (T.getD k false))
def IsBools (w : World) (A : Option Addr) (n : Nat) (T : List Bool) : Prop := n ≤ maxLen ∧ Bools w A n T
theorem isBools_nil (w : World) : IsBools w none 0 [] := ⟨Nat.zero_le _, ⟨rfl, fun h => absurd h (by omega)⟩⟩
theorem Bools.on {w w' : World} {A : Option Addr} {n : Nat} {T : List Bool} (h : Bools w A n T) (k : Below w.heap.size w w') : Bools w' A n T := by
  refine ⟨h.len, fun hn => ?_⟩
  obtain ⟨b, o, rfl, hb, hc⟩ := h.cells hn
  exact ⟨b, o, rfl, Nat.lt_of_lt_of_le hb k.size, fun j hj => (k.cell (p := ⟨b, o + j, none⟩) hb).trans (hc j hj)⟩

variable {H : Type} {enc : TypeId × Value → H} {w : World} {base : Nat}
theorem cells4 : Try.prog.cellsOf 4 = 1 := by kernel_rfl

theorem isBools_read {fuel : Nat} {cs : List Value} {x : DataW H × List MemPlace} (h : DataW.trod enc Try.prog w base (fun _ => true) true fuel 30 cs = some x) :
    cs = [.slice none 0 0] ∨ ∃ a len cap, cs = [.slice (some a) len cap] ∧ ∃ L, IsBools w (some a) len L := by
  rcases Go.Deep.open_slice Try.underlying30 h with ⟨h0, _⟩ | ⟨a, len, cap, m, n, D, Pl, rfl, _, hl, hm, hmm, _, hx⟩
  · exact .inl h0
  refine .inr ⟨a, len, cap, rfl, ?_⟩
  have each : ∀ i, i < len → ∃ q : Bool, w.cell? (a.add i) = some (.bool q) := by
    intro i hi
    obtain ⟨cs', h1, h2⟩ := hx i (by simp at hmm; omega)
    rw [cells4] at h1
    obtain ⟨_, hlen, hcell⟩ := World.cells?_some h1
    match cs', hlen with
    | [v], _ =>
      have e0 := hcell 0 (by omega)
      rw [Go.Deep.add_add] at e0
      obtain ⟨q, hq, _⟩ := DataW.trod_bool Try.underlying4 h2
      simp at hq
      subst hq
      exact ⟨q, by simpa using e0⟩
  obtain ⟨q, hq⟩ := Go.Deep.choose_lt each
  have hg : ∀ k, k < len → ((List.range len).map q).getD k false = q k := by
    intro k hk
    rw [List.getD_eq_getElem?_getD, List.getElem?_map, List.getElem?_range hk]
    rfl
  refine ⟨(List.range len).map q, by omega, ⟨by simp, fun hp => ?_⟩⟩
  obtain ⟨b, o, s⟩ := a
  have h0 := hq 0 hp
  have hs : s = none := by simpa [Addr.add] using World.cell?_spot h0
  subst hs
  refine ⟨b, o, rfl, World.block_lt_of_cell? w ⟨b, o, none⟩ (by simpa [Addr.add] using h0), fun k hk => ?_⟩
  rw [hg k hk]
  have hk' := hq k hk
  by_cases h0 : k = 0
  · subst h0; simpa [Addr.add] using hk'
  · simpa [Addr.add, h0] using hk'

end Go.Proofs.Ytghihmmapignmaa
