/- What a law's walk is told of an argument that is a slice of tables; tables one behind the other. -/
import Derived.Test.YtoccnhajfmkpoaaWalksK
import Derived.Deep.Slices
import Derived.Deep.SlicePairs
namespace Go.Proofs.Ytoccnhajfmkpoaa
open Go.RowKit Go.ChangeShapes Go.WideShapes

/-- A slice of tables that came in. -/
def IsTabs (w : World) (A : Option Addr) (n : Nat) (L : List (List Int)) : Prop := n ≤ maxLen ∧ Tbs w A n L
theorem isTabs_nil (w : World) : IsTabs w none 0 [] := ⟨Nat.zero_le _, tbs_nil w⟩

theorem cells24 : Try.prog.cellsOf 24 = 256 := by kernel_rfl
theorem cells5 : Try.prog.cellsOf 5 = 1 := by kernel_rfl

variable {H : Type} {enc : TypeId × Value → H} {w : World} {base : Nat}

theorem tab_open {fuel : Nat} {vs : List Value} {y : DataW H × List MemPlace} (h : DataW.trod enc Try.prog w base (fun _ => true) true fuel 24 vs = some y) : ∃ l : List Int, Good l ∧ vs = l.map (Value.int .u8) := by
  obtain ⟨xs, m, _, _, hl, hxl, hf⟩ := DataW.trod_array Try.underlying24 h
  rw [cells24] at hl
  have each : ∀ i, i < 256 → ∃ z : Int, vs[i]? = some (.int .u8 z) ∧ 0 ≤ z ∧ z < 256 := by
    intro i hi
    have hi' := hf i hi
    rw [cells5, Nat.mul_one, List.getElem?_eq_getElem (show i < xs.length by omega)] at hi'
    obtain ⟨z, hz, _, wz⟩ := DataW.trod_int Try.underlying5 hi'
    have hb := bounds_u8 wz
    refine ⟨z, ?_, by omega⟩
    have := congrArg (fun q => q[0]?) hz
    simpa using this
  obtain ⟨z, hz⟩ := Go.Deep.choose_lt each
  refine ⟨(List.range 256).map z, ⟨by simp, fun k hk => ?_⟩, ?_⟩
  · rw [List.getD_eq_getElem?_getD, List.getElem?_map, List.getElem?_range hk]
    exact (hz k hk).2
  · apply List.ext_getElem?
    intro i
    by_cases hi : i < 256
    · rw [(hz i hi).1, List.getElem?_map, List.getElem?_map, List.getElem?_range hi]; rfl
    · rw [List.getElem?_eq_none (by omega), List.getElem?_eq_none (by simp; omega)]

theorem isTabs_read {fuel : Nat} {vs : List Value} {x : DataW H × List MemPlace} (h : DataW.trod enc Try.prog w base (fun _ => true) true fuel 28 vs = some x) :
    vs = [.slice none 0 0] ∨ ∃ a len cap, vs = [.slice (some a) len cap] ∧ ∃ L, IsTabs w (some a) len L := by
  rcases Go.Deep.open_slice Try.underlying28 h with ⟨h0, _⟩ | ⟨a, len, cap, m, n, D, Pl, rfl, _, hl, hm, hmm, _, hx⟩
  · exact .inl h0
  refine .inr ⟨a, len, cap, rfl, ?_⟩
  have each : ∀ i, i < len → ∃ l : List Int, Good l ∧ ∀ j, j < 256 → w.cell? (a.add (i * 256 + j)) = some (.int .u8 (l.getD j 0)) := by
    intro i hi
    obtain ⟨vs', h1, h2⟩ := hx i (by simp at hmm; omega)
    rw [cells24] at h1
    obtain ⟨_, hlen, hcell⟩ := World.cells?_some h1
    obtain ⟨l, hg, rfl⟩ := tab_open h2
    refine ⟨l, hg, fun j hj => ?_⟩
    have e := hcell j (by omega)
    rw [Go.Deep.add_add] at e
    rw [e, List.getElem?_map, List.getD_eq_getElem?_getD, List.getElem?_eq_getElem (by rw [hg.1]; exact hj)]
    rfl
  obtain ⟨q, hq⟩ := Go.Deep.choose_lt each
  have hg : ∀ k, k < len → ((List.range len).map q).getD k [] = q k := by
    intro k hk
    rw [List.getD_eq_getElem?_getD, List.getElem?_map, List.getElem?_range hk]
    rfl
  refine ⟨(List.range len).map q, by omega, ⟨by simp, fun k hk => by rw [hg k hk]; exact (hq k hk).1, fun hp => ?_⟩⟩
  obtain ⟨b, o, s⟩ := a
  have h0 := (hq 0 hp).2 0 (by omega)
  have hs : s = none := by simpa [Addr.add] using World.cell?_spot h0
  subst hs
  refine ⟨b, o, rfl, World.block_lt_of_cell? w ⟨b, o, none⟩ (by simpa [Addr.add] using h0), fun k hk => ?_⟩
  rw [hg k hk]
  obtain ⟨hgk, hck⟩ := hq k hk
  intro j v hv
  rw [List.getElem?_map] at hv
  by_cases hj : j < 256
  · have e := hck j hj
    rw [add_plain] at e
    rw [Nat.add_assoc, e]
    rw [List.getElem?_eq_getElem (by rw [hgk.1]; exact hj)] at hv
    rw [List.getD_eq_getElem?_getD, List.getElem?_eq_getElem (by rw [hgk.1]; exact hj)]
    simpa using hv
  · rw [List.getElem?_eq_none (by rw [hgk.1]; omega)] at hv; simp at hv

/-- All bytes by one table behind the other. -/
def mapAll : List (List Int) → List Int → List Int
  | [], zs => zs
  | t :: L, zs => mapAll L (mapL t zs)
theorem mapAll_snoc (L : List (List Int)) (t zs : List Int) : mapAll (L ++ [t]) zs = mapL t (mapAll L zs) := by
  induction L generalizing zs with
  | nil => rfl
  | cons x L ih => exact ih _
theorem mapAll_take (L : List (List Int)) (j : Nat) (hj : j < L.length) (zs : List Int) : mapAll (L.take (j + 1)) zs = mapL (L.getD j []) (mapAll (L.take j) zs) := by
  rw [List.take_add_one, List.getElem?_eq_getElem hj, List.getD_eq_getElem?_getD, List.getElem?_eq_getElem hj]; exact mapAll_snoc _ _ _
theorem mapL_behind {t nx zs : List Int} (ht : Good t) (hz : Are zs) : mapL (behind t nx) zs = mapL nx (mapL t zs) := by
  rw [mapL, mapL, mapL, List.map_map]
  refine List.map_congr_left (fun z hm => ?_)
  have hb := hz z hm
  have hk : z.toNat < t.length := by rw [ht.1]; omega
  rw [behind, List.getD_eq_getElem?_getD, List.getElem?_map, List.getElem?_eq_getElem hk, Function.comp, List.getD_eq_getElem?_getD (l := t), List.getElem?_eq_getElem hk]
  rfl
theorem mapL_then {L : List (List Int)} (hL : ∀ t ∈ L, Good t) {t zs : List Int} (ht : Good t) (hz : Are zs) : mapL (thenL L t) zs = mapAll L (mapL t zs) := by
  induction L generalizing t with
  | nil => rfl
  | cons x L ih =>
    show mapL (thenL L (behind t x)) zs = mapAll L (mapL x (mapL t zs))
    rw [ih (fun y hy => hL y (by simp [hy])) (ht.behind (hL x (by simp))), mapL_behind ht hz]
theorem Good.then {L : List (List Int)} (hL : ∀ t ∈ L, Good t) {t : List Int} (ht : Good t) : Good (thenL L t) := by
  induction L generalizing t with
  | nil => exact ht
  | cons x L ih => exact ih (fun y hy => hL y (by simp [hy])) (ht.behind (hL x (by simp)))
theorem len_mapL (t zs : List Int) : (mapL t zs).length = zs.length := List.length_map _
theorem Tbs.all {w : World} {A : Option Addr} {n : Nat} {L : List (List Int)} (h : Tbs w A n L) : ∀ t ∈ L, Good t := by
  intro t ht
  obtain ⟨k, hk, rfl⟩ := List.mem_iff_getElem.1 ht
  have := h.good k (by rw [← h.len]; exact hk)
  rwa [List.getD_eq_getElem?_getD, List.getElem?_eq_getElem hk] at this

end Go.Proofs.Ytoccnhajfmkpoaa
