/- What the laws on room and on seeking need: data and holes by what is there. -/
import Derived.Test.YtigfimlpjmmpoaaLawB
namespace Go.Proofs.Ytigfimlpjmmpoaa
open Go.RowKit

theorem look_is {L : List Ex} {k : Int} (h : look L k ≠ none) : ∃ e ∈ L, e.no = k := by
  cases hl : look L k with
  | none => exact absurd hl h
  | some bs => exact ⟨_, look_some hl, rfl⟩
/-- The first block from a place's own on stands at idx. -/
theorem idx_first {L : List Ex} (hu : Up L) {k m : Int} (h : k ≤ m) (hm : look L m ≠ none) : idx L k < L.length ∧ k ≤ (L.getD (idx L k) default).no ∧ (L.getD (idx L k) default).no ≤ m := by
  obtain ⟨e, he, hno⟩ := look_is hm
  obtain ⟨j, hj, hje⟩ := List.mem_iff_getElem.1 he
  have hjd : L.getD j default = e := by rw [getD_eq hj]; exact hje
  have hge : idx L k ≤ j := by
    by_cases g : j < idx L k
    · have := idx_lt L k j g
      rw [hjd] at this
      omega
    · omega
  have hlt : idx L k < L.length := by omega
  refine ⟨hlt, idx_ge L k hu _ (Nat.le_refl _) hlt, ?_⟩
  by_cases g : idx L k = j
  · rw [g, hjd]; omega
  · have := up_lt hu (idx L k) j (by omega) hj
    rw [hjd] at this
    omega
theorem dat_here {s : Int} {L : List Ex} (gm : may s L = true) {p : Int} (p0 : 0 ≤ p) (ps : p < s) (h : look L (p / 8) ≠ none) : dat s L p = some p := by
  obtain ⟨h1, h2, h3⟩ := idx_first ((may_iff _ _).1 gm).up (Int.le_refl (p / 8)) h
  unfold dat
  have hm : max p ((L.getD (idx L (p / 8)) default).no * 8) = p := by omega
  rw [hm, if_pos ⟨gm, p0, h1, ps⟩]
theorem dat_not {s : Int} {L : List Ex} (gm : may s L = true) {p : Int} (h : look L (p / 8) = none) (d : Int) (hd : dat s L p = some d) : p < d ∧ d < s := by
  have hu := ((may_iff _ _).1 gm).up
  unfold dat at hd
  split at hd
  next g =>
    obtain ⟨_, _, h1, h2⟩ := g
    injection hd with hd
    have h3 := idx_ge L (p / 8) hu _ (Nat.le_refl _) h1
    have h4 : (L.getD (idx L (p / 8)) default).no ≠ p / 8 := by
      intro he
      rw [look_idx hu, if_pos ⟨h1, he⟩] at h
      cases h
    omega
  next => cases hd
theorem dat_zero {s : Int} {L : List Ex} (gm : may s L = true) {p : Int} (p0 : 0 ≤ p) (i : Int) (h1 : p ≤ i) (h2 : i < (dat s L p).getD s) : at_ L i = 0 := by
  have hu := ((may_iff _ _).1 gm).up
  by_cases h : look L (i / 8) = none
  · unfold at_
    rw [h]
  · obtain ⟨g1, g2, g3⟩ := idx_first hu (show p / 8 ≤ i / 8 by omega) h
    by_cases g : max p ((L.getD (idx L (p / 8)) default).no * 8) < s
    · have : dat s L p = some (max p ((L.getD (idx L (p / 8)) default).no * 8)) := by unfold dat; rw [if_pos ⟨gm, p0, g1, g⟩]
      rw [this] at h2
      simp only [Option.getD_some] at h2
      omega
    · have : dat s L p = none := by unfold dat; rw [if_neg (fun x => g x.2.2.2)]
      rw [this] at h2
      simp only [Option.getD_none] at h2
      omega
theorem hol_is {s : Int} {L : List Ex} (gm : may s L = true) {p : Int} (p0 : 0 ≤ p) (ps : p < s) : ∃ u, hol s L p = some u ∧ p ≤ u ∧ u ≤ s ∧ (look L (p / 8) = none → u = p) ∧ (look L (p / 8) ≠ none → p < u) := by
  have hu := ((may_iff _ _).1 gm).up
  refine ⟨min (max p (gap L (p / 8) * 8)) s, by unfold hol; rw [if_pos ⟨gm, p0, ps⟩], by omega, by omega, fun h => ?_, fun h => ?_⟩
  · rw [gap_none hu h]; omega
  · cases hl : look L (p / 8) with
    | none => exact absurd hl h
    | some bs =>
      have h1 := gap_some hu hl
      have h2 := gap_ge L (p / 8 + 1)
      omega
/-- At or behind the size there is neither. -/
theorem both_none {s : Int} {L : List Ex} {p : Int} (ps : s ≤ p) : dat s L p = none ∧ hol s L p = none := by
  constructor
  · unfold dat; rw [if_neg (fun x => by have := x.2.2.2; omega)]
  · unfold hol; rw [if_neg (fun x => by omega)]
/-- Room: what is there, what is at a place, what is data. -/
theorem room_is {s : Int} {L : List Ex} (gm : may s L = true) {p k : Int} (keep : Bool) (p0 : 0 ≤ p) (k1 : 1 ≤ k) (hpk : p + k ≤ 1099511627776) :
    may (asz s p k keep) (alo L p k) = true ∧ (∀ i, p ≤ i → i < p + k → look (alo L p k) (i / 8) ≠ none) ∧ ∀ t, at_ (alo L p k) t = at_ L t := by
  have hg := (may_iff _ _).1 gm
  have hs := hg.s1
  have hlk : ∀ j, look (alo L p k) j = flook L (p / 8) ((p + k - 1) / 8) j := fun j => fil_look hg.up (by omega) (by omega) j
  have hup : Up (alo L p k) := up_fil hg.up (by omega) (by omega)
  refine ⟨(may_iff _ _).2 (good_flook hg hup hlk ?_ ?_ (by omega) (by omega)), fun i h1 h2 => ?_, fun t => flook_at hlk t⟩
  · unfold asz; split <;> omega
  · unfold asz; split <;> omega
  · rw [hlk, flook, if_pos (by omega)]
    intro h
    cases h
theorem room_at {s : Int} {L : List Ex} (gm : may s L = true) {p k : Int} (keep : Bool) (p0 : 0 ≤ p) (k1 : 1 ≤ k) (hpk : p + k ≤ 1099511627776) (t : Int) :
    atv (asz s p k keep) (alo L p k) t = if s ≤ t ∧ t < asz s p k keep then 0 else atv s L t := by
  obtain ⟨h1, _, h3⟩ := room_is gm keep p0 k1 hpk
  have hg := (may_iff _ _).1 gm
  have hs := hg.s0
  have hz : s ≤ asz s p k keep := by unfold asz; split <;> omega
  rw [atv_eq h1, atv_eq gm, h3]
  by_cases g : s ≤ t
  · have hb := hg.behind g
    by_cases g2 : t < asz s p k keep
    · rw [if_pos (by omega), if_pos ⟨g, g2⟩, hb]
    · rw [if_neg (by omega), if_neg (by omega), if_neg (by omega)]
  · rw [if_neg (c := s ≤ t ∧ _) (by omega)]
    by_cases g3 : 0 ≤ t
    · rw [if_pos (by omega), if_pos (by omega)]
    · rw [if_neg (by omega), if_neg (by omega)]
end Go.Proofs.Ytigfimlpjmmpoaa
