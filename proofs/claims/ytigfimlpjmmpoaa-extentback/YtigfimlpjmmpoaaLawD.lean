/- What the law on writing and reading back needs. -/
import Derived.Test.YtigfimlpjmmpoaaLawC
import Derived.Test.YtigfimlpjmmpoaaSpecE
namespace Go.Proofs.Ytigfimlpjmmpoaa
open Go.RowKit

theorem wr_at {L M : List Ex} {p : Int} {bs : List Int} (h : WR L p bs M) (t : Int) : at_ M t = if p ≤ t ∧ t < p + (bs.length : Int) then bs.getD (t - p).toNat 0 else at_ L t := by
  by_cases hb : bs = []
  · subst hb
    rw [if_neg (by simp)]
    exact at_ext (by rw [h.2, if_pos rfl])
  · exact wlook_at (fun k => by rw [h.2 k, if_neg hb]) t
theorem wr_good {s : Int} {L M : List Ex} {p : Int} {bs : List Int} (gm : may s L = true) (h : WR L p bs M) (p0 : 0 ≤ p) (h1 : p + (bs.length : Int) ≤ 1099511627776) : may (wsz s p bs.length) M = true := by
  have hg := (may_iff _ _).1 gm
  have := hg.s1
  by_cases hb : bs = []
  · subst hb
    have : M = L := look_ext h.1 hg.up (fun k => by rw [h.2, if_pos rfl])
    rw [this]
    exact gm
  · have hl : bs.length ≠ 0 := fun x => hb (List.eq_nil_of_length_eq_zero x)
    refine (may_iff _ _).2 (good_wlook hg h.1 (fun k => by rw [h.2 k, if_neg hb]) ?_ ?_ p0 ?_) <;> (unfold wsz; rw [if_neg hl]; omega)
theorem wr_len {s p : Int} {n : Nat} (hs : 0 ≤ s) : s ≤ wsz s p n ∧ 0 ≤ wsz s p n ∧ (0 < n → p + (n : Int) ≤ wsz s p n) := by
  unfold wsz
  split <;> omega
theorem wr_rd {s : Int} {L M : List Ex} {p : Int} {bs : List Int} (gm : may s L = true) (h : WR L p bs M) (p0 : 0 ≤ p) (h1 : p + (bs.length : Int) ≤ 1099511627776) (h2 : bs.length ≤ 4096) : rd (wsz s p bs.length) M p (bs.length : Int) = bs := by
  have g2 := wr_good gm h p0 h1
  have hg := (may_iff _ _).1 gm
  have hs := hg.s0
  obtain ⟨_, _, hz⟩ := wr_len (p := p) (n := bs.length) hs
  have hl : rlen (wsz s p bs.length) M p (bs.length : Int) = bs.length := by
    unfold rlen
    rw [if_pos ⟨g2, p0, by omega, by omega⟩]
    by_cases hb : 0 < bs.length
    · have := hz hb; omega
    · omega
  unfold rd
  rw [hl]
  apply List.ext_getElem?
  intro i
  by_cases hi : i < bs.length
  · rw [red_get _ _ _ _ hi, wr_at h, if_pos (by omega), List.getElem?_eq_getElem hi]
    rw [show (p + (i : Int) - p).toNat = i by omega, List.getD_eq_getElem?_getD, List.getElem?_eq_getElem hi]
    rfl
  · rw [List.getElem?_eq_none (by rw [red_len]; omega), List.getElem?_eq_none (by omega)]
theorem wr_atv {s : Int} {L M : List Ex} {p : Int} {bs : List Int} (gm : may s L = true) (h : WR L p bs M) (p0 : 0 ≤ p) (h1 : p + (bs.length : Int) ≤ 1099511627776) (t : Int) :
    atv (wsz s p bs.length) M t = if p ≤ t ∧ t - p < (bs.length : Int) then bs.getD (t - p).toNat 0 else if 0 < bs.length ∧ s ≤ t ∧ t < p then 0 else atv s L t := by
  have g2 := wr_good gm h p0 h1
  have hg := (may_iff _ _).1 gm
  obtain ⟨z1, z2, hz⟩ := wr_len (p := p) (n := bs.length) hg.s0
  have hs0 := hg.s0
  rw [atv_eq g2, atv_eq gm, wr_at h]
  by_cases q : p ≤ t ∧ t - p < (bs.length : Int)
  · rw [if_pos (c := p ≤ t ∧ t - p < _) q]
    have := hz (by omega)
    rw [if_pos (by omega), if_pos (by omega)]
  · rw [if_neg (c := p ≤ t ∧ t - p < _) q, if_neg (c := p ≤ t ∧ t < _) (by omega)]
    by_cases q1 : t < s
    · rw [if_neg (c := 0 < bs.length ∧ _) (by omega)]
      by_cases q2 : 0 ≤ t
      · rw [if_pos (by omega), if_pos ⟨q2, q1⟩]
      · rw [if_neg (by omega), if_neg (by omega)]
    · have hb := hg.behind (p := t) (by omega)
      rw [hb]
      by_cases q3 : 0 < bs.length ∧ s ≤ t ∧ t < p
      · have := hz q3.1
        rw [if_pos (by omega), if_pos q3]
      · rw [if_neg q3, if_neg (c := 0 ≤ t ∧ t < s) (by omega), if_neg]
        intro hx
        have hx2 := hx.2
        unfold wsz at hx2
        split at hx2 <;> omega
theorem wr_none {L M : List Ex} {p : Int} {s : Int} (gm : may s L = true) (h : WR L p [] M) : M = L :=
  look_ext h.1 ((may_iff _ _).1 gm).up (fun k => by rw [h.2, if_pos rfl])
theorem look_map (g : Int → List Int → List Int) : ∀ (L : List Ex) (k : Int), look (L.map fun e => (⟨e.no, g e.no e.bs⟩ : Ex)) k = (look L k).map (g k)
  | [], _ => rfl
  | e :: r, k => by
    simp only [List.map_cons, look]
    by_cases h : e.no = k
    · subst h; simp
    · simp [h, look_map g r k]
/-- A written content has few blocks. -/
theorem wr_small {s : Int} {L M : List Ex} {p : Int} {bs : List Int} (gm : may s L = true) (h : WR L p bs M) : M.length ≤ 2 * L.length + bs.length + 2 := by
  by_cases hb : bs = []
  · subst hb
    rw [wr_none gm h]; omega
  · have hl : bs.length ≠ 0 := fun x => hb (List.eq_nil_of_length_eq_zero x)
    have hg := (may_iff _ _).1 gm
    have hm : M = (alo L p bs.length).map fun e => (⟨e.no, (fun k b => if p / 8 ≤ k ∧ k ≤ (p + (bs.length : Int) - 1) / 8 then wbytes L p bs k else b) e.no e.bs⟩ : Ex) := by
      have hup : Up (alo L p bs.length) := up_fil hg.up (by omega) (by omega)
      refine look_ext h.1 ?_ (fun k => ?_)
      · exact List.Pairwise.map _ (fun _ _ x => x) hup
      · rw [h.2 k, if_neg hb, look_map (fun k b => if p / 8 ≤ k ∧ k ≤ (p + (bs.length : Int) - 1) / 8 then wbytes L p bs k else b)]
        rw [show look (alo L p bs.length) k = flook L (p / 8) ((p + (bs.length : Int) - 1) / 8) k from fil_look hg.up (by omega) (by omega) k]
        unfold wlook flook
        by_cases g : p / 8 ≤ k ∧ k ≤ (p + (bs.length : Int) - 1) / 8
        · simp [g]
        · simp [g]
    rw [hm, List.length_map]
    have := alo_len L p bs.length
    omega
end Go.Proofs.Ytigfimlpjmmpoaa
