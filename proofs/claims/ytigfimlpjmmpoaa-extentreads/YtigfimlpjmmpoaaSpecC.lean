/- What is read, filled, written, taken, without any Go. -/
import Derived.Test.YtigfimlpjmmpoaaSpec
namespace Go.Proofs.Ytigfimlpjmmpoaa

/-- How many bytes are read. -/
def rlen (s : Int) (L : List Ex) (p n : Int) : Nat := if may s L = true ∧ 0 ≤ p ∧ 0 ≤ n ∧ n ≤ 4096 then (min n (s - p)).toNat else 0
def red (L : List Ex) (p : Int) (m : Nat) : List Int := (List.range m).map fun (i : Nat) => at_ L (p + (i : Int))
def rd (s : Int) (L : List Ex) (p n : Int) : List Int := red L p (rlen s L p n)
theorem red_len (L : List Ex) (p : Int) (m : Nat) : (red L p m).length = m := by simp [red]
theorem red_succ (L : List Ex) (p : Int) (m : Nat) : red L p (m + 1) = red L p m ++ [at_ L (p + (m : Int))] := by simp [red, List.range_succ]
theorem red_get (L : List Ex) (p : Int) (m i : Nat) (h : i < m) : (red L p m)[i]? = some (at_ L (p + (i : Int))) := by simp [red, h]

/-- Blocks first to last are there. -/
def flook (L : List Ex) (f l : Int) (k : Int) : Option (List Int) := if f ≤ k ∧ k ≤ l then some ((look L k).getD nul8) else look L k
/-- b stands from p on. -/
def wbytes (L : List Ex) (p : Int) (b : List Int) (k : Int) : List Int := (List.range 8).map fun (i : Nat) => if p ≤ k * 8 + (i : Int) ∧ k * 8 + (i : Int) < p + (b.length : Int) then b.getD (k * 8 + (i : Int) - p).toNat 0 else at_ L (k * 8 + (i : Int))
def wlook (L : List Ex) (p : Int) (b : List Int) (k : Int) : Option (List Int) := if p / 8 ≤ k ∧ k ≤ (p + (b.length : Int) - 1) / 8 then some (wbytes L p b k) else look L k

theorem nul8_get (i : Nat) : nul8.getD i 0 = 0 := by
  match i with
  | 0 | 1 | 2 | 3 | 4 | 5 | 6 | 7 => rfl
  | i + 8 => rfl
theorem flook_at {L M : List Ex} {f l : Int} (h : ∀ k, look M k = flook L f l k) (p : Int) : at_ M p = at_ L p := by
  unfold at_
  rw [h, flook]
  by_cases hr : f ≤ p / 8 ∧ p / 8 ≤ l
  · rw [if_pos hr]
    cases look L (p / 8) with
    | none => exact nul8_get _
    | some bs => rfl
  · rw [if_neg hr]
theorem wbytes_get (L : List Ex) (p : Int) (b : List Int) (k : Int) (i : Nat) (h : i < 8) : (wbytes L p b k).getD i 0 = if p ≤ k * 8 + (i : Int) ∧ k * 8 + (i : Int) < p + (b.length : Int) then b.getD (k * 8 + (i : Int) - p).toNat 0 else at_ L (k * 8 + (i : Int)) := by
  simp [wbytes, List.getD_eq_getElem?_getD, List.getElem?_range h]
theorem wlook_at {L M : List Ex} {p : Int} {b : List Int} (h : ∀ k, look M k = wlook L p b k) (t : Int) : at_ M t = if p ≤ t ∧ t < p + (b.length : Int) then b.getD (t - p).toNat 0 else at_ L t := by
  have he : t / 8 * 8 + ((t % 8).toNat : Int) = t := by omega
  unfold at_
  rw [h, wlook]
  by_cases hr : p / 8 ≤ t / 8 ∧ t / 8 ≤ (p + (b.length : Int) - 1) / 8
  · rw [if_pos hr]
    show (wbytes L p b (t / 8)).getD (t % 8).toNat 0 = _
    rw [wbytes_get _ _ _ _ _ (by omega), he]
    rfl
  · rw [if_neg hr, if_neg (fun hh => hr (by omega))]
theorem good_flook {s s' : Int} {L M : List Ex} {f l : Int} (hg : Good s L) (hM : Up M) (h : ∀ k, look M k = flook L f l k) (h0 : s ≤ s') (h1 : s' ≤ 1099511627776) (hf : 0 ≤ f) (hl : l < 137438953472) : Good s' M := by
  have hs0 := hg.s0
  refine good_of (by omega) h1 hM fun k bs hk => ?_
  rw [h, flook] at hk
  split at hk
  · rename_i hr
    injection hk with hk
    refine ⟨by omega, by omega, fun i hi hs => ?_⟩
    cases hx : look L k with
    | none => rw [hx] at hk; rw [← hk]; exact nul8_get i
    | some ds => rw [hx] at hk; rw [← hk]; exact (hg.look hx).2.2 i hi (by omega)
  · have := hg.look hk
    exact ⟨this.1, this.2.1, fun i hi hs => this.2.2 i hi (by omega)⟩
theorem good_wlook {s s' : Int} {L M : List Ex} {p : Int} {b : List Int} (hg : Good s L) (hM : Up M) (h : ∀ k, look M k = wlook L p b k) (h0 : s ≤ s') (h1 : s' ≤ 1099511627776) (hp : 0 ≤ p) (he : p + (b.length : Int) ≤ s') : Good s' M := by
  have hs0 := hg.s0
  refine good_of (by omega) h1 hM fun k bs hk => ?_
  rw [h, wlook] at hk
  split at hk
  · rename_i hr
    injection hk with hk
    refine ⟨by omega, by omega, fun i hi hs => ?_⟩
    rw [← hk, wbytes_get _ _ _ _ _ hi, if_neg (by omega)]
    exact hg.behind (by omega)
  · have := hg.look hk
    exact ⟨this.1, this.2.1, fun i hi hs => this.2.2 i hi (by omega)⟩

/-- Bytes of a block that lie from p on ahead of q are 0. -/
def cutx (e : Ex) (p q : Int) : Ex := ⟨e.no, (List.range 8).map fun (k : Nat) => if p ≤ e.no * 8 + (k : Int) ∧ e.no * 8 + (k : Int) < q then 0 else e.bs.getD k 0⟩
def whole (k p q : Int) : Bool := decide (p ≤ k * 8) && decide (k * 8 + 8 ≤ q)
def wo (L : List Ex) (p q : Int) : List Ex := (L.filter fun e => !whole e.no p q).map fun e => cutx e p q
theorem cutx_ok {e : Ex} (h : e.ok) (p q : Int) : (cutx e p q).ok := by
  refine ⟨by simp [cutx], fun x hx => ?_⟩
  simp [cutx] at hx
  obtain ⟨k, _, rfl⟩ := hx
  split
  · exact ⟨by decide, by decide⟩
  · have := Ex.at_ok h k
    simpa using this
theorem cutx_get (e : Ex) (p q : Int) (k : Nat) (h : k < 8) : (cutx e p q).bs.getD k 0 = if p ≤ e.no * 8 + (k : Int) ∧ e.no * 8 + (k : Int) < q then 0 else e.bs.getD k 0 := by
  simp [cutx, List.getD_eq_getElem?_getD, List.getElem?_range h]
theorem wo_snoc (L : List Ex) (p q : Int) (e : Ex) : wo (L ++ [e]) p q = wo L p q ++ (if whole e.no p q = true then [] else [cutx e p q]) := by
  simp only [wo, List.filter_append, List.map_append]
  cases h : whole e.no p q <;> simp [h]
theorem up_wo {L : List Ex} (hu : Up L) (p q : Int) : Up (wo L p q) := by
  unfold wo Up
  rw [List.pairwise_map]
  exact (hu.sublist List.filter_sublist).imp (fun h => h)
theorem look_wo (L : List Ex) (p q k : Int) : look (wo L p q) k = if whole k p q = true then none else (look L k).map (fun bs => (cutx ⟨k, bs⟩ p q).bs) := by
  induction L with
  | nil => simp [wo, look]
  | cons e r ih =>
    by_cases hw : whole e.no p q = true
    · have e1 : wo (e :: r) p q = wo r p q := by simp [wo, hw]
      rw [e1, ih, look]
      by_cases hk : e.no = k
      · subst hk; rw [if_pos hw, if_pos hw]
      · rw [if_neg hk]
    · have e1 : wo (e :: r) p q = cutx e p q :: wo r p q := by simp [wo, hw]
      rw [e1, look, look, ih]
      by_cases hk : e.no = k
      · subst hk
        rw [if_pos (show (cutx e p q).no = e.no from rfl), if_neg hw, if_pos rfl]
        rfl
      · rw [if_neg (show ¬ (cutx e p q).no = k from hk), if_neg hk]
theorem at_wo (L : List Ex) (p q t : Int) : at_ (wo L p q) t = if p ≤ t ∧ t < q then 0 else at_ L t := by
  have he : t / 8 * 8 + ((t % 8).toNat : Int) = t := by omega
  rw [at_, look_wo]
  by_cases hw : whole (t / 8) p q = true
  · rw [if_pos hw]
    simp only [whole, Bool.and_eq_true, decide_eq_true_eq] at hw
    rw [if_pos (by omega)]
  · rw [if_neg hw, at_]
    cases hl : look L (t / 8) with
    | none => simp
    | some bs =>
      show (cutx ⟨t / 8, bs⟩ p q).bs.getD (t % 8).toNat 0 = _
      rw [cutx_get _ _ _ _ (by omega)]
      simp only [he]
theorem good_wo {s s' : Int} {L : List Ex} (hg : Good s L) (p q : Int) (h0 : 0 ≤ s') (h1 : s' ≤ 1099511627776) (h : ∀ t, s' ≤ t → t < 1099511627776 → s ≤ t ∨ (p ≤ t ∧ t < q)) : Good s' (wo L p q) := by
  refine good_of h0 h1 (up_wo hg.up p q) fun k bs hk => ?_
  rw [look_wo] at hk
  split at hk
  · cases hk
  · cases hl : look L k with
    | none => rw [hl] at hk; cases hk
    | some ds =>
      rw [hl] at hk
      injection hk with hk
      have hx := hg.look hl
      refine ⟨hx.1, hx.2.1, fun i hi hs => ?_⟩
      rw [← hk, cutx_get _ _ _ _ hi]
      split
      · rfl
      · rename_i hn
        rcases h (k * 8 + (i : Int)) hs (by omega) with h | h
        · exact hx.2.2 i hi h
        · exact absurd h hn
end Go.Proofs.Ytigfimlpjmmpoaa
