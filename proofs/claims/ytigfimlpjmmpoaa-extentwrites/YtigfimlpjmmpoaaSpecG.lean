/- One byte more is written (the reference's way), without any Go. -/
import Derived.Test.YtigfimlpjmmpoaaRefO
import Derived.Test.YtigfimlpjmmpoaaWalksN
namespace Go.Proofs.Ytigfimlpjmmpoaa

theorem ins_at {L : List Ex} (hu : Up L) (no : Int) : idx L no < (ins L no).length ∧ (ins L no).getD (idx L no) default = ⟨no, (look L no).getD nul8⟩ := by
  have hl := look_idx hu no
  by_cases h : idx L no < L.length ∧ (L.getD (idx L no) default).no = no
  · rw [ins_there hu h]
    rw [if_pos h] at hl
    rw [hl]
    refine ⟨h.1, ?_⟩
    have := h.2
    generalize L.getD (idx L no) default = e at *
    cases e
    simp only at this
    subst this
    rfl
  · rw [ins_not hu h]
    rw [if_neg h] at hl
    rw [hl]
    have hle := idx_le L no
    have hlen : (L.take (idx L no)).length = idx L no := by rw [List.length_take]; omega
    refine ⟨by simp; omega, ?_⟩
    rw [List.getD_eq_getElem?_getD, List.getElem?_append_right (by omega), hlen, Nat.sub_self]
    rfl
theorem wbytes_not {L : List Ex} (hok : ∀ e ∈ L, e.ok) (p : Int) (b : List Int) (k : Int) (h : ∀ i : Nat, i < 8 → ¬ (p ≤ k * 8 + (i : Int) ∧ k * 8 + (i : Int) < p + (b.length : Int))) : wbytes L p b k = (look L k).getD nul8 := by
  refine ext8 (wbytes_len _ _ _ _) ?_ (fun i hi => ?_)
  · cases hl : look L k with
    | none => rfl
    | some bs => exact (hok _ (look_some hl)).1
  · rw [wbytes_get _ _ _ _ _ hi, if_neg (h i hi)]
    have h1 : (k * 8 + (i : Int)) / 8 = k := by omega
    have h2 : ((k * 8 + (i : Int)) % 8).toNat = i := by omega
    rw [at_, h1, h2]
    cases look L k with
    | none => exact (nul8_get i).symm
    | some bs => rfl
theorem wr_zero {L : List Ex} (h : Up L) (p : Int) : WR L p [] L := ⟨h, fun k => by rw [if_pos rfl]⟩
theorem WR.there {L M : List Ex} {p : Int} {bs : List Int} {i : Nat} (hok : ∀ e ∈ L, e.ok) (h : WR L p (bs.take i) M) (hi : i < bs.length) {no : Int} (hno : (p + (i : Int)) / 8 = no) : (look M no).getD nul8 = wbytes L p (bs.take i) no := by
  have hlen : (bs.take i).length = i := by rw [List.length_take]; omega
  rw [h.2]
  by_cases h0 : bs.take i = []
  · rw [if_pos h0, wbytes_not hok]
    intro q hq
    rw [h0]
    simp only [List.length_nil]
    omega
  · rw [if_neg h0]
    have hip : 0 < i := by
      rcases Nat.eq_zero_or_pos i with rfl | hp
      · exact absurd (by simp) h0
      · exact hp
    unfold wlook
    rw [hlen]
    by_cases h1 : p / 8 ≤ no ∧ no ≤ (p + (i : Int) - 1) / 8
    · rw [if_pos h1]; rfl
    · rw [if_neg h1, wbytes_not hok]
      intro q hq
      rw [hlen]
      omega
theorem WR.next {L M : List Ex} {p : Int} {bs : List Int} {i : Nat} (hok : ∀ e ∈ L, e.ok) (h : WR L p (bs.take i) M) (hi : i < bs.length) {no : Int} {r : Nat} (hno : (p + (i : Int)) / 8 = no) (hr : (p + (i : Int)) % 8 = (r : Int)) :
    WR L p (bs.take (i + 1)) ((ins M no).set (idx M no) ⟨no, splice ((look M no).getD nul8) r [bs.getD i 0]⟩) := by
  have hu := h.1
  obtain ⟨hj, hg⟩ := ins_at hu no
  have hgn : ((ins M no).getD (idx M no) default).no = no := by rw [hg]
  refine ⟨up_set (up_ins hu no) _ _ hgn, fun m => ?_⟩
  have hlen : (bs.take (i + 1)).length = i + 1 := by rw [List.length_take]; omega
  have hne : ¬ bs.take (i + 1) = [] := by intro he; rw [he] at hlen; simp at hlen
  rw [look_set (up_ins hu no) _ _ hj hgn, if_neg hne]
  unfold wlook
  rw [hlen]
  have hd : ((bs.drop i).take 1) = [bs.getD i 0] := by
    rw [List.drop_eq_getElem_cons hi, List.take_succ_cons, List.take_zero, List.getD_eq_getElem?_getD, List.getElem?_eq_getElem hi]; rfl
  by_cases g : no = m
  · subst g
    rw [if_pos rfl, if_pos (by omega), WR.there hok h hi hno, ← hd]
    rw [wbytes_same L p bs i 1 r no (by omega) hno hr (by omega)]
  · rw [if_neg g, ins_look hu, if_neg (fun x => g x.symm), h.2]
    have hlen' : (bs.take i).length = i := by rw [List.length_take]; omega
    by_cases h0 : bs.take i = []
    · rw [if_pos h0]
      have : i = 0 := by rw [h0] at hlen'; simpa using hlen'.symm
      subst this
      rw [if_neg (by omega)]
    · rw [if_neg h0]
      have hip : 0 < i := by
        rcases Nat.eq_zero_or_pos i with rfl | hp
        · exact absurd (by simp) h0
        · exact hp
      unfold wlook
      rw [hlen']
      by_cases h1 : p / 8 ≤ m ∧ m ≤ (p + (i : Int) - 1) / 8
      · rw [if_pos h1, if_pos (by omega), wbytes_other L p bs i 1 no m (by omega) hno (by omega) (fun x => g x.symm)]
      · rw [if_neg h1, if_neg (by omega)]
end Go.Proofs.Ytigfimlpjmmpoaa
