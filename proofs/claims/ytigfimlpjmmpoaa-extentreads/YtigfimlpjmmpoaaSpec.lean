/- What is in a file, without any Go: which contents may be, what a block number stands for, places, what is filled, written, taken. -/
import Derived.Test.YtigfimlpjmmpoaaExts
namespace Go.Proofs.Ytigfimlpjmmpoaa

def bareB (e : Ex) (s : Int) : Bool := (List.range 8).all fun k => decide (e.no * 8 + (k : Int) < s) || decide (e.bs.getD k 0 = 0)
def goodFrom (s : Int) : Int → List Ex → Bool
  | _, [] => true
  | last, e :: r => decide (last < e.no) && decide (e.no < 137438953472) && bareB e s && goodFrom s e.no r
def may (s : Int) (L : List Ex) : Bool := decide (0 ≤ s) && decide (s ≤ 1099511627776) && goodFrom s (-1) L

def Up (L : List Ex) : Prop := L.Pairwise (fun a b => a.no < b.no)
structure Good (s : Int) (L : List Ex) : Prop where
  s0 : 0 ≤ s
  s1 : s ≤ 1099511627776
  up : Up L
  rng : ∀ e ∈ L, 0 ≤ e.no ∧ e.no < 137438953472
  bare : ∀ e ∈ L, bareB e s = true

theorem goodFrom_iff (s : Int) : ∀ (L : List Ex) (l : Int), goodFrom s l L = true ↔ (Up L ∧ ∀ e ∈ L, l < e.no ∧ e.no < 137438953472 ∧ bareB e s = true)
  | [], l => by simp [goodFrom, Up]
  | e :: r, l => by
    have ih := goodFrom_iff s r e.no
    simp only [goodFrom, Bool.and_eq_true, decide_eq_true_eq, ih, Up, List.pairwise_cons, List.mem_cons]
    constructor
    · rintro ⟨⟨⟨h1, h2⟩, h3⟩, h4, h5⟩
      refine ⟨⟨fun x hx => (h5 x hx).1, h4⟩, fun x hx => ?_⟩
      rcases hx with rfl | hx
      · exact ⟨h1, h2, h3⟩
      · have := h5 x hx; exact ⟨by omega, this.2⟩
    · rintro ⟨⟨h1, h2⟩, h3⟩
      obtain ⟨a1, a2, a3⟩ := h3 e (.inl rfl)
      exact ⟨⟨⟨a1, a2⟩, a3⟩, h2, fun x hx => ⟨h1 x hx, (h3 x (.inr hx)).2⟩⟩
theorem may_iff (s : Int) (L : List Ex) : may s L = true ↔ Good s L := by
  simp only [may, Bool.and_eq_true, decide_eq_true_eq, goodFrom_iff]
  constructor
  · rintro ⟨⟨h1, h2⟩, h3, h4⟩
    exact ⟨h1, h2, h3, fun e he => ⟨by have := (h4 e he).1; omega, (h4 e he).2.1⟩, fun e he => (h4 e he).2.2⟩
  · rintro ⟨h1, h2, h3, h4, h5⟩
    exact ⟨⟨h1, h2⟩, h3, fun e he => ⟨by have := (h4 e he).1; omega, (h4 e he).2, h5 e he⟩⟩
theorem bare_at {e : Ex} {s : Int} (h : bareB e s = true) (k : Nat) (hk : k < 8) (hs : s ≤ e.no * 8 + (k : Int)) : e.bs.getD k 0 = 0 := by
  have := List.all_eq_true.1 h k (by simpa using hk)
  simp only [Bool.or_eq_true, decide_eq_true_eq] at this
  omega
theorem bare_of {e : Ex} {s : Int} (h : ∀ k : Nat, k < 8 → s ≤ e.no * 8 + (k : Int) → e.bs.getD k 0 = 0) : bareB e s = true := by
  refine List.all_eq_true.2 fun k hk => ?_
  have hk : k < 8 := by simpa using hk
  simp only [Bool.or_eq_true, decide_eq_true_eq]
  by_cases hs : s ≤ e.no * 8 + (k : Int)
  · exact .inr (h k hk hs)
  · exact .inl (by omega)
theorem up_tail {e : Ex} {L : List Ex} (h : Up (e :: L)) : Up L := (List.pairwise_cons.1 h).2
theorem up_head {e : Ex} {L : List Ex} (h : Up (e :: L)) : ∀ x ∈ L, e.no < x.no := (List.pairwise_cons.1 h).1
theorem up_lt {L : List Ex} (h : Up L) (i j : Nat) (hij : i < j) (hj : j < L.length) : (L.getD i default).no < (L.getD j default).no := by
  have := List.pairwise_iff_getElem.1 h i j (by omega) hj hij
  rw [List.getD_eq_getElem?_getD, List.getD_eq_getElem?_getD, List.getElem?_eq_getElem (by omega), List.getElem?_eq_getElem hj]
  exact this

/-- What block k holds, if it is there. -/
def look : List Ex → Int → Option (List Int)
  | [], _ => none
  | e :: r, k => if e.no = k then some e.bs else look r k
theorem look_none {L : List Ex} {k : Int} (h : ∀ e ∈ L, e.no ≠ k) : look L k = none := by
  induction L with
  | nil => rfl
  | cons e r ih => rw [look, if_neg (h e (by simp))]; exact ih (fun x hx => h x (by simp [hx]))
theorem look_some {L : List Ex} {k : Int} {bs : List Int} (h : look L k = some bs) : ⟨k, bs⟩ ∈ L := by
  induction L with
  | nil => cases h
  | cons e r ih =>
    rw [look] at h
    split at h
    · rename_i he; injection h with h; subst he h; simp
    · exact List.mem_cons_of_mem _ (ih h)
theorem look_mem {L : List Ex} (hu : Up L) {e : Ex} (h : e ∈ L) : look L e.no = some e.bs := by
  induction L with
  | nil => cases h
  | cons a r ih =>
    rcases List.mem_cons.1 h with rfl | h
    · rw [look, if_pos rfl]
    · rw [look, if_neg (by have := up_head hu e h; omega)]; exact ih (up_tail hu) h
theorem look_append (A B : List Ex) (k : Int) : look (A ++ B) k = (match look A k with | some x => some x | none => look B k) := by
  induction A with
  | nil => rfl
  | cons e r ih =>
    rw [List.cons_append, look, look]
    split
    · rfl
    · exact ih
theorem look_ext {L M : List Ex} (hL : Up L) (hM : Up M) (h : ∀ k, look L k = look M k) : L = M := by
  induction L generalizing M with
  | nil =>
    cases M with
    | nil => rfl
    | cons b M => have := h b.no; rw [look, look, if_pos rfl] at this; cases this
  | cons a L ih =>
    cases M with
    | nil => have := h a.no; rw [look, look, if_pos rfl] at this; cases this
    | cons b M =>
      have e1 : a.no = b.no := by
        have h1 := h a.no
        have h2 := h b.no
        rw [look, if_pos rfl] at h1
        have m1 := look_some h1.symm
        rw [show look (b :: M) b.no = some b.bs by rw [look, if_pos rfl]] at h2
        have m2 := look_some h2
        rcases List.mem_cons.1 m1 with m1 | m1
        · exact congrArg Ex.no m1
        · rcases List.mem_cons.1 m2 with m2 | m2
          · exact (congrArg Ex.no m2).symm
          · have := up_head hM _ m1; have := up_head hL _ m2; simp only at *; omega
      have e2 : a.bs = b.bs := by
        have h1 := h a.no
        rw [look, if_pos rfl, look, if_pos e1.symm] at h1
        injection h1
      have e3 : a = b := by cases a; cases b; simp_all
      subst e3
      rw [ih (up_tail hL) (up_tail hM) (fun k => ?_)]
      by_cases hk : a.no = k
      · rw [look_none (fun e he => by have := up_head hL e he; omega), look_none (fun e he => by have := up_head hM e he; omega)]
      · have := h k
        rwa [look, if_neg hk, look, if_neg hk] at this

/-- How many blocks lie ahead of block k. -/
def idx : List Ex → Int → Nat
  | [], _ => 0
  | e :: r, k => if e.no < k then idx r k + 1 else 0
theorem idx_le : ∀ (L : List Ex) (k : Int), idx L k ≤ L.length
  | [], _ => Nat.le_refl _
  | e :: r, k => by have := idx_le r k; rw [idx]; split <;> simp; omega
theorem idx_lt : ∀ (L : List Ex) (k : Int) (i : Nat), i < idx L k → (L.getD i default).no < k
  | [], _, i, h => by simp [idx] at h
  | e :: r, k, i, h => by
    rw [idx] at h
    split at h
    · cases i with
      | zero => simpa
      | succ i => simpa using idx_lt r k i (by omega)
    · omega
theorem idx_ge : ∀ (L : List Ex) (k : Int) (_ : Up L) (i : Nat), idx L k ≤ i → i < L.length → k ≤ (L.getD i default).no
  | [], _, _, i, _, h => by simp at h
  | e :: r, k, hu, i, h, hl => by
    rw [idx] at h
    split at h
    · cases i with
      | zero => omega
      | succ i => simpa using idx_ge r k (up_tail hu) i (by omega) (by simpa using hl)
    · cases i with
      | zero => simp; omega
      | succ i =>
        have := up_lt hu 0 (i + 1) (by omega) hl
        simp at this ⊢
        omega
theorem idx_unique {L : List Ex} {k : Int} {i : Nat} (hi : i ≤ L.length) (h1 : ∀ j, j < i → (L.getD j default).no < k) (h2 : i < L.length → k ≤ (L.getD i default).no) : idx L k = i := by
  induction L generalizing i with
  | nil => simp [idx]; simp at hi; omega
  | cons e r ih =>
    cases i with
    | zero =>
      have := h2 (by simp)
      simp at this
      rw [idx, if_neg (by omega)]
    | succ i =>
      have := h1 0 (by omega)
      simp at this
      rw [idx, if_pos this, ih (by simpa using hi) (fun j hj => by simpa using h1 (j + 1) (by omega)) (fun h => by simpa using h2 (by simpa using h))]
/-- Block k, if it is there, stands where as many lie ahead of it. -/
theorem look_idx {L : List Ex} (hu : Up L) (k : Int) : look L k = if idx L k < L.length ∧ (L.getD (idx L k) default).no = k then some (L.getD (idx L k) default).bs else none := by
  split
  · rename_i h
    have hm : L.getD (idx L k) default ∈ L := by
      rw [List.getD_eq_getElem?_getD, List.getElem?_eq_getElem h.1]; exact List.getElem_mem h.1
    have := look_mem hu hm
    rwa [h.2] at this
  · rename_i h
    refine look_none fun e he => fun hk => h ?_
    obtain ⟨i, hi, rfl⟩ := List.mem_iff_getElem.1 he
    have hg : ∀ j, j < L.length → (L.getD j default) = L[j]! := fun j hj => by rw [List.getD_eq_getElem?_getD, List.getElem?_eq_getElem hj, Option.getD_some, getElem!_pos L j hj]
    have e0 : (L.getD i default).no = k := by rw [List.getD_eq_getElem?_getD, List.getElem?_eq_getElem hi]; exact hk
    have h1 : idx L k ≤ i := by
      by_cases hlt : i < idx L k
      · have := idx_lt L k i hlt; omega
      · omega
    have h2 : k ≤ (L.getD (idx L k) default).no := idx_ge L k hu _ (Nat.le_refl _) (by omega)
    by_cases he : idx L k = i
    · rw [he]; exact ⟨hi, e0⟩
    · have := up_lt hu (idx L k) i (by omega) hi; omega
theorem look_take {L : List Ex} (hu : Up L) (k m : Int) : look (L.take (idx L m)) k = if k < m then look L k else none := by
  induction L with
  | nil => simp [look]
  | cons e r ih =>
    have hr := up_tail hu
    rw [idx]
    by_cases h : e.no < m
    · rw [if_pos h, List.take_succ_cons, look, look, ih hr]
      by_cases hk : e.no = k
      · rw [if_pos hk, if_pos hk, if_pos (by omega)]
      · rw [if_neg hk, if_neg hk]
    · rw [if_neg h, List.take_zero, look]
      by_cases hk : k < m
      · rw [if_pos hk, look_none]
        intro x hx
        rcases List.mem_cons.1 hx with rfl | hx
        · omega
        · have := up_head hu x hx; omega
      · rw [if_neg hk]
theorem look_drop {L : List Ex} (hu : Up L) (k m : Int) : look (L.drop (idx L m)) k = if k < m then none else look L k := by
  induction L with
  | nil => simp [look]
  | cons e r ih =>
    have hr := up_tail hu
    rw [idx]
    by_cases h : e.no < m
    · rw [if_pos h, List.drop_succ_cons, ih hr, look]
      by_cases hk : k < m
      · rw [if_pos hk, if_pos hk]
      · rw [if_neg hk, if_neg hk, if_neg (by omega)]
    · rw [if_neg h, List.drop_zero]
      by_cases hk : k < m
      · rw [if_pos hk, look_none]
        intro x hx
        rcases List.mem_cons.1 hx with rfl | hx
        · omega
        · have := up_head hu x hx; omega
      · rw [if_neg hk]
theorem up_take {L : List Ex} (hu : Up L) (i : Nat) : Up (L.take i) := hu.sublist (List.take_sublist i L)
theorem up_drop {L : List Ex} (hu : Up L) (i : Nat) : Up (L.drop i) := hu.sublist (List.drop_sublist i L)
theorem take_no {L : List Ex} {m : Int} {x : Ex} (hx : x ∈ L.take (idx L m)) : x.no < m := by
  obtain ⟨i, hi, rfl⟩ := List.mem_iff_getElem.1 hx
  have h1 : i < idx L m := by rw [List.length_take] at hi; omega
  have h2 : i < L.length := by rw [List.length_take] at hi; omega
  have := idx_lt L m i h1
  rw [List.getD_eq_getElem?_getD, List.getElem?_eq_getElem h2] at this
  rw [List.getElem_take]
  exact this
theorem drop_no {L : List Ex} (hu : Up L) {m : Int} {x : Ex} (hx : x ∈ L.drop (idx L m)) : m ≤ x.no := by
  obtain ⟨i, hi, rfl⟩ := List.mem_iff_getElem.1 hx
  rw [List.length_drop] at hi
  have := idx_ge L m hu (idx L m + i) (by omega) (by omega)
  rw [List.getD_eq_getElem?_getD, List.getElem?_eq_getElem (by omega)] at this
  rw [List.getElem_drop]
  exact this
theorem idx_mono {L : List Ex} (hu : Up L) {k m : Int} (h : k ≤ m) : idx L k ≤ idx L m := by
  by_cases hl : idx L m < idx L k
  · have h1 := idx_lt L k (idx L m) hl
    have h2 := idx_ge L m hu (idx L m) (Nat.le_refl _) (by have := idx_le L k; omega)
    omega
  · omega

/-- The byte at a place. -/
def at_ (L : List Ex) (p : Int) : Int := match look L (p / 8) with | some bs => bs.getD (p % 8).toNat 0 | none => 0
theorem at_ext {L M : List Ex} {p : Int} (h : look L (p / 8) = look M (p / 8)) : at_ L p = at_ M p := by simp only [at_, h]

/-- Good, by its places. -/
theorem good_of {s : Int} {L : List Ex} (s0 : 0 ≤ s) (s1 : s ≤ 1099511627776) (hu : Up L) (h : ∀ k bs, look L k = some bs → 0 ≤ k ∧ k < 137438953472 ∧ ∀ i : Nat, i < 8 → s ≤ k * 8 + (i : Int) → bs.getD i 0 = 0) : Good s L :=
  ⟨s0, s1, hu, fun e he => by have := h _ _ (look_mem hu he); exact ⟨this.1, this.2.1⟩, fun e he => bare_of (h _ _ (look_mem hu he)).2.2⟩
theorem Good.look {s : Int} {L : List Ex} (h : Good s L) {k : Int} {bs : List Int} (hl : look L k = some bs) : 0 ≤ k ∧ k < 137438953472 ∧ ∀ i : Nat, i < 8 → s ≤ k * 8 + (i : Int) → bs.getD i 0 = 0 := by
  have hm := look_some hl
  exact ⟨(h.rng _ hm).1, (h.rng _ hm).2, fun i hi hs => bare_at (h.bare _ hm) i hi hs⟩
theorem Good.behind {s : Int} {L : List Ex} (h : Good s L) {p : Int} (hp : s ≤ p) : at_ L p = 0 := by
  unfold at_
  cases hl : Go.Proofs.Ytigfimlpjmmpoaa.look L (p / 8) with
  | none => rfl
  | some bs =>
    have := (h.look hl).2.2 (p % 8).toNat (by omega) (by omega)
    simpa using this

end Go.Proofs.Ytigfimlpjmmpoaa
