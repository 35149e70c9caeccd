/- A disk that fails: what each call answers, as plain functions. No Go of the program. -/
import Derived.Test.YtdfjhgibdabeeaaPlain
namespace Go.Proofs.Ytdfjhgibdabeeaa

structure Dev where
  data : List Int
  bad : List Int
  soft : List (Int × Int)
  shorts : List Int
def Dev.none : Dev := ⟨[], [], [], []⟩

def softOk (p : Int × Int) : Bool := !(decide (p.1 < 0) || decide (p.2 < 0) || decide (20 < p.2))
/-- It may be a disk's. -/
def Dev.may (D : Dev) : Bool := decide (D.data.length ≤ 65536) && !(D.bad.any fun z => decide (z < 0)) && D.soft.all softOk
def Dev.eff (D : Dev) : Dev := if D.may then D else Dev.none
def Dev.few (D : Dev) : Bool := decide (D.data.length ≤ 400) && decide (D.bad.length ≤ 60) && decide (D.soft.length ≤ 60) && decide (D.shorts.length ≤ 200)
def Dev.m (D : Dev) : Nat := (D.data.length + 7) / 8

def isBad (l : List Int) (k : Nat) : Bool := l.any fun z => z == (k : Int)
/-- All Times of a sector. -/
def times : List (Int × Int) → Nat → Int
  | [], _ => 0
  | p :: r, k => (if p.1 = (k : Int) then p.2 else 0) + times r k
theorem times_append (a b : List (Int × Int)) (k : Nat) : times (a ++ b) k = times a k + times b k := by
  induction a with
  | nil => simp [times]
  | cons p r ih => simp only [List.cons_append, times, ih]; omega
theorem times_snoc (l : List (Int × Int)) (j k : Nat) (h : j < l.length) : times (l.take (j + 1)) k = times (l.take j) k + (if (l.getD j (0, 0)).1 = (k : Int) then (l.getD j (0, 0)).2 else 0) := by
  rw [List.take_add_one, times_append, List.getElem?_eq_getElem h, List.getD_eq_getElem?_getD, List.getElem?_eq_getElem h]
  simp [times]
theorem isBad_snoc (l : List Int) (j k : Nat) (h : j < l.length) : isBad (l.take (j + 1)) k = (isBad (l.take j) k || (l.getD j 0 == (k : Int))) := by
  rw [List.take_add_one, isBad, List.any_append, List.getElem?_eq_getElem h, List.getD_eq_getElem?_getD, List.getElem?_eq_getElem h]
  simp [isBad]
theorem times_le (l : List (Int × Int)) (k : Nat) (h : l.all softOk = true) : 0 ≤ times l k ∧ times l k ≤ 20 * l.length := by
  induction l with
  | nil => simp [times]
  | cons p r ih =>
    simp only [List.all_cons, Bool.and_eq_true] at h
    have h1 := ih h.2
    have h2 : ¬ p.1 < 0 ∧ ¬ p.2 < 0 ∧ ¬ 20 < p.2 := by have := h.1; simp [softOk] at this; omega
    simp only [times, List.length_cons]
    split <;> omega
theorem all_take {l : List (Int × Int)} (h : l.all softOk = true) (j : Nat) : (l.take j).all softOk = true := by
  rw [List.all_eq_true] at h ⊢
  exact fun x hx => h x (List.mem_of_mem_take hx)
theorem times_neg (l : List (Int × Int)) : l.all softOk = true → ∀ j, j < l.length → 0 ≤ (l.getD j (0, 0)).1 ∧ 0 ≤ (l.getD j (0, 0)).2 ∧ (l.getD j (0, 0)).2 ≤ 20 := by
  intro h j hj
  rw [List.getD_eq_getElem?_getD, List.getElem?_eq_getElem hj]
  have := List.all_eq_true.1 h _ (List.getElem_mem hj)
  simp [softOk] at this
  simp; omega
theorem bad_neg (l : List Int) : (l.any fun z => decide (z < 0)) = false → ∀ j, j < l.length → 0 ≤ l.getD j 0 := by
  intro h j hj
  rw [List.getD_eq_getElem?_getD, List.getElem?_eq_getElem hj]
  have := List.any_eq_false.1 h _ (List.getElem_mem hj)
  simp at this
  simpa using this

/-- How often the sector still fails, when it failed G times. -/
def leftOf (D : Dev) (G : Nat → Int) (k : Nat) : Int := if isBad D.bad k then 0 else times D.soft k - G k
def left (D : Dev) (G : Nat → Int) (k : Int) : Int := if 0 ≤ k ∧ k < (D.m : Int) then leftOf D G k.toNat else 0
def fails (D : Dev) (G : Nat → Int) (k : Nat) : Bool := isBad D.bad k || decide (0 < leftOf D G k)
/-- How many bytes call number cl answers at most. -/
def short (D : Dev) (cl : Nat) : Int := if cl < D.shorts.length ∧ 0 < D.shorts.getD cl 0 then D.shorts.getD cl 0 else 4096
def ask (D : Dev) (cl p n : Nat) : Nat := min (min n (D.data.length - p)) (short D cl).toNat
/-- Where the bytes up to e stop: at the first sector from k on that fails, or at e. -/
def stop (F : Nat → Bool) (e : Nat) : Nat → Nat → Nat
  | 0, _ => e
  | f + 1, k => if 8 * k < e then (if F k then 8 * k else stop F e f (k + 1)) else e
def upto (D : Dev) (G : Nat → Int) (p a : Nat) : Nat := stop (fails D G) (p + a) (p + a) (p / 8 + 1)

structure Ans where
  out : List Int
  code : Int
  G : Nat → Int
  cl : Nat
def get (D : Dev) (G : Nat → Int) (cl : Nat) (p n : Int) : Ans :=
  if p < 0 ∨ n < 0 ∨ 4096 < n then ⟨[], 5, G, cl⟩
  else if ask D cl p.toNat n.toNat = 0 then ⟨[], 0, G, cl + 1⟩
  else if fails D G (p.toNat / 8) then ⟨[], 1, (if isBad D.bad (p.toNat / 8) then G else upd G (p.toNat / 8) (G (p.toNat / 8) + 1)), cl + 1⟩
  else ⟨(D.data.drop p.toNat).take (upto D G p.toNat (ask D cl p.toNat n.toNat) - p.toNat), 0, G, cl + 1⟩

theorem stop_le (F : Nat → Bool) (e : Nat) : ∀ f k, stop F e f k ≤ e
  | 0, _ => Nat.le_refl _
  | f + 1, k => by
    unfold stop
    split
    · split
      · omega
      · exact stop_le F e f _
    · omega
theorem stop_ge (F : Nat → Bool) (e p : Nat) (he : p ≤ e) : ∀ f k, p ≤ 8 * k → p ≤ stop F e f k
  | 0, _, _ => he
  | f + 1, k, h => by
    unfold stop
    split
    · split
      · exact h
      · exact stop_ge F e p he f _ (by omega)
    · exact he
/-- More fuel than there are sectors tells the same. -/
theorem stop_at (F : Nat → Bool) (e : Nat) : ∀ f k, e ≤ f + k → (8 * k < e → stop F e f k = if F k then 8 * k else stop F e (f - 1) (k + 1)) ∧ (¬ 8 * k < e → stop F e f k = e)
  | 0, k, h => ⟨fun h2 => by omega, fun _ => rfl⟩
  | f + 1, k, _ => ⟨fun h2 => by rw [stop, if_pos h2]; rfl, fun h2 => by rw [stop, if_neg h2]⟩
/-- All sectors ahead of it, from k on, do not fail. -/
theorem stop_free (F : Nat → Bool) (e : Nat) : ∀ f k, e ≤ f + k → ∀ j, k ≤ j → 8 * j < stop F e f k → F j = false
  | 0, k, h, j, h1, h2 => by rw [stop] at h2; omega
  | f + 1, k, h, j, h1, h2 => by
    unfold stop at h2
    split at h2
    · split at h2
      · omega
      · rename_i hF
        by_cases hjk : j = k
        · subst hjk; simpa using hF
        · exact stop_free F e f (k + 1) (by omega) j (by omega) h2
    · omega

/-- As far as it may have failed. -/
def Sound (D : Dev) (G : Nat → Int) : Prop := ∀ k, 0 ≤ G k ∧ G k ≤ times D.soft k
theorem leftOf_le {D : Dev} {G : Nat → Int} (hm : D.soft.all softOk = true) (hs : D.soft.length ≤ 60) (h : Sound D G) (k : Nat) : 0 ≤ leftOf D G k ∧ leftOf D G k ≤ 1200 := by
  have h1 := times_le D.soft k hm
  have h2 := h k
  unfold leftOf
  split <;> omega
theorem sound_get {D : Dev} {G : Nat → Int} (h : Sound D G) (cl : Nat) (p n : Int) : Sound D (get D G cl p n).G := by
  unfold get
  split
  · exact h
  · split
    · exact h
    · split
      · rename_i hf
        simp only
        split
        · exact h
        · rename_i hb
          intro k
          have hk := h k
          unfold upd
          split
          · rename_i hkk
            subst hkk
            unfold fails leftOf at hf
            simp [hb] at hf
            omega
          · exact hk
      · exact h
theorem ask_le (D : Dev) (cl p n : Nat) : ask D cl p n ≤ n ∧ ask D cl p n ≤ D.data.length - p := by unfold ask; omega

end Go.Proofs.Ytdfjhgibdabeeaa
