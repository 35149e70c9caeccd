/- Plain: the runs cover all bytes, take turns, begin at multiples; what each of them holds. -/
import Derived.Test.YtjmgdnkfhfbbiaaWalksC
namespace Go.Proofs.Ytjmgdnkfhfbbiaa
namespace Plain

/-- In each piece from x on, over l bytes, stands another byte than 0. -/
def pcs (U : Nat) (zs : List Int) (x l : Nat) : Prop := ∀ k, x ≤ k → k < x + l → k % U = 0 → zeros ((zs.drop k).take (min U (x + l - k))) = false
/-- What a run is that begins at x, behind one of kind prev. -/
def hd (U : Nat) (zs : List Int) (prev : Option Bool) (x : Nat) (r : Run) : Prop :=
  r.p = (x : Int) ∧ 1 ≤ r.l ∧ x + r.l.toNat ≤ zs.length ∧ x % U = 0 ∧ prev ≠ some r.z ∧ (r.z = true → zeros ((zs.drop x).take r.l.toNat) = true) ∧ (r.z = false → pcs U zs x r.l.toNat)
/-- Runs from x up to e. -/
def cov (U : Nat) (zs : List Int) : Option Bool → Nat → List Run → Nat → Prop
  | _, x, [], e => x = e
  | prev, x, r :: rs, e => hd U zs prev x r ∧ cov U zs (some r.z) (x + r.l.toNat) rs e
def lastz : Option Bool → List Run → Option Bool
  | prev, [] => prev
  | _, r :: rs => lastz (some r.z) rs

theorem lastz_snoc (q : Run) : ∀ (i : List Run) (prev : Option Bool), lastz prev (i ++ [q]) = some q.z
  | [], _ => rfl
  | _ :: i, _ => lastz_snoc q i _
theorem cov_append (U : Nat) (zs : List Int) (b : List Run) (e : Nat) : ∀ (a : List Run) (prev : Option Bool) (x : Nat), cov U zs prev x (a ++ b) e ↔ ∃ m, cov U zs prev x a m ∧ cov U zs (lastz prev a) m b e
  | [], prev, x => by
    constructor
    · intro h; exact ⟨x, rfl, h⟩
    · rintro ⟨m, rfl, h⟩; exact h
  | r :: a, prev, x => by
    constructor
    · rintro ⟨h1, h2⟩
      obtain ⟨m, h3, h4⟩ := (cov_append U zs b e a _ _).1 h2
      exact ⟨m, ⟨h1, h3⟩, h4⟩
    · rintro ⟨m, ⟨h1, h3⟩, h4⟩
      exact ⟨h1, (cov_append U zs b e a _ _).2 ⟨m, h3, h4⟩⟩

theorem mults {U a b : Nat} (ha : a % U = 0) (hb : b % U = 0) (h : a < b) : a + U ≤ b := by
  have h1 : U ∣ b - a := Nat.dvd_sub (Nat.dvd_of_mod_eq_zero hb) (Nat.dvd_of_mod_eq_zero ha)
  have := Nat.le_of_dvd (by omega) h1
  omega

theorem hd_new (U : Nat) (zs : List Int) (prev : Option Bool) (k m : Nat) (hu : 1 ≤ U) (hk : k < zs.length) (hm : m = min U (zs.length - k)) (hk0 : k % U = 0) (hp : prev ≠ some (zeros ((zs.drop k).take m))) :
    hd U zs prev k ⟨(k : Int), (m : Int), zeros ((zs.drop k).take m)⟩ := by
  refine ⟨rfl, by show (1 : Int) ≤ m; omega, by show k + (m : Int).toNat ≤ _; omega, hk0, hp, fun h => by simpa using h, fun h => ?_⟩
  intro j hj1 hj2 hj3
  have hj2' : j < k + m := by simpa using hj2
  have hjk : j = k := by
    by_cases h : k < j
    · have := mults hk0 hj3 h; omega
    · omega
  subst hjk
  have e : min U (j + (m : Int).toNat - j) = m := by omega
  show zeros ((zs.drop j).take (min U (j + (m : Int).toNat - j))) = false
  rw [e]
  exact h

theorem hd_more (U : Nat) (zs : List Int) (prev : Option Bool) (x k m : Nat) (q : Run) (hq : hd U zs prev x q) (hx : x + q.l.toNat = k) (hk : k < zs.length) (hm : m = min U (zs.length - k)) (hk0 : k % U = 0) (hz : q.z = zeros ((zs.drop k).take m)) :
    hd U zs prev x ⟨q.p, q.l + (m : Int), q.z⟩ := by
  obtain ⟨h1, h2, h3, h4, h5, h6, h7⟩ := hq
  have e : (q.l + (m : Int)).toNat = q.l.toNat + m := by omega
  refine ⟨h1, by show 1 ≤ q.l + (m : Int); omega, by show x + (q.l + (m : Int)).toNat ≤ _; omega, h4, h5, fun h => ?_, fun h => ?_⟩
  · show zeros ((zs.drop x).take (q.l + (m : Int)).toNat) = true
    rw [e, List.take_add, List.drop_drop, hx, zeros_append, h6 h, ← hz]
    exact h
  · intro j hj1 hj2 hj3
    have hj2' : j < x + (q.l.toNat + m) := by rw [← e]; exact hj2
    show zeros ((zs.drop j).take (min U (x + (q.l + (m : Int)).toNat - j))) = false
    rw [e]
    by_cases hjk : j < k
    · have h8 := mults hj3 hk0 hjk
      have h9 := h7 h j hj1 (by omega) hj3
      have e1 : min U (x + q.l.toNat - j) = U := by omega
      have e2 : min U (x + (q.l.toNat + m) - j) = U := by omega
      rw [e1] at h9
      rw [e2]
      exact h9
    · have hjk2 : j = k := by
        by_cases h' : k < j
        · have := mults hk0 hj3 h'; omega
        · omega
      subst hjk2
      have e2 : min U (x + (q.l.toNat + m) - j) = m := by omega
      rw [e2, ← hz]
      exact h

theorem cov_join (U : Nat) (zs : List Int) (acc : List Run) (k m : Nat) (hu : 1 ≤ U) (hc : cov U zs none 0 acc k) (hk : k < zs.length) (hm : m = min U (zs.length - k)) (hk0 : k % U = 0) :
    cov U zs none 0 (joinS acc ⟨(k : Int), (m : Int), zeros ((zs.drop k).take m)⟩) (k + m) := by
  by_cases hn : acc = []
  · subst hn
    have h0 : 0 = k := hc
    subst h0
    rw [joinS_nil]
    exact ⟨hd_new U zs none 0 m hu hk hm hk0 (by simp), by show 0 + (m : Int).toNat = 0 + m; omega⟩
  · obtain ⟨i, q, rfl⟩ := last_run acc hn
    by_cases hz : q.z = zeros ((zs.drop k).take m)
    · rw [joinS_same _ _ _ hz]
      obtain ⟨x, h1, h2, h3⟩ := (cov_append U zs [q] k i none 0).1 hc
      have h3' : x + q.l.toNat = k := h3
      refine (cov_append U zs _ (k + m) i none 0).2 ⟨x, h1, hd_more U zs _ x k m q h2 h3' hk hm hk0 hz, ?_⟩
      show x + (q.l + (m : Int)).toNat = k + m
      have := h2.2.1
      omega
    · rw [joinS_other _ _ _ hz]
      refine (cov_append U zs _ (k + m) (i ++ [q]) none 0).2 ⟨k, hc, hd_new U zs _ k m hu hk hm hk0 ?_, ?_⟩
      · rw [lastz_snoc]
        intro h
        injection h with h
        exact hz h
      · show k + (m : Int).toNat = k + m
        omega

theorem cov_go (U : Nat) (zs : List Int) (hu : 1 ≤ U) : ∀ (f k : Nat) (acc : List Run), cov U zs none 0 acc k → (k < zs.length → k % U = 0) → k ≤ zs.length → zs.length - k ≤ f → cov U zs none 0 (runsGo U f k (zs.drop k) acc) zs.length
  | f, k, acc, hc, hk0, hk, hf => by
    by_cases h : k < zs.length
    · obtain ⟨g, rfl⟩ : ∃ g, f = g + 1 := ⟨f - 1, by omega⟩
      rw [runsGo_step U (g + 1) k (min U (zs.length - k)) zs acc h hf rfl]
      refine cov_go U zs hu g (k + min U (zs.length - k)) _ (cov_join U zs acc k _ hu hc h rfl (hk0 h)) (fun h2 => ?_) (by omega) (by omega)
      have e : min U (zs.length - k) = U := by omega
      rw [e, Nat.add_mod_right]
      exact hk0 h
    · obtain rfl : k = zs.length := by omega
      rw [runsGo_end _ _ _ _ _ (Nat.le_refl _)]
      exact hc

theorem cov_runs (U : Nat) (zs : List Int) (hu : 1 ≤ U) : cov U zs none 0 (runsOf (U : Int) zs) zs.length := by
  rw [runsOf, if_neg (by omega), Int.toNat_natCast]
  have := cov_go U zs hu zs.length 0 [] rfl (fun _ => Nat.zero_mod _) (Nat.zero_le _) (by omega)
  simpa using this

theorem drop_run (l : List Run) (k : Nat) (h : k < l.length) : l.drop k = l.getD k default :: l.drop (k + 1) := by
  rw [List.drop_eq_getElem_cons h, List.getD_eq_getElem?_getD, List.getElem?_eq_getElem h]; rfl

end Plain
end Go.Proofs.Ytjmgdnkfhfbbiaa
