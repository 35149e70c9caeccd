/- The law DiskTrue: what is told of one call. -/
import Derived.Test.YtdfjhgibdabeeaaSpec
namespace Go.Proofs.Ytdfjhgibdabeeaa

theorem stop_gt (F : Nat → Bool) (e p : Nat) (he : p < e) : ∀ f k, p < 8 * k → p < stop F e f k
  | 0, _, _ => he
  | f + 1, k, h => by
    unfold stop
    split
    · split
      · exact h
      · exact stop_gt F e p he f _ (by omega)
    · exact he

/-- What is told of an answer: none, and no failure; a failure; some bytes. -/
inductive Kind (D : Dev) (G : Nat → Int) (p q : Int) (a : Ans) : Prop where
  | none : a.out = [] → a.code ≠ 1 → a.G = G → Kind D G p q a
  | fail (P : Nat) : p = (P : Int) → a.out = [] → a.code = 1 → P < D.data.length → (isBad D.bad (P / 8) = true ∨ (isBad D.bad (P / 8) = false ∧ leftOf D a.G (P / 8) = leftOf D G (P / 8) - 1)) → Kind D G p q a
  | some (P m : Nat) : p = (P : Int) → a.code = 0 → a.G = G → 0 < m → a.out = (D.data.drop P).take m → (m : Int) ≤ q → P + m ≤ D.data.length → (∀ k, k < m → isBad D.bad ((P + k) / 8) = false ∧ ¬ 0 < leftOf D G ((P + k) / 8)) → Kind D G p q a

theorem get_kind (D : Dev) (G : Nat → Int) (cl : Nat) (p q : Int) : Kind D G p q (get D G cl p q) := by
  unfold get
  split
  · exact .none rfl (by simp) rfl
  · rename_i hr
    obtain ⟨P, rfl⟩ : ∃ P : Nat, p = (P : Int) := ⟨p.toNat, by omega⟩
    obtain ⟨Q, rfl⟩ : ∃ Q : Nat, q = (Q : Int) := ⟨q.toNat, by omega⟩
    simp only [Int.toNat_natCast]
    have hal := ask_le D cl P Q
    split
    · exact .none rfl (by simp) rfl
    · rename_i h0
      split
      · rename_i hf
        refine .fail P rfl rfl rfl (by omega) ?_
        by_cases hb : isBad D.bad (P / 8) = true
        · exact .inl hb
        · refine .inr ⟨by simpa using hb, ?_⟩
          show leftOf D (if isBad D.bad (P / 8) = true then G else upd G (P / 8) (G (P / 8) + 1)) (P / 8) = leftOf D G (P / 8) - 1
          rw [if_neg hb]
          unfold leftOf
          rw [if_neg hb, if_neg hb, upd_same]
          omega
      · rename_i hf
        have h1 : P < upto D G P (ask D cl P Q) := stop_gt _ _ _ (by omega) _ _ (by omega)
        have h2 : upto D G P (ask D cl P Q) ≤ P + ask D cl P Q := stop_le _ _ _ _
        refine .some P (upto D G P (ask D cl P Q) - P) rfl rfl rfl (by omega) rfl (by omega) (by omega) (fun k hk => ?_)
        have hF : fails D G ((P + k) / 8) = false := by
          by_cases hj : (P + k) / 8 = P / 8
          · rw [hj]; simpa using hf
          · exact stop_free (fails D G) (P + ask D cl P Q) (P + ask D cl P Q) (P / 8 + 1) (by omega) ((P + k) / 8) (show P / 8 + 1 ≤ (P + k) / 8 by omega) (by unfold upto at hk; omega)
        unfold fails at hF
        simp at hF
        exact ⟨hF.1, by omega⟩

end Go.Proofs.Ytdfjhgibdabeeaa
