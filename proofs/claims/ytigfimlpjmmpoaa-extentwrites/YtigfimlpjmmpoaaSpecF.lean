/- A block that is put where it belongs, if it is not there (the reference's need). -/
import Derived.Test.YtigfimlpjmmpoaaSpecD
namespace Go.Proofs.Ytigfimlpjmmpoaa

def ins (L : List Ex) (no : Int) : List Ex := if (look L no).isSome = true then L else L.take (idx L no) ++ ([⟨no, nul8⟩] ++ L.drop (idx L no))
theorem ins_look {L : List Ex} (hu : Up L) (no m : Int) : look (ins L no) m = if m = no then some ((look L no).getD nul8) else look L m := by
  unfold ins
  cases h : look L no with
  | some bs =>
    rw [if_pos (show (some bs).isSome = true from rfl)]
    by_cases g : m = no
    · subst g; rw [h, if_pos rfl]; rfl
    · rw [if_neg g]
  | none =>
    rw [if_neg (by simp), look_append, look_append, look_take hu, look_drop hu]
    simp only [look, Option.getD_none]
    by_cases g : m = no
    · subst g
      rw [if_neg (Int.lt_irrefl _), if_pos rfl, if_pos rfl]
    · have g' : ¬ no = m := fun x => g x.symm
      by_cases g2 : m < no
      · simp only [if_neg g', if_neg g, if_pos g2]
        cases look L m <;> rfl
      · simp only [if_neg g', if_neg g, if_neg g2]
theorem up_ins {L : List Ex} (hu : Up L) (no : Int) : Up (ins L no) := by
  unfold ins
  split
  next => exact hu
  next h =>
    have hn : look L no = none := by
      cases hl : look L no with
      | none => rfl
      | some _ => rw [hl] at h; exact absurd rfl h
    refine List.pairwise_append.2 ⟨up_take hu _, List.pairwise_append.2 ⟨List.pairwise_singleton _ _, up_drop hu _, fun a ha b hb => ?_⟩, fun a ha b hb => ?_⟩
    · rw [List.mem_singleton] at ha
      subst ha
      have h1 := drop_no hu hb
      have h2 : b.no ≠ no := by
        intro he
        have := look_mem hu (List.mem_of_mem_drop hb)
        rw [he, hn] at this
        cases this
      show no < b.no
      omega
    · have h1 := take_no ha
      rcases List.mem_append.1 hb with hb | hb
      · rw [List.mem_singleton] at hb
        subst hb
        exact h1
      · have h2 := drop_no hu hb
        omega
theorem ins_len (L : List Ex) (no : Int) : (ins L no).length ≤ L.length + 1 := by
  unfold ins
  split
  next => omega
  next => simp; omega
theorem ins_ok {L : List Ex} (h : ∀ e ∈ L, e.ok) (no : Int) : ∀ e ∈ ins L no, e.ok := by
  unfold ins
  intro e he
  split at he
  next => exact h e he
  next =>
    rcases List.mem_append.1 he with he | he
    · exact h e (List.mem_of_mem_take he)
    · rcases List.mem_append.1 he with he | he
      · rw [List.mem_singleton] at he
        subst he
        exact ok_nul no
      · exact h e (List.mem_of_mem_drop he)
end Go.Proofs.Ytigfimlpjmmpoaa
