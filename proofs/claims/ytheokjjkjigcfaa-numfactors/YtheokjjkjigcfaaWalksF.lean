/- Contract of num.part. -/
import Derived.Test.YtheokjjkjigcfaaRows
import Derived.Test.YtheokjjkjigcfaaWalksE
import Derived.Test.YtheokjjkjigcfaaWalksM
import Derived.WalkKit
import Derived.WalkSpells
import Derived.WalkLawsBesides
import Derived.Lib.Hide
namespace Go.Proofs.Ytheokjjkjigcfaa
open Go.RowKit
namespace Plain
/-- The first k bytes are decimal digits. -/
def DecTo (l : List UInt8) (k : Nat) : Prop := l.takeWhile isDec = l.take k ++ (l.drop k).takeWhile isDec ∧ l.dropWhile isDec = (l.drop k).dropWhile isDec
theorem DecTo.zero (l : List UInt8) : DecTo l 0 := by simp [DecTo]
theorem DecTo.next {l : List UInt8} {k : Nat} {c : UInt8} (h : DecTo l k) (hd : l.drop k = c :: l.drop (k + 1)) (hc : isDec c = true) : DecTo l (k + 1) := by
  obtain ⟨h1, h2⟩ := h
  have ht : l.take (k + 1) = l.take k ++ [c] := by
    have h3 : l[k]? = some c := by
      have := congrArg (fun x => x[0]?) hd
      simpa using this
    rw [List.take_add_one, h3]; rfl
  rw [hd, List.takeWhile_cons_of_pos hc] at h1
  rw [hd, List.dropWhile_cons_of_pos hc] at h2
  exact ⟨by rw [h1, ht]; simp, h2⟩
theorem DecTo.ends {l : List UInt8} {k : Nat} (h : DecTo l k) (he : l.length ≤ k ∨ ∃ c r, l.drop k = c :: r ∧ isDec c = false) : l.takeWhile isDec = l.take k ∧ l.dropWhile isDec = l.drop k := by
  obtain ⟨h1, h2⟩ := h
  rcases he with he | ⟨c, r, he, hc⟩
  · rw [h1, h2, List.drop_of_length_le he]; simp
  · rw [h1, h2, he, List.takeWhile_cons_of_neg (by simp [hc]), List.dropWhile_cons_of_neg (by simp [hc])]; simp
def intV (o : Option Int) : Int := o.getD 0
end Plain
theorem ret_optI {o : Option Int} {a : Int} {p : Bool} (h : a = Plain.intV o ∧ p = o.isSome) : Ending.returned (.tuple #[.int .i64 a, .bool p]) = .returned (.tuple #[.int .i64 (Plain.intV o), .bool o.isSome]) := by rw [h.1, h.2]
theorem optI_none {o : Option Int} (h : o = none) : (0 : Int) = Plain.intV o ∧ false = o.isSome := by subst h; exact ⟨rfl, rfl⟩
theorem optI_mul {o : Option Int} {l : List Int} (h : o = Plain.mulS l) : Plain.mulV l = Plain.intV o ∧ Plain.mulOk l = o.isSome := by subst h; exact ⟨rfl, rfl⟩
theorem read_of {base most : Nat} {l : List UInt8} {o : Option Nat} (h : Plain.readS base most l = o) : Plain.readV base most l = Plain.natV o ∧ Plain.readOk base most l = o.isSome := by subst h; exact ⟨rfl, rfl⟩

/-- What is behind the digits is told; the rest of the walk. -/
def PartPost (l : List UInt8) (w : World) (e : Ending) (w' : World) : Prop := e = .returned (.tuple #[.int .i64 (Plain.intV (Plain.partS l)), .bool (Plain.partS l).isSome]) ∧ Below w.heap.size w w'

set_option maxHeartbeats 2000000 in
theorem part_any (s : ByteArray) (w : World) (hs : s.size ≤ maxLen) : Calls Try.prog 22 #[.string s] w (PartPost s.data.toList w) := by
  have HS := Lib.hid hs
  unfold maxLen at hs
  have HL := Lib.hid (Plain.len_data s)
  go_enter Try.func22, Try.ntmps22
  go_wp2
  go_loop [4] (fun i => ∃ (k : Nat), k ≤ s.size ∧ i = .int .i64 k ∧ Hid (Plain.DecTo s.data.toList k)) (fun i => s.size - (intOf i).toNat)
  case atStart => exact ⟨0, Nat.zero_le _, rfl, Plain.DecTo.zero _⟩
  case round =>
    obtain ⟨k, hk, rfl, HE⟩ := hrel
    have rest : (l1 : s.data.toList.takeWhile Plain.isDec = s.data.toList.take k ∧ s.data.toList.dropWhile Plain.isDec = s.data.toList.drop k) → Hid (∃ o1 o2, Plain.partS s.data.toList = Plain.two? o1 o2 ∧ Plain.readS 10 19 (s.extract 0 k).data.toList = o1 ∧ Plain.unitS (s.extract k s.size).data.toList = o2) := fun l1 => ⟨_, _, by rw [Plain.partS, l1.1, l1.2], by rw [Lib.extract_data]; simp, by rw [Lib.extract_to_end]⟩
    by_cases hlt : k < s.size
    · have hd := Plain.data_at s k hlt
      have HD := Lib.hid hd; clear hd
      by_cases hc : 48 ≤ s[k].toNat ∧ s[k].toNat ≤ 57
      · have X : Hid (Plain.DecTo s.data.toList (k + 1)) := HE.out.next HD.out ((Plain.isDec_iff _).2 hc)
        obtain ⟨c1, c2⟩ := hc
        clear rest
        go_wp2_with (go_at_call 30; refine (isDec_yes _ _ (by omega) (by omega)).mono ?_; rintro e w' ⟨rfl, rfl⟩)
        go_round
        case rel => exact ⟨k + 1, by omega, by go_num, X⟩
        case measure => simp [intOf]; omega
      · obtain ⟨o1, o2, P0, P1, P2⟩ := (rest (HE.out.ends (.inr ⟨_, _, HD.out, (Plain.isDec_not _).2 hc⟩))).out
        have HP := Lib.hid P0; have H1 := Lib.hid P1; have H2 := Lib.hid P2; have HC := Lib.hid hc; clear P0 P1 P2 hc rest
        go_wp2_with (go_at_call 30; refine (isDec_no _ _ (by have := HC.out; omega)).mono ?_; rintro e w' ⟨rfl, rfl⟩)
        refine (read_any (s.extract 0 k) 10 19 _ (by have := HS.out; simp; omega) (by omega) (by omega) (by omega) (by decide)).mono ?_
        rw [(read_of H1.out).1, (read_of H1.out).2]
        rintro e w1 ⟨rfl, rfl⟩
        cases o1 with
        | none =>
          have hv : Plain.partS s.data.toList = none := by rw [HP.out]; rfl
          have HV := Lib.hid hv; clear hv
          rw [Option.isSome_none]
          go_wp2
          go_ret2
          exact ⟨ret_optI (optI_none HV.out), Below.refl _ _⟩
        | some n =>
          rw [Option.isSome_some]
          go_wp2_with fail
          refine (unit_any (s.extract k s.size) _).mono ?_
          rw [H2.out]
          rintro e w1 ⟨rfl, rfl⟩
          cases o2 with
          | none =>
            have hv : Plain.partS s.data.toList = none := by rw [HP.out]; rfl
            have HV := Lib.hid hv; clear hv
            rw [Option.isSome_none]
            go_wp2
            go_ret2
            exact ⟨ret_optI (optI_none HV.out), Below.refl _ _⟩
          | some t =>
            rw [Option.isSome_some]
            have hv : Plain.partS s.data.toList = Plain.mulS [Plain.natV (some n), Plain.natV (some t)] := by rw [HP.out]; rfl
            have HV := Lib.hid hv; clear hv
            go_wp2_with fail
            refine (mul_any _ _ _ [Plain.natV (some n), Plain.natV (some t)] _ (by decide) (ints_two _ _ _ _)).mono ?_
            rw [(optI_mul HV.out).1, (optI_mul HV.out).2]
            rintro e w1 ⟨rfl, rfl⟩
            go_wp2
            go_ret2
            exact ⟨rfl, (Below.refl w.heap.size w).alloc (Nat.le_refl _) _⟩
    · obtain ⟨o1, o2, P0, P1, P2⟩ := (rest (HE.out.ends (.inl (by have := HL.out; omega)))).out
      have HP := Lib.hid P0; have H1 := Lib.hid P1; have H2 := Lib.hid P2; clear P0 P1 P2 rest
      go_wp2_with fail
      refine (read_any (s.extract 0 k) 10 19 _ (by have := HS.out; simp; omega) (by omega) (by omega) (by omega) (by decide)).mono ?_
      rw [(read_of H1.out).1, (read_of H1.out).2]
      rintro e w1 ⟨rfl, rfl⟩
      cases o1 with
      | none =>
        have hv : Plain.partS s.data.toList = none := by rw [HP.out]; rfl
        have HV := Lib.hid hv; clear hv
        rw [Option.isSome_none]
        go_wp2
        go_ret2
        exact ⟨ret_optI (optI_none HV.out), Below.refl _ _⟩
      | some n =>
        rw [Option.isSome_some]
        go_wp2_with fail
        refine (unit_any (s.extract k s.size) _).mono ?_
        rw [H2.out]
        rintro e w1 ⟨rfl, rfl⟩
        cases o2 with
        | none =>
          have hv : Plain.partS s.data.toList = none := by rw [HP.out]; rfl
          have HV := Lib.hid hv; clear hv
          rw [Option.isSome_none]
          go_wp2
          go_ret2
          exact ⟨ret_optI (optI_none HV.out), Below.refl _ _⟩
        | some t =>
          rw [Option.isSome_some]
          have hv : Plain.partS s.data.toList = Plain.mulS [Plain.natV (some n), Plain.natV (some t)] := by rw [HP.out]; rfl
          have HV := Lib.hid hv; clear hv
          go_wp2_with fail
          refine (mul_any _ _ _ [Plain.natV (some n), Plain.natV (some t)] _ (by decide) (ints_two _ _ _ _)).mono ?_
          rw [(optI_mul HV.out).1, (optI_mul HV.out).2]
          rintro e w1 ⟨rfl, rfl⟩
          go_wp2
          go_ret2
          exact ⟨rfl, (Below.refl w.heap.size w).alloc (Nat.le_refl _) _⟩

end Go.Proofs.Ytheokjjkjigcfaa
