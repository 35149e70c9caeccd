/- Contract of num.Get. -/
import Derived.Test.YtheokjjkjigcfaaRows
import Derived.Test.YtheokjjkjigcfaaWalksF
import Derived.WalkKit
import Derived.WalkSpells
import Derived.WalkLawsBesides
import Derived.Lib.Hide
import Derived.Maps.AppendAt
namespace Go.Proofs.Ytheokjjkjigcfaa
open Go.RowKit

theorem info3 : (Try.prog.info? 3).map (fun i => (i.zero, i.size, i.bytes)) = some (some (.int .i64 0), 1, 8) := by kernel_rfl

theorem own_below {w w' : World} {base : Nat} {e : TypeId} {size : Nat} {v : Value} {n : Nat} {xs : List Value} (h : w.ownsRow base e size v n xs) (hb : Below w.heap.size w w') : w'.ownsRow base e size v n xs :=
  h.kept (row := none) ⟨hb.os, hb.tape, hb.output, hb.size, fun k hk _ => hb.block k hk⟩ (by cases v.ownBlock <;> simp)

/-- append of one int onto a row of ints of the call's own. -/
theorem append_one {w : World} {ops : Array Oper} {rest : List Oper} {o : Oper} {a : Act} {Q : Exit → Act → World → Prop} (hgd : o.guard = none) (s x : Operand)
    (ho : o.op = .call { callee := .builtin .append, args := #[s, x], argTypes := #[31, 31] })
    (base : Nat) (v : Value) (zs : List Int) (hs : a.eval s = v) (hown : w.ownsRow base 3 1 v zs.length (Plain.intVals zs)) (z : Int) (b : Nat) (hbn : b = w.heap.size)
    (hx : a.eval x = .slice (some ⟨b, 0, none⟩) 1 1)
    (hb : zs.length + 1 ≤ 1000000) (hbase : base ≤ w.heap.size)
    (h : ∀ v' w', w'.ownsRow base 3 1 v' (zs ++ [z]).length (Plain.intVals (zs ++ [z])) → Below base w w' → wpList Try.prog ops Q rest (a.put o.dst v') w') :
    wpList Try.prog ops Q (o :: rest) a (w.alloc (.cells #[.int .i64 z] 3)) := by
  obtain ⟨i0, hi, hz0, hz1, hz2⟩ := info_parts info3
  subst hbn
  refine wpList_append_own _ hgd s x 31 ho base 3 i0 (.int .i64 0) 1 8 Try.underlying31 hi hz0 hz1 hz2 rfl (by decide) v zs.length _ hs (hown.alloc _) ⟨w.heap.size, 0, none⟩ 1 1 [.int .i64 z] hx rfl (cell_one_new _ _ _) ?_ (by unfold maxLen; omega) (by omega) (by simp; omega) ?_
  · intro u hu
    simp at hu
    subst hu
    rfl
  · intro v' w' h1 h2 _
    refine h v' w' ?_ ?_
    · rw [List.length_append, Plain.intVals, List.map_append]
      exact h1
    · exact Below.grown ((Below.refl base w).alloc hbase _) h2 (by simp; omega) (fun k hk => (hown.lt k hk).1)

theorem part_at (s : ByteArray) (l : List UInt8) (w : World) (hl : s.data.toList = l) (hs : s.size ≤ maxLen) : Calls Try.prog 22 #[.string s] w (PartPost l w) := hl ▸ part_any s w hs

namespace Plain
/-- Where num.Get stands ahead of byte k: parts ps are read, the next one began at f. -/
def GetAt (l : List UInt8) (k f : Nat) (ps : List Int) : Prop :=
  (k ≤ l.length ∧ f ≤ k ∧ getGo [] [] l = getGo ps ((l.drop f).take (k - f)) (l.drop k)) ∨ (k = l.length + 1 ∧ getGo [] [] l = some ps)
theorem GetAt.zero (l : List UInt8) : GetAt l 0 0 [] := .inl ⟨Nat.zero_le _, Nat.le_refl _, by simp⟩
theorem take_next {l : List UInt8} {f k : Nat} {c : UInt8} (hf : f ≤ k) (hd : l.drop k = c :: l.drop (k + 1)) : (l.drop f).take (k + 1 - f) = (l.drop f).take (k - f) ++ [c] := by
  have h3 : (l.drop f)[k - f]? = some c := by
    have := congrArg (fun x => x[0]?) hd
    rw [List.getElem?_drop, show f + (k - f) = k by omega]
    simpa using this
  rw [show k + 1 - f = (k - f) + 1 by omega, List.take_add_one, h3]; rfl
theorem GetAt.skip {l : List UInt8} {k f : Nat} {ps : List Int} {c : UInt8} (h : GetAt l k f ps) (hk : k < l.length) (hd : l.drop k = c :: l.drop (k + 1)) (hc : c ≠ 120) : GetAt l (k + 1) f ps := by
  rcases h with ⟨_, h2, h3⟩ | ⟨h1, _⟩
  · refine .inl ⟨by omega, by omega, ?_⟩
    rw [h3, take_next h2 hd, hd, getGo, if_neg hc]
  · omega
theorem GetAt.none {l : List UInt8} {k f : Nat} {ps : List Int} (h : GetAt l k f ps) (hk : k ≤ l.length) (hc : k = l.length ∨ l.drop k = 120 :: l.drop (k + 1)) (hp : partS ((l.drop f).take (k - f)) = none) : getS l = none := by
  rcases h with ⟨_, h2, h3⟩ | ⟨h1, _⟩
  · rw [getS, h3]
    rcases hc with hc | hc
    · rw [show l.drop k = [] from List.drop_of_length_le (by omega), getGo, hp]; rfl
    · rw [hc, getGo, if_pos rfl, hp]; rfl
  · omega
theorem GetAt.next {l : List UInt8} {k f : Nat} {ps : List Int} {p : Int} (h : GetAt l k f ps) (hk : k ≤ l.length) (hc : k = l.length ∨ l.drop k = 120 :: l.drop (k + 1)) (hp : partS ((l.drop f).take (k - f)) = some p) : GetAt l (k + 1) (k + 1) (ps ++ [p]) := by
  rcases h with ⟨_, h2, h3⟩ | ⟨h1, _⟩
  · rcases hc with hc | hc
    · refine .inr ⟨by omega, ?_⟩
      rw [h3, show l.drop k = [] from List.drop_of_length_le (by omega), getGo, hp]
    · refine .inl ⟨?_, Nat.le_refl _, ?_⟩
      · have := congrArg List.length hc
        simp at this
        omega
      · rw [h3, hc, getGo, if_pos rfl, hp]; simp
  · omega
theorem GetAt.ends {l : List UInt8} {k f : Nat} {ps : List Int} (h : GetAt l k f ps) (hk : l.length < k) : getS l = mulS ps := by
  rcases h with ⟨h1, _⟩ | ⟨_, h2⟩
  · omega
  · rw [getS, h2]; rfl
end Plain

def GetPost (l : List UInt8) (w : World) (e : Ending) (w' : World) : Prop := e = .returned (.tuple #[.int .i64 (Plain.intV (Plain.getS l)), .bool (Plain.getS l).isSome]) ∧ Below w.heap.size w w'

set_option maxHeartbeats 2000000 in
theorem get_any (s : ByteArray) (w : World) (hs : s.size ≤ 100000) : Calls Try.prog 9 #[.string s] w (GetPost s.data.toList w) := by
  have HL := Lib.hid (Plain.len_data s)
  go_enter Try.func9, Try.ntmps9
  go_wp2
  go_loopw [4, 5, 12] (fun v fr i wr => ∃ (k f : Nat) (ps : List Int), k ≤ s.size + 1 ∧ i = .int .i64 k ∧ fr = .int .i64 f ∧ f ≤ k ∧ ps.length ≤ k ∧ wr.ownsRow w.heap.size 3 1 v ps.length (Plain.intVals ps) ∧ Below w.heap.size w wr ∧ Hid (Plain.GetAt s.data.toList k f ps)) (fun _ _ i _ => s.size + 1 - (intOf i).toNat)
  case atStart => exact ⟨0, 0, [], Nat.zero_le _, rfl, rfl, Nat.le_refl _, by simp, World.ownsRow_nil _ _ _ _, Below.refl _ _, Plain.GetAt.zero _⟩
  case round =>
    obtain ⟨k, f, ps, hk, rfl, rfl, hf, hps, hown, hbel, HE⟩ := hrel
    have OWN := Lib.hid hown
    clear hown
    by_cases hlt : k < s.size + 1
    · by_cases hsk : k < s.size ∧ ∀ h : k < s.size, s[k].toNat ≠ 120
      · obtain ⟨hls, hne⟩ := hsk
        have hne2 := hne hls
        have X : Hid (Plain.GetAt s.data.toList (k + 1) f ps) := HE.out.skip (by have := HL.out; omega) (Plain.data_at s k hls) (fun h => hne2 (by rw [h]; rfl))
        have hz : ((s[k].toNat : Int) != 120) = true := by simp; omega
        clear hne hne2
        go_wp2
        go_roundw
        case rel => exact ⟨k + 1, f, ps, by omega, by go_num, rfl, by omega, by omega, OWN.out, hbel, X⟩
        case measure => simp [intOf]; omega
      · obtain ⟨cur, hcur⟩ : ∃ cur, (s.extract f k).data.toList = cur := ⟨_, rfl⟩
        have hcur2 : (s.data.toList.drop f).take (k - f) = cur := by rw [← hcur, Lib.extract_data]
        have hend : k = s.data.toList.length ∨ s.data.toList.drop k = 120 :: s.data.toList.drop (k + 1) := by
          rw [HL.out]
          by_cases h1 : k < s.size
          · right
            rw [Plain.data_at s k h1]
            have : s[k].toNat = 120 := Classical.byContradiction fun h => hsk ⟨h1, fun _ => h⟩
            rw [show s[k] = 120 from UInt8.toNat_inj.1 this]
          · left; omega
        have hkl : k ≤ s.data.toList.length := by rw [HL.out]; omega
        have hnone := fun h : Plain.partS cur = none => HE.out.none hkl hend (by rw [hcur2]; exact h)
        have hnext := fun p (h : Plain.partS cur = some p) => HE.out.next hkl hend (p := p) (by rw [hcur2]; exact h)
        have NO := Lib.hid hnone; have NX := Lib.hid hnext; have CUR := Lib.hid hcur
        have hstop : k < s.size → ∀ h : k < s.size, s[k].toNat = 120 := fun _ h => Classical.byContradiction fun h2 => hsk ⟨h, fun _ => h2⟩
        clear hnone hnext hcur hcur2 hend hkl hsk HE
        have fin : ∀ w1 : World, Below wr.heap.size wr w1 → Below w.heap.size w w1 := fun w1 h => hbel.trans (h.mono hbel.size)
        have FIN := Lib.hid fin; clear fin
        by_cases hls : k < s.size
        · have hz : ((s[k].toNat : Int) != 120) = false := by simp [hstop hls hls]
          clear hstop
          go_wp2_with fail
          refine (part_at (s.extract f k) cur _ CUR.out (by unfold maxLen; simp; omega)).mono ?_
          rintro e w1 ⟨rfl, k1⟩
          cases hp : Plain.partS cur with
          | none =>
            have HV := Lib.hid (NO.out hp); clear hp
            rw [Option.isSome_none]
            go_wp2
            go_ret2
            exact ⟨ret_optI (optI_none HV.out), FIN.out _ k1⟩
          | some p =>
            have X := Lib.hid (NX.out p hp); clear hp
            rw [Option.isSome_some, show Plain.intV (some p) = p from rfl]
            have hsz := k1.size
            have hsz2 := hbel.size
            have OW := Lib.hid (own_below OWN.out k1)
            have BL := Lib.hid (FIN.out _ k1)
            clear k1
            go_wp2_with (at_builtin; refine append_one rfl _ _ rfl w.heap.size _ ps rfl OW.out p _ (by simp) rfl (by omega) (by omega) ?_; intro v2 w2 o2 b2; have O2 := Lib.hid o2; have B2 := Lib.hid (BL.out.trans b2); clear o2 b2)
            go_roundw
            case rel => exact ⟨k + 1, k + 1, ps ++ [p], by omega, by go_num, by go_num, by omega, by simp; omega, O2.out, B2.out, X⟩
            case measure => simp [intOf]; omega
        · clear hstop
          go_wp2_with fail
          refine (part_at (s.extract f k) cur _ CUR.out (by unfold maxLen; simp; omega)).mono ?_
          rintro e w1 ⟨rfl, k1⟩
          cases hp : Plain.partS cur with
          | none =>
            have HV := Lib.hid (NO.out hp); clear hp
            rw [Option.isSome_none]
            go_wp2
            go_ret2
            exact ⟨ret_optI (optI_none HV.out), FIN.out _ k1⟩
          | some p =>
            have X := Lib.hid (NX.out p hp); clear hp
            rw [Option.isSome_some, show Plain.intV (some p) = p from rfl]
            have hsz := k1.size
            have hsz2 := hbel.size
            have OW := Lib.hid (own_below OWN.out k1)
            have BL := Lib.hid (FIN.out _ k1)
            clear k1
            go_wp2_with (at_builtin; refine append_one rfl _ _ rfl w.heap.size _ ps rfl OW.out p _ (by simp) rfl (by omega) (by omega) ?_; intro v2 w2 o2 b2; have O2 := Lib.hid o2; have B2 := Lib.hid (BL.out.trans b2); clear o2 b2)
            go_roundw
            case rel => exact ⟨k + 1, k + 1, ps ++ [p], by omega, by go_num, by go_num, by omega, by simp; omega, O2.out, B2.out, X⟩
            case measure => simp [intOf]; omega
    · have HV := Lib.hid (HE.out.ends (by have := HL.out; omega))
      obtain ⟨A, c, hv, hi, _⟩ := own_ints OWN.out
      have HI := Lib.hid hi
      have HM := Lib.hid (show ps.length ≤ maxLen by unfold maxLen; omega)
      rw [hv]
      clear hi hv
      generalize ps.length = n at *
      go_wp2_with fail
      refine (mul_any A n c ps _ HM.out HI.out).mono ?_
      rw [(optI_mul HV.out).1, (optI_mul HV.out).2]
      rintro e w1 ⟨rfl, rfl⟩
      go_wp2
      go_ret2
      exact ⟨rfl, hbel⟩

end Go.Proofs.Ytheokjjkjigcfaa
