/- Contract of the reference Get. -/
import Derived.Test.YtheokjjkjigcfaaRows
import Derived.Test.YtheokjjkjigcfaaWalksG
import Derived.WalkKit
import Derived.WalkSpells
import Derived.WalkLawsBesides
import Derived.Lib.Hide
import Derived.Maps.AppendAt
namespace Go.Proofs.Ytheokjjkjigcfaa
open Go.RowKit
namespace Plain
theorem unit_pos {l : List UInt8} {t : Nat} (h : unitS l = some t) : 1 ≤ t := by
  unfold unitS at h
  repeat' split at h
  all_goals first | (injection h with h; omega) | (cases h)
/-- The piece from f to k, of which the bytes up to j are digits; what it is as a part. -/
theorem piece_part {l : List UInt8} {f j k : Nat} (hfj : f ≤ j) (hjk : j ≤ k) (hk : k ≤ l.length) (h : DecTo ((l.drop f).take (k - f)) (j - f)) (he : j = k ∨ ∃ c r, l.drop j = c :: r ∧ isDec c = false) :
    partS ((l.drop f).take (k - f)) = two? (readS 10 19 ((l.drop f).take (j - f))) (unitS ((l.drop j).take (k - j))) := by
  have hl : ((l.drop f).take (k - f)).length = k - f := by simp; omega
  have hd : ((l.drop f).take (k - f)).drop (j - f) = (l.drop j).take (k - j) := by
    rw [List.drop_take, List.drop_drop, show f + (j - f) = j by omega, show k - f - (j - f) = k - j by omega]
  have ht : ((l.drop f).take (k - f)).take (j - f) = (l.drop f).take (j - f) := by
    rw [List.take_take, Nat.min_eq_left (by omega)]
  by_cases hjk2 : j = k
  · obtain ⟨e1, e2⟩ := h.ends (.inl (by rw [hl, hjk2]; exact Nat.le_refl _))
    rw [partS, e1, e2, hd, ht]
  · rcases he with he | ⟨c, r, he, hc⟩
    · exact absurd he hjk2
    · obtain ⟨e1, e2⟩ := h.ends (.inr ⟨c, r.take (k - j - 1), by rw [hd, he, show k - j = (k - j - 1) + 1 by omega, List.take_succ_cons]; simp, hc⟩)
      rw [partS, e1, e2, hd, ht]
theorem piece_next {l : List UInt8} {f j k : Nat} {c : UInt8} (hfj : f ≤ j) (hjk : j < k) (h : DecTo ((l.drop f).take (k - f)) (j - f)) (hd : l.drop j = c :: l.drop (j + 1)) (hc : isDec c = true) : DecTo ((l.drop f).take (k - f)) (j + 1 - f) := by
  rw [show j + 1 - f = (j - f) + 1 by omega]
  refine h.next (c := c) ?_ hc
  rw [List.drop_take, List.drop_drop, show f + (j - f) = j by omega, show k - f - (j - f) = (k - j - 1) + 1 by omega, hd, List.take_succ_cons, List.drop_take, List.drop_drop, show f + (j - f + 1) = j + 1 by omega, show k - f - (j - f + 1) = k - j - 1 by omega]
theorem GetAt.le {l : List UInt8} {k f : Nat} {ps : List Int} (h : GetAt l k f ps) (hk : k ≤ l.length) : f ≤ k := by
  rcases h with ⟨_, h2, _⟩ | ⟨h1, _⟩
  · exact h2
  · omega
end Plain

set_option maxRecDepth 100000 in
set_option maxHeartbeats 8000000 in
theorem rget_any (s : ByteArray) (w : World) (hs : s.size ≤ 100000) : Calls Try.prog 16 #[.string s] w (GetPost s.data.toList w) := by
  have HL := Lib.hid (Plain.len_data s)
  go_enter Try.func16, Try.ntmps16
  go_wp2
  go_loopw [4, 5] (fun v fr wr => ∃ (f : Nat) (ps : List Int), f ≤ s.size + 1 ∧ fr = .int .i64 f ∧ ps.length ≤ f ∧ wr.ownsRow w.heap.size 3 1 v ps.length (Plain.intVals ps) ∧ Below w.heap.size w wr ∧ Hid (Plain.GetAt s.data.toList f f ps)) (fun _ i _ => s.size + 1 - (intOf i).toNat)
  case atStart => exact ⟨0, [], Nat.zero_le _, rfl, by simp, World.ownsRow_nil _ _ _ _, Below.refl _ _, Plain.GetAt.zero _⟩
  case round =>
    obtain ⟨f, ps, hf, rfl, hps, hown, hbel, HE⟩ := hrel
    have OWN := Lib.hid hown
    clear hown
    by_cases hlt : f ≤ s.size
    · have df : decide (f ≤ s.size) = true := by simpa using hlt
      go_wp2
      go_loop [6] (fun i => ∃ (k : Nat), f ≤ k ∧ k ≤ s.size ∧ i = .int .i64 k ∧ Hid (Plain.GetAt s.data.toList k f ps)) (fun i => s.size - (intOf i).toNat)
      case atStart => exact ⟨f, Nat.le_refl _, hlt, rfl, HE⟩
      case round =>
        obtain ⟨k, hfk, hks, rfl, HK⟩ := hrel
        by_cases hgo : k < s.size ∧ ∀ h : k < s.size, s[k].toNat ≠ 120
        · obtain ⟨hls, hne⟩ := hgo
          have hne2 := hne hls
          have X : Hid (Plain.GetAt s.data.toList (k + 1) f ps) := HK.out.skip (by have := HL.out; omega) (Plain.data_at s k hls) (fun h => hne2 (by rw [h]; rfl))
          have hz : ((s[k].toNat : Int) != 120) = true := by simp; omega
          clear hne hne2
          go_wp2
          go_round
          case rel => exact ⟨k + 1, by omega, by omega, by go_num, X⟩
          case measure => simp [intOf]; omega
        · have hend : k = s.data.toList.length ∨ s.data.toList.drop k = 120 :: s.data.toList.drop (k + 1) := by
            rw [HL.out]
            by_cases h1 : k < s.size
            · right
              rw [Plain.data_at s k h1]
              have : s[k].toNat = 120 := Classical.byContradiction fun h => hgo ⟨h1, fun _ => h⟩
              rw [show s[k] = 120 from UInt8.toNat_inj.1 this]
            · left; omega
          have hkl : k ≤ s.data.toList.length := by rw [HL.out]; omega
          have NO := Lib.hid (fun h : Plain.partS ((s.data.toList.drop f).take (k - f)) = none => HK.out.none hkl hend h)
          have NX := Lib.hid (fun p (h : Plain.partS ((s.data.toList.drop f).take (k - f)) = some p) => HK.out.next hkl hend (p := p) h)
          have hstop : ∀ h : k < s.size, s[k].toNat = 120 := fun h => Classical.byContradiction fun h2 => hgo ⟨h, fun _ => h2⟩
          clear hend hkl hgo HK HE
          have ways : (∃ h : k < s.size, ((s[k].toNat : Int) != 120) = false ∧ decide (k < s.size) = true) ∨ (¬ k < s.size ∧ decide (k < s.size) = false) := by
            by_cases h : k < s.size
            · exact .inl ⟨h, by simp [hstop h], by simpa using h⟩
            · exact .inr ⟨h, by simpa using h⟩
          clear hstop
          rcases ways with ⟨hls, hz, dk⟩ | ⟨hls, dk⟩
          all_goals
            go_wp2
            go_loop [7] (fun i => ∃ (j : Nat), f ≤ j ∧ j ≤ k ∧ i = .int .i64 j ∧ Hid (Plain.DecTo ((s.data.toList.drop f).take (k - f)) (j - f))) (fun i => k - (intOf i).toNat)
            case atStart => exact ⟨f, Nat.le_refl _, hfk, rfl, by rw [Nat.sub_self]; exact Plain.DecTo.zero _⟩
            case round =>
              obtain ⟨j, hfj, hjk, rfl, HD⟩ := hrel
              by_cases hdec : ∃ h : j < k, 48 ≤ s[j].toNat ∧ s[j].toNat ≤ 57
              · obtain ⟨hj, c1, c2⟩ := hdec
                have X : Hid (Plain.DecTo ((s.data.toList.drop f).take (k - f)) (j + 1 - f)) := Plain.piece_next hfj hj HD.out (Plain.data_at s j (by omega)) ((Plain.isDec_iff _).2 ⟨c1, c2⟩)
                have hjs : j < s.size := by omega
                go_wp2
                go_round
                case rel => exact ⟨j + 1, by omega, by omega, by go_num, X⟩
                case measure => simp [intOf]; omega
              · have hend : j = k ∨ ∃ c r, s.data.toList.drop j = c :: r ∧ Plain.isDec c = false := by
                  by_cases h : j < k
                  · exact .inr ⟨_, _, Plain.data_at s j (by omega), (Plain.isDec_not _).2 fun hc => hdec ⟨h, hc⟩⟩
                  · exact .inl (by omega)
                have hpart := Plain.piece_part hfj hjk (by rw [HL.out]; exact hks) HD.out hend
                obtain ⟨o1, ho1⟩ : ∃ o1, Plain.readS 10 19 ((s.data.toList.drop f).take (j - f)) = o1 := ⟨_, rfl⟩
                obtain ⟨o2, ho2⟩ : ∃ o2, Plain.unitS ((s.data.toList.drop j).take (k - j)) = o2 := ⟨_, rfl⟩
                rw [ho1, ho2] at hpart
                have HP := Lib.hid hpart
                have H1 := Lib.hid (show Plain.readS 10 19 (s.extract f j).data.toList = o1 by rw [Lib.extract_data]; exact ho1)
                have H2 := Lib.hid (show Plain.unitS (s.extract j k).data.toList = o2 by rw [Lib.extract_data]; exact ho2)
                have ht : ∀ t, o2 = some t → 1 ≤ t := fun t h => Plain.unit_pos (ho2.trans h)
                have HT := Lib.hid ht
                clear hpart ho1 ho2 hend ht
                have ways : k ≤ j ∨ (∃ h : j < s.size, j < k ∧ ¬ (48 : Int) ≤ (s[j].toNat : Int)) ∨ (∃ h : j < s.size, j < k ∧ (48 : Int) ≤ (s[j].toNat : Int) ∧ ¬ (s[j].toNat : Int) ≤ 57) := by
                  by_cases h : j < k
                  · right
                    have hj : j < s.size := by omega
                    by_cases h48 : 48 ≤ s[j].toNat
                    · right
                      exact ⟨hj, h, by omega, fun h57 => hdec ⟨h, h48, by omega⟩⟩
                    · left
                      exact ⟨hj, h, by omega⟩
                  · left; omega
                clear hdec HD
                have hexs : (s.extract f j).size ≤ maxLen := by unfold maxLen; simp; omega
                have HX := Lib.hid hexs; clear hexs
                rcases ways with hx | ⟨hj, hx, hy⟩ | ⟨hj, hx, hy, hy2⟩
                all_goals
                  go_wp2_with fail
                  refine (number_any (s.extract f j) 10 19 _ HX.out (by omega) (by omega) (by omega) (by decide)).mono ?_
                  rw [(read_of H1.out).1, (read_of H1.out).2]
                  rintro e w1 ⟨rfl, rfl⟩
                  go_wp2_with fail
                  refine (times_any (s.extract j k) _).mono ?_
                  rw [H2.out]
                  rintro e w1 ⟨rfl, rfl⟩
                  cases o1 with
                  | none =>
                    have HV := Lib.hid (NO.out (by rw [HP.out]; rfl))
                    rw [Option.isSome_none]
                    go_wp2
                    go_ret2
                    exact ⟨ret_optI (optI_none HV.out), hbel⟩
                  | some n =>
                    rw [Option.isSome_some]
                    cases o2 with
                    | none =>
                      have HV := Lib.hid (NO.out (by rw [HP.out]; rfl))
                      rw [show Plain.natV none = 0 from rfl]
                      go_wp2
                      go_ret2
                      exact ⟨ret_optI (optI_none HV.out), hbel⟩
                    | some t =>
                      have htz : ((t : Int) == 0) = false := by have := HT.out t rfl; simp; omega
                      have HQ := Lib.hid (show Plain.partS ((s.data.toList.drop f).take (k - f)) = Plain.mulS [(n : Int), (t : Int)] by rw [HP.out]; rfl)
                      rw [show Plain.natV (some t) = (t : Int) from rfl, show Plain.natV (some n) = (n : Int) from rfl]
                      go_wp2_with fail
                      refine (rmul_any _ _ _ [(n : Int), (t : Int)] _ (by decide) (ints_two _ _ _ _)).mono ?_
                      rintro e w1 ⟨rfl, m, rfl⟩
                      cases hp : Plain.mulS [(n : Int), (t : Int)] with
                      | none =>
                        have HV := Lib.hid (NO.out (HQ.out.trans hp))
                        rw [show Plain.mulOk [(n : Int), (t : Int)] = false by simp [Plain.mulOk, hp]]
                        clear hp
                        go_wp2
                        go_ret2
                        exact ⟨ret_optI (optI_none HV.out), below_drewN (hbel.alloc hbel.size _) m⟩
                      | some p =>
                        have X := Lib.hid (NX.out p (HQ.out.trans hp))
                        rw [show Plain.mulOk [(n : Int), (t : Int)] = true by simp [Plain.mulOk, hp], show Plain.mulV [(n : Int), (t : Int)] = p by simp [Plain.mulV, hp]]
                        clear hp
                        have hsz2 := hbel.size
                        have k1 : Below wr.heap.size wr ((wr.alloc (.cells #[.int .i64 (n : Int), .int .i64 (t : Int)] 3)).drewN m) := below_drewN ((Below.refl _ _).alloc (Nat.le_refl _) _) m
                        have OW := Lib.hid (own_below OWN.out k1)
                        have BL := Lib.hid (hbel.trans (k1.mono hbel.size))
                        have SZ : wr.heap.size ≤ ((wr.alloc (.cells #[.int .i64 (n : Int), .int .i64 (t : Int)] 3)).drewN m).heap.size := by simp
                        clear k1
                        generalize (wr.alloc (.cells #[.int .i64 (n : Int), .int .i64 (t : Int)] 3)).drewN m = w9 at *
                        go_wp2_with (at_builtin; refine append_one rfl _ _ rfl w.heap.size _ ps rfl OW.out p _ (by simp) rfl (by omega) (by omega) ?_; intro v2 w2 o2 b2; have O2 := Lib.hid o2; have B2 := Lib.hid (BL.out.trans b2); clear o2 b2)
                        go_roundw
                        case rel => exact ⟨k + 1, ps ++ [p], by omega, by go_num, by simp; omega, O2.out, B2.out, X⟩
                        case measure => simp [intOf]; omega
    · have HV := Lib.hid (HE.out.ends (by have := HL.out; omega))
      obtain ⟨A, c, hv, hi, _⟩ := own_ints OWN.out
      have HI := Lib.hid hi
      have HM := Lib.hid (show ps.length ≤ maxLen by unfold maxLen; omega)
      rw [hv]
      clear hi hv
      generalize ps.length = n at *
      go_wp2_with fail
      refine (rmul_any A n c ps _ HM.out HI.out).mono ?_
      rw [(optI_mul HV.out).1, (optI_mul HV.out).2]
      rintro e w1 ⟨rfl, m, rfl⟩
      go_wp2
      go_ret2
      exact ⟨rfl, below_drewN hbel m⟩

end Go.Proofs.Ytheokjjkjigcfaa
