/- Contract of the reference Runs. -/
import Derived.Test.YtjmgdnkfhfbbiaaRows
import Derived.Test.YtjmgdnkfhfbbiaaWalksD
import Derived.WalkKit
import Derived.WalkSpells
import Derived.WalkLawsBesides
import Derived.Lib.Hide
namespace Go.Proofs.Ytjmgdnkfhfbbiaa
open Go.RowKit

set_option maxHeartbeats 400000 in
theorem rruns_no (A : Option Addr) (n c : Nat) (zs : List Int) (u : Int) (w : World) (hu : u < 1) :
    Calls Try.prog 13 #[.slice A n c, .int .i64 u] w (RunsPost u zs w) := by
  have hv : Plain.runsOf u zs = [] := by rw [Plain.runsOf, if_pos hu]
  have HV := Lib.hid hv; clear hv
  go_enter Try.func13, Try.ntmps13
  go_wp2
  go_ret
  exact ⟨_, rfl, by rw [HV.out]; exact World.ownsRow_nil _ _ _ _, Below.refl _ _⟩

theorem rzero_at (A : Option Addr) (n c : Nat) (zs : List Int) (z : Bool) (w : World) (h : Bytes w A n c zs) (hz : Plain.zeros zs = z) :
    Calls Try.prog 16 #[.slice A n c] w fun e w' => e = .returned (.bool z) ∧ w = w' := by
  subst hz
  exact rzero_any A n c zs w h

/-- The last run's length, turned in place. -/
theorem own_turn {w : World} {base g c m : Nat} {i : List Plain.Run} {q : Plain.Run} (hm : i.length = m) (h : w.ownsRow base 26 3 (.slice (some ⟨g, 0, none⟩) (m + 1) c) (i ++ [q]).length (Plain.runCells (i ++ [q]))) (x : Int) (hb : base ≤ g) :
    (w.setCell ⟨g, m * 3 + 1, none⟩ (.int .i64 x)).ownsRow base 26 3 (.slice (some ⟨g, 0, none⟩) (m + 1) c) (i ++ [(⟨q.p, x, q.z⟩ : Plain.Run)]).length (Plain.runCells (i ++ [(⟨q.p, x, q.z⟩ : Plain.Run)])) ∧
      ∀ w0 : World, base = w0.heap.size → Below w0.heap.size w0 w → Below w0.heap.size w0 (w.setCell ⟨g, m * 3 + 1, none⟩ (.int .i64 x)) := by
  have hlen : (i ++ [q]).length = m + 1 := by simp [hm]
  rw [hlen] at h
  have Y := h.stored (m * 3 + 1) (.int .i64 x)
  have e := Plain.runCells_set i q x
  rw [hm] at e
  rw [e] at Y
  refine ⟨?_, fun w0 hw0 hbel => Below.grown hbel Y.2 hbel.size (fun k hk => by injection hk with hk; omega)⟩
  rw [show (i ++ [(⟨q.p, x, q.z⟩ : Plain.Run)]).length = m + 1 by simp [hm]]
  exact Y.1

set_option maxHeartbeats 2000000 in
theorem rruns_yes (A : Option Addr) (n c : Nat) (zs : List Int) (U : Nat) (w : World) (h : Bytes w A n c zs) (hn : n ≤ 2000) (hu : 1 ≤ U) (hu2 : U ≤ 9223372036854775807) :
    Calls Try.prog 13 #[.slice A n c, .int .i64 (U : Int)] w (RunsPost U zs w) := by
  have hv : Plain.runsOf U zs = Plain.runsGo U n 0 zs [] := by rw [Plain.runsOf, if_neg (by omega), Int.toNat_natCast, h.1]
  have HV := Lib.hid hv; clear hv
  have HZ := Lib.hid h.1
  have hnc := h.2.1
  have hcm : c ≤ 9223372036854775807 := by have := h.2.2.1; unfold maxLen at this; omega
  have HX := Lib.hid h.2.2.2
  have HB := Lib.hid h
  clear h
  go_enter Try.func13, Try.ntmps13
  go_wp2
  go_loopw [5, 6] (fun v i wr => ∃ (f k : Nat) (acc : List Plain.Run), k ≤ n ∧ i = .int .i64 k ∧ wr.ownsRow w.heap.size 26 3 v acc.length (Plain.runCells acc) ∧ Below w.heap.size w wr ∧ acc.length ≤ k ∧ Hid (∀ q ∈ acc, 0 ≤ q.l ∧ q.l ≤ (k : Int)) ∧ n - k ≤ f ∧ Hid (Plain.runsOf U zs = Plain.runsGo U f k (zs.drop k) acc)) (fun _ i _ => n - (intOf i).toNat)
  case atStart => exact ⟨n, 0, [], Nat.zero_le _, rfl, World.ownsRow_nil _ _ _ _, Below.refl _ _, by simp, by intro q hq; simp at hq, by omega, by unfold Hid; rw [HV.out]; rfl⟩
  case round =>
    clear HV
    obtain ⟨f, k, acc, hk, rfl, hown, hbel, hacc, HQ, hf, HE⟩ := hrel
    have OWN := Lib.hid hown; have BEL := Lib.hid hbel
    have hsz := hbel.size
    clear hown hbel
    by_cases hlt : k < n
    · obtain ⟨b, o, rfl, hb, hc⟩ := HX.out (by omega)
      clear hc HX
      rcases Nat.lt_or_ge (n - k) U with hmin | hmin
      · have hst := Plain.runsGo_step U f k (n - k) zs acc (by have := HZ.out; omega) (by have := HZ.out; omega) (by have := HZ.out; omega)
        have X : Hid (Plain.runsOf U zs = Plain.runsGo U (f - 1) (k + (n - k)) (zs.drop (k + (n - k))) (Plain.joinS acc ⟨(k : Int), ((n : Int) - k), Plain.zeros ((zs.drop k).take (n - k))⟩)) := by
          unfold Hid; rw [HE.out, hst, show ((n - k : Nat) : Int) = (n : Int) - k by omega]
        clear hst HE
        have P := Lib.hid ((HB.out.on (BEL.out.mono (Nat.le_refl _))).piece k (n - k) (by omega))
        obtain ⟨z, hzz⟩ : ∃ z, Plain.zeros ((zs.drop k).take (n - k)) = z := ⟨_, rfl⟩
        have ZZ := Lib.hid hzz
        rw [hzz] at X
        clear hzz
        have HJ := Lib.hid (Plain.joinS_lens acc ⟨(k : Int), ((n : Int) - k), z⟩ k HQ.out (show 0 ≤ ((n : Int) - k) by omega) (by omega))
        have HJ2 := Plain.joinS_len acc ⟨(k : Int), ((n : Int) - k), z⟩
        go_wp2_with fail
        refine (rzero_at _ _ _ _ z _ P.out ZZ.out).mono ?_
        rintro e w1 ⟨rfl, rfl⟩
        by_cases hnil : acc = []
        · subst hnil
          have HN := Lib.hid (Plain.joinS_nil ⟨(k : Int), ((n : Int) - k), z⟩)
          have hform : ∃ A' c', u5 = .slice A' 0 c' := by
            rcases OWN.out.2 with ⟨h5, _⟩ | ⟨g, cap, cur, h5, _⟩
            · exact ⟨_, _, h5⟩
            · exact ⟨_, _, h5⟩
          obtain ⟨A', c', rfl⟩ := hform
          go_wp2_with (at_builtin; refine append_run rfl _ _ rfl w.heap.size _ [] rfl OWN.out k ((n : Int) - k) z _ (by simp) rfl (by simp) hsz ?_; intro v2 w2 o2 b2; have O2 := Lib.hid o2; have B2 := Lib.hid (BEL.out.trans b2); clear o2 b2)
          go_roundw
          case rel => exact ⟨f - 1, k + (n - k), _, by omega, by go_num, by rw [HN.out]; exact O2.out, B2.out, by omega, by intro q hq; have := HJ.out q hq; omega, by omega, X⟩
          case measure => simp [intOf]; omega
        · obtain ⟨i, q, rfl⟩ := Plain.last_run acc hnil
          clear hnil
          obtain ⟨g, c', rfl, hg0, hg, e1, e2, e3⟩ := own_last OWN.out
          have hq := HQ.out q (by simp)
          obtain ⟨hq0, hq1⟩ := hq
          have HB1 := Lib.hid HB.out
          cases hz : (q.z == z) with
          | true =>
            have HN := Lib.hid (Plain.joinS_same i q ⟨(k : Int), ((n : Int) - k), z⟩ (by simpa using hz))
            obtain ⟨m, hm⟩ : ∃ m, i.length = m := ⟨_, rfl⟩
            rw [hm] at e1 e2 e3 OWN
            have T := Lib.hid (own_turn hm OWN.out (q.l + ((n : Int) - k)) hg0)
            have hml : m ≤ 2000 := by simp at hacc; omega
            have HM := Lib.hid hm
            rw [hm]
            have HACC := Lib.hid hacc
            clear hm hacc
            go_wp2
            go_roundw
            case rel => exact ⟨f - 1, k + (n - k), _, by omega, by go_num, by rw [HN.out]; exact T.out.1, T.out.2 w rfl BEL.out, by have := HACC.out; omega, by intro q hq; have := HJ.out q hq; omega, by omega, X⟩
            case measure => simp [intOf]; omega
          | false =>
            have HN := Lib.hid (Plain.joinS_other i q ⟨(k : Int), ((n : Int) - k), z⟩ (by simpa using hz))
            obtain ⟨m, hm⟩ : ∃ m, i.length = m := ⟨_, rfl⟩
            rw [hm] at e1 e2 e3 OWN
            have hml : m ≤ 2000 := by simp at hacc; omega
            have HM := Lib.hid hm
            rw [hm]
            have HACC := Lib.hid hacc
            clear hm hacc
            go_wp2_with (at_builtin; refine append_run rfl _ _ rfl w.heap.size _ (i ++ [q]) rfl OWN.out k ((n : Int) - k) z _ (by simp) rfl (by have := HACC.out; omega) hsz ?_; intro v2 w2 o2 b2; have O2 := Lib.hid o2; have B2 := Lib.hid (BEL.out.trans b2); clear o2 b2)
            go_roundw
            case rel => exact ⟨f - 1, k + (n - k), _, by omega, by go_num, by rw [HN.out]; exact O2.out, B2.out, by have := HACC.out; omega, by intro q hq; have := HJ.out q hq; omega, by omega, X⟩
            case measure => simp [intOf]; omega
      · have hst := Plain.runsGo_step U f k U zs acc (by have := HZ.out; omega) (by have := HZ.out; omega) (by have := HZ.out; omega)
        have X : Hid (Plain.runsOf U zs = Plain.runsGo U (f - 1) (k + U) (zs.drop (k + U)) (Plain.joinS acc ⟨(k : Int), (U : Int), Plain.zeros ((zs.drop k).take U)⟩)) := by
          unfold Hid; rw [HE.out, hst]
        clear hst HE
        have P := Lib.hid ((HB.out.on (BEL.out.mono (Nat.le_refl _))).piece k U (by omega))
        obtain ⟨z, hzz⟩ : ∃ z, Plain.zeros ((zs.drop k).take U) = z := ⟨_, rfl⟩
        have ZZ := Lib.hid hzz
        rw [hzz] at X
        clear hzz
        have HJ := Lib.hid (Plain.joinS_lens acc ⟨(k : Int), (U : Int), z⟩ k HQ.out (show 0 ≤ (U : Int) by omega) (by omega))
        have HJ2 := Plain.joinS_len acc ⟨(k : Int), (U : Int), z⟩
        go_wp2_with fail
        refine (rzero_at _ _ _ _ z _ P.out ZZ.out).mono ?_
        rintro e w1 ⟨rfl, rfl⟩
        by_cases hnil : acc = []
        · subst hnil
          have HN := Lib.hid (Plain.joinS_nil ⟨(k : Int), (U : Int), z⟩)
          have hform : ∃ A' c', u5 = .slice A' 0 c' := by
            rcases OWN.out.2 with ⟨h5, _⟩ | ⟨g, cap, cur, h5, _⟩
            · exact ⟨_, _, h5⟩
            · exact ⟨_, _, h5⟩
          obtain ⟨A', c', rfl⟩ := hform
          go_wp2_with (at_builtin; refine append_run rfl _ _ rfl w.heap.size _ [] rfl OWN.out k (U : Int) z _ (by simp) rfl (by simp) hsz ?_; intro v2 w2 o2 b2; have O2 := Lib.hid o2; have B2 := Lib.hid (BEL.out.trans b2); clear o2 b2)
          go_roundw
          case rel => exact ⟨f - 1, k + U, _, by omega, by go_num, by rw [HN.out]; exact O2.out, B2.out, by omega, by intro q hq; have := HJ.out q hq; omega, by omega, X⟩
          case measure => simp [intOf]; omega
        · obtain ⟨i, q, rfl⟩ := Plain.last_run acc hnil
          clear hnil
          obtain ⟨g, c', rfl, hg0, hg, e1, e2, e3⟩ := own_last OWN.out
          have hq := HQ.out q (by simp)
          obtain ⟨hq0, hq1⟩ := hq
          have HB1 := Lib.hid HB.out
          cases hz : (q.z == z) with
          | true =>
            have HN := Lib.hid (Plain.joinS_same i q ⟨(k : Int), (U : Int), z⟩ (by simpa using hz))
            obtain ⟨m, hm⟩ : ∃ m, i.length = m := ⟨_, rfl⟩
            rw [hm] at e1 e2 e3 OWN
            have T := Lib.hid (own_turn hm OWN.out (q.l + (U : Int)) hg0)
            have hml : m ≤ 2000 := by simp at hacc; omega
            have HM := Lib.hid hm
            rw [hm]
            have HACC := Lib.hid hacc
            clear hm hacc
            go_wp2
            go_roundw
            case rel => exact ⟨f - 1, k + U, _, by omega, by go_num, by rw [HN.out]; exact T.out.1, T.out.2 w rfl BEL.out, by have := HACC.out; omega, by intro q hq; have := HJ.out q hq; omega, by omega, X⟩
            case measure => simp [intOf]; omega
          | false =>
            have HN := Lib.hid (Plain.joinS_other i q ⟨(k : Int), (U : Int), z⟩ (by simpa using hz))
            obtain ⟨m, hm⟩ : ∃ m, i.length = m := ⟨_, rfl⟩
            rw [hm] at e1 e2 e3 OWN
            have hml : m ≤ 2000 := by simp at hacc; omega
            have HM := Lib.hid hm
            rw [hm]
            have HACC := Lib.hid hacc
            clear hm hacc
            go_wp2_with (at_builtin; refine append_run rfl _ _ rfl w.heap.size _ (i ++ [q]) rfl OWN.out k (U : Int) z _ (by simp) rfl (by have := HACC.out; omega) hsz ?_; intro v2 w2 o2 b2; have O2 := Lib.hid o2; have B2 := Lib.hid (BEL.out.trans b2); clear o2 b2)
            go_roundw
            case rel => exact ⟨f - 1, k + U, _, by omega, by go_num, by rw [HN.out]; exact O2.out, B2.out, by have := HACC.out; omega, by intro q hq; have := HJ.out q hq; omega, by omega, X⟩
            case measure => simp [intOf]; omega
    · have HR : Hid (Plain.runsOf U zs = acc) := by
        unfold Hid; rw [HE.out, Plain.runsGo_end _ _ _ _ _ (by have := HZ.out; omega)]
      go_wp2
      go_ret
      exact ⟨_, rfl, by rw [HR.out]; exact OWN.out, BEL.out⟩

theorem rruns_any (A : Option Addr) (n c : Nat) (zs : List Int) (u : Int) (w : World) (h : Bytes w A n c zs) (hn : n ≤ 2000) (hu2 : u ≤ 9223372036854775807) :
    Calls Try.prog 13 #[.slice A n c, .int .i64 u] w (RunsPost u zs w) := by
  by_cases hu : u < 1
  · exact rruns_no A n c zs u w hu
  · obtain ⟨U, rfl⟩ := Int.eq_ofNat_of_zero_le (show 0 ≤ u by omega)
    exact rruns_yes A n c zs U w h hn (by omega) (by omega)

end Go.Proofs.Ytjmgdnkfhfbbiaa
