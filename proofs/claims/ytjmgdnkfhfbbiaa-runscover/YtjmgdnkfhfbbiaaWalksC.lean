/- Contract of runs.Runs. -/
import Derived.Test.YtjmgdnkfhfbbiaaRows
import Derived.Test.YtjmgdnkfhfbbiaaWalksB
import Derived.WalkKit
import Derived.WalkSpells
import Derived.WalkLawsBesides
import Derived.Lib.Hide
namespace Go.Proofs.Ytjmgdnkfhfbbiaa
open Go.RowKit

namespace Plain
theorem runsGo_step (U f k m : Nat) (zs : List Int) (acc : List Run) (hk : k < zs.length) (hf : zs.length - k ≤ f) (hm : m = min U (zs.length - k)) :
    runsGo U f k (zs.drop k) acc = runsGo U (f - 1) (k + m) (zs.drop (k + m)) (joinS acc ⟨(k : Int), (m : Int), zeros ((zs.drop k).take m)⟩) := by
  obtain ⟨f, rfl⟩ : ∃ g, f = g + 1 := ⟨f - 1, by omega⟩
  rw [runsGo, if_neg (by simp; omega)]
  have e1 : min U (zs.drop k).length = m := by simp [hm]
  rw [e1, Nat.add_sub_cancel]
  by_cases h : U ≤ zs.length - k
  · have : m = U := by omega
    subst this
    rw [List.drop_drop]
  · have h2 : m = zs.length - k := by omega
    rw [List.take_of_length_le (l := zs.drop k) (i := U) (by simp; omega), List.take_of_length_le (l := zs.drop k) (i := m) (by simp; omega), List.drop_of_length_le (l := zs.drop k) (i := U) (by simp; omega), List.drop_of_length_le (l := zs) (i := k + m) (by omega)]
theorem runsGo_end (U f k : Nat) (zs : List Int) (acc : List Run) (hk : zs.length ≤ k) : runsGo U f k (zs.drop k) acc = acc := by
  rw [List.drop_of_length_le hk]
  cases f with
  | zero => rfl
  | succ f => rw [runsGo, if_pos (by simp)]
theorem joinS_len (acc : List Run) (r : Run) : (joinS acc r).length ≤ acc.length + 1 := by
  by_cases hn : acc = []
  · subst hn; simp [joinS]
  · obtain ⟨i, q, rfl⟩ := last_run acc hn
    by_cases hz : q.z = r.z
    · rw [joinS_same _ _ _ hz]; simp
    · rw [joinS_other _ _ _ hz]; simp
theorem joinS_lens (acc : List Run) (r : Run) (k : Int) (h : ∀ q ∈ acc, 0 ≤ q.l ∧ q.l ≤ k) (h0 : 0 ≤ r.l) (hk : 0 ≤ k) : ∀ q ∈ joinS acc r, 0 ≤ q.l ∧ q.l ≤ k + r.l := by
  by_cases hn : acc = []
  · subst hn
    intro q hq
    rw [joinS_nil] at hq
    simp at hq
    subst hq
    omega
  · obtain ⟨i, q, rfl⟩ := last_run acc hn
    by_cases hz : q.z = r.z
    · rw [joinS_same _ _ _ hz]
      intro x hx
      simp at hx
      rcases hx with hx | rfl
      · have := h x (by simp [hx]); omega
      · have := h q (by simp)
        show 0 ≤ q.l + r.l ∧ q.l + r.l ≤ k + r.l
        omega
    · rw [joinS_other _ _ _ hz]
      intro x hx
      simp at hx
      rcases hx with hx | rfl | rfl
      · have := h x (by simp [hx]); omega
      · have := h x (by simp); omega
      · omega
end Plain

/-- What Runs leaves: a row of its own, with the runs; nothing else has turned. -/
def RunsPost (u : Int) (zs : List Int) (w : World) (e : Ending) (w' : World) : Prop :=
  ∃ v, e = .returned v ∧ w'.ownsRow w.heap.size 26 3 v (Plain.runsOf u zs).length (Plain.runCells (Plain.runsOf u zs)) ∧ Below w.heap.size w w'

set_option maxHeartbeats 400000 in
theorem runs_no (A : Option Addr) (n c : Nat) (zs : List Int) (u : Int) (w : World) (hu : u < 1) :
    Calls Try.prog 8 #[.slice A n c, .int .i64 u] w (RunsPost u zs w) := by
  have hv : Plain.runsOf u zs = [] := by rw [Plain.runsOf, if_pos hu]
  have HV := Lib.hid hv; clear hv
  go_enter Try.func8, Try.ntmps8
  go_wp2
  go_ret
  exact ⟨_, rfl, by rw [HV.out]; exact World.ownsRow_nil _ _ _ _, Below.refl _ _⟩

set_option maxHeartbeats 1000000 in
theorem runs_yes (A : Option Addr) (n c : Nat) (zs : List Int) (U : Nat) (w : World) (h : Bytes w A n c zs) (hn : n ≤ 2000) (hu : 1 ≤ U) (hu2 : U ≤ 9223372036854775807) :
    Calls Try.prog 8 #[.slice A n c, .int .i64 (U : Int)] w (RunsPost U zs w) := by
  have hv : Plain.runsOf U zs = Plain.runsGo U n 0 zs [] := by rw [Plain.runsOf, if_neg (by omega), Int.toNat_natCast, h.1]
  have HV := Lib.hid hv; clear hv
  have HZ := Lib.hid h.1
  have hnc := h.2.1
  have hcm : c ≤ 9223372036854775807 := by have := h.2.2.1; unfold maxLen at this; omega
  have HX := Lib.hid h.2.2.2
  have HB := Lib.hid h
  clear h
  go_enter Try.func8, Try.ntmps8
  go_wp2
  go_loopw [5, 6] (fun v i wr => ∃ (f k : Nat) (acc : List Plain.Run), k ≤ n ∧ i = .int .i64 k ∧ wr.ownsRow w.heap.size 26 3 v acc.length (Plain.runCells acc) ∧ Below w.heap.size w wr ∧ acc.length ≤ k ∧ Hid (∀ q ∈ acc, 0 ≤ q.l ∧ q.l ≤ (k : Int)) ∧ n - k ≤ f ∧ Hid (Plain.runsOf U zs = Plain.runsGo U f k (zs.drop k) acc)) (fun _ i _ => n - (intOf i).toNat)
  case atStart => exact ⟨n, 0, [], Nat.zero_le _, rfl, World.ownsRow_nil _ _ _ _, Below.refl _ _, by simp, by intro q hq; simp at hq, by omega, by unfold Hid; rw [HV.out]; rfl⟩
  case round =>
    clear HV
    obtain ⟨f, k, acc, hk, rfl, hown, hbel, hacc, HQ, hf, HE⟩ := hrel
    have OWN := Lib.hid hown; have BEL := Lib.hid hbel
    have hsz := hbel.size
    clear hown hbel
    by_cases hlt : k < n
    · obtain ⟨b, o, rfl, hb, hc⟩ := HX.out (by omega)
      clear hc HX
      rcases Nat.lt_or_ge (n - k) U with hmin | hmin
      · have hst := Plain.runsGo_step U f k (n - k) zs acc (by have := HZ.out; omega) (by have := HZ.out; omega) (by have := HZ.out; omega)
        obtain ⟨r, hr⟩ : ∃ r : Plain.Run, r = ⟨(k : Int), ((n : Int) - k), Plain.zeros ((zs.drop k).take (n - k))⟩ := ⟨_, rfl⟩
        have X : Hid (Plain.runsOf U zs = Plain.runsGo U (f - 1) (k + (n - k)) (zs.drop (k + (n - k))) (Plain.joinS acc r)) := by
          unfold Hid; rw [hr, HE.out, hst, show ((n - k : Nat) : Int) = (n : Int) - k by omega]
        clear hst HE
        have hrl : r.l = ((n : Int) - k) := by rw [hr]
        have HJ := Lib.hid (Plain.joinS_lens acc r k HQ.out (by rw [hrl]; omega) (by omega))
        have HJ2 := Plain.joinS_len acc r
        have P := Lib.hid ((HB.out.on (BEL.out.mono (Nat.le_refl _))).piece k (n - k) (by omega))
        go_wp2_with fail
        refine (zero_one _ _ _ _ _ _ (by simp) P.out).mono ?_
        rintro e w1 ⟨rfl, rfl⟩
        go_wp2_with fail
        have hag : Value.agg #[.int .i64 (k : Int), .int .i64 ((n : Int) - k), .bool (Plain.zeros ((zs.drop k).take (n - k)))] = Value.agg #[.int .i64 r.p, .int .i64 r.l, .bool r.z] := by rw [hr]
        rw [hag]
        refine (join_any _ acc r _ w.heap.size (OWN.out.alloc _) (by simp; omega) (by omega) (fun q hq => by have := HQ.out q hq; omega) (by rw [hrl]; omega) (by rw [hrl]; omega)).mono ?_
        rintro e w2 ⟨v2, rfl, o2, b2⟩
        have O2 := Lib.hid o2; have B2 := Lib.hid ((BEL.out.alloc hsz _).trans b2)
        clear o2 b2 hag
        go_wp2
        go_roundw
        case rel => exact ⟨f - 1, k + (n - k), Plain.joinS acc r, by omega, by go_num, O2.out, B2.out, by omega, by intro q hq; have := HJ.out q hq; omega, by omega, X⟩
        case measure => simp [intOf]; omega
      · have hst := Plain.runsGo_step U f k U zs acc (by have := HZ.out; omega) (by have := HZ.out; omega) (by have := HZ.out; omega)
        obtain ⟨r, hr⟩ : ∃ r : Plain.Run, r = ⟨(k : Int), (U : Int), Plain.zeros ((zs.drop k).take U)⟩ := ⟨_, rfl⟩
        have X : Hid (Plain.runsOf U zs = Plain.runsGo U (f - 1) (k + U) (zs.drop (k + U)) (Plain.joinS acc r)) := by
          unfold Hid; rw [hr, HE.out, hst]
        clear hst HE
        have hrl : r.l = (U : Int) := by rw [hr]
        have HJ := Lib.hid (Plain.joinS_lens acc r k HQ.out (by rw [hrl]; omega) (by omega))
        have HJ2 := Plain.joinS_len acc r
        have P := Lib.hid ((HB.out.on (BEL.out.mono (Nat.le_refl _))).piece k U (by omega))
        go_wp2_with fail
        refine (zero_one _ _ _ _ _ _ (by simp) P.out).mono ?_
        rintro e w1 ⟨rfl, rfl⟩
        go_wp2_with fail
        have hag : Value.agg #[.int .i64 (k : Int), .int .i64 (U : Int), .bool (Plain.zeros ((zs.drop k).take U))] = Value.agg #[.int .i64 r.p, .int .i64 r.l, .bool r.z] := by rw [hr]
        rw [hag]
        refine (join_any _ acc r _ w.heap.size (OWN.out.alloc _) (by simp; omega) (by omega) (fun q hq => by have := HQ.out q hq; omega) (by rw [hrl]; omega) (by rw [hrl]; omega)).mono ?_
        rintro e w2 ⟨v2, rfl, o2, b2⟩
        have O2 := Lib.hid o2; have B2 := Lib.hid ((BEL.out.alloc hsz _).trans b2)
        clear o2 b2 hag
        go_wp2
        go_roundw
        case rel => exact ⟨f - 1, k + U, Plain.joinS acc r, by omega, by go_num, O2.out, B2.out, by omega, by intro q hq; have := HJ.out q hq; omega, by omega, X⟩
        case measure => simp [intOf]; omega
    · have HR : Hid (Plain.runsOf U zs = acc) := by
        unfold Hid; rw [HE.out, Plain.runsGo_end _ _ _ _ _ (by have := HZ.out; omega)]
      go_wp2
      go_ret
      exact ⟨_, rfl, by rw [HR.out]; exact OWN.out, BEL.out⟩

end Go.Proofs.Ytjmgdnkfhfbbiaa
