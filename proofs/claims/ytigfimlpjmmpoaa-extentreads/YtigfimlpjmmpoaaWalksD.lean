/- Contracts of extent's Data and Hole, of the reference's find, At, DataContent, HoleContent. -/
import Derived.Test.YtigfimlpjmmpoaaWalksB
import Derived.Test.YtigfimlpjmmpoaaSpecB
import Derived.WalkKit
import Derived.WalkSpells
import Derived.WalkLawsBesides
import Derived.Lib.Hide
import Derived.BigQuiet
namespace Go.Proofs.Ytigfimlpjmmpoaa
open Go.RowKit

def OptPost (d : Option Int) (w : World) (e : Ending) (w' : World) : Prop := e = .returned (.tuple #[.int .i64 (d.getD 0), .bool d.isSome]) ∧ Below w.heap.size w w'

set_option maxHeartbeats 4000000 in
theorem data_any (s : Int) (A : Option Addr) (n c : Nat) (L : List Ex) (p : Int) (w : World) (h : Exts w A n c L) (hn : n ≤ 1000000) (p0 : -9223372036854775808 ≤ p) (p1 : p ≤ 9223372036854775807) (d : Option Int) (hd : dat s L p = d) :
    Calls Try.prog 13 #[ct s A n c, .int .i64 p] w (OptPost d w) := by
  have HD := Lib.hid hd
  have K0 := Lib.hid (show Below w.heap.size w (w.alloc (.cells #[.int .i64 s, .slice A n c] 24)) from (Below.refl _ _).alloc (Nat.le_refl _) _)
  have B0 := Lib.hid (box_new w s A n c)
  have H := Lib.hid h
  have hm := h.max
  clear h hd
  show Calls Try.prog 13 #[.agg #[.int .i64 s, .slice A n c], .int .i64 p] w _
  go_enter Try.func13, Try.ntmps13
  go_wp2_with fail
  obtain ⟨z, hz⟩ : ∃ z, may s L = z := ⟨_, rfl⟩
  have HM := Lib.hid hz
  clear hz
  refine (may_any s A n c L _ (H.out.on K0.out) z HM.out).mono ?_
  rintro e w1 ⟨rfl, k1⟩
  have K1 := Lib.hid (K0.out.trans (k1.mono K0.out.size)); have B1 := Lib.hid (B0.out.on k1)
  clear k1 K0 B0
  cases z with
  | false =>
    have HF := Lib.hid (show dat s L p = none by rw [dat, if_neg (by rw [HM.out]; simp)])
    go_wp2
    go_ret2
    exact ⟨by rw [← HD.out, HF.out]; rfl, K1.out⟩
  | true =>
    have HG := Lib.hid ((may_iff s L).1 HM.out)
    by_cases q0 : 0 ≤ p
    · have c0 := B1.out.c0; have c1 := B1.out.c1
      go_wp2_with fail
      obtain ⟨i, hi⟩ : ∃ i, idx L (p / 8) = i := ⟨_, rfl⟩
      obtain ⟨y, hy⟩ : ∃ y, (look L (p / 8)).isSome = y := ⟨_, rfl⟩
      have HI := Lib.hid hi; have HY := Lib.hid hy
      clear hi hy
      refine (find_any A n c L (p / 8) _ (H.out.on K1.out) HG.out.up hn i y HI.out HY.out).mono ?_
      rintro e w2 ⟨rfl, k2⟩
      have K2 := Lib.hid (K1.out.trans (k2.mono K1.out.size)); have B2 := Lib.hid (B1.out.on k2)
      clear k2 c0 c1 K1 B1
      have c0 := B2.out.c0; have c1 := B2.out.c1
      have hin : i ≤ n := by rw [← HI.out, ← H.out.len]; exact idx_le _ _
      by_cases hlt : i < n
      · have HR := Lib.hid (HG.out.rng (L.getD i default) (by rw [List.getD_eq_getElem?_getD, List.getElem?_eq_getElem (by rw [H.out.len]; exact hlt)]; exact List.getElem_mem _))
        obtain ⟨b, o, rfl, hb, _⟩ := H.out.cells (by omega)
        have cn := (H.out.on K2.out).no i hlt
        have hne : ¬ (i : Int) = (n : Int) := by omega
        have hil : (i : Int) < (n : Int) := by omega
        have HV := Lib.hid (show dat s L p = if max p ((L.getD i default).no * 8) < s then some (max p ((L.getD i default).no * 8)) else none by
          rw [dat, HI.out]
          by_cases hx : max p ((L.getD i default).no * 8) < s
          · rw [if_pos ⟨HM.out, q0, by rw [H.out.len]; exact hlt, hx⟩, if_pos hx]
          · rw [if_neg (fun h => hx h.2.2.2), if_neg hx])
        generalize (L.getD i default).no = no at *
        obtain ⟨r0, r1⟩ := HR.out
        by_cases g1 : p < no * 8
        · have hmx : max p (no * 8) = no * 8 := by omega
          have g2 : p ≤ no * 8 := by omega
          rw [hmx] at HV
          by_cases g3 : no * 8 < s
          · rw [if_pos g3] at HV
            go_wp2
            go_ret2
            exact ⟨by rw [← HD.out, HV.out]; rfl, K2.out⟩
          · rw [if_neg g3] at HV
            go_wp2
            go_ret2
            exact ⟨by rw [← HD.out, HV.out]; rfl, K2.out⟩
        · have hmx : max p (no * 8) = p := by omega
          rw [hmx] at HV
          by_cases g3 : p < s
          · rw [if_pos g3] at HV
            go_wp2
            all_goals
              go_ret2
              exact ⟨by rw [← HD.out, HV.out]; first | rfl | (simp; omega), K2.out⟩
          · rw [if_neg g3] at HV
            go_wp2
            all_goals
              go_ret2
              exact ⟨by rw [← HD.out, HV.out]; rfl, K2.out⟩
      · obtain rfl : i = n := by omega
        have HF := Lib.hid (show dat s L p = none by rw [dat, if_neg (fun h => by have := h.2.2.1; rw [HI.out, H.out.len] at this; omega)])
        go_wp2
        go_ret2
        exact ⟨by rw [← HD.out, HF.out]; rfl, K2.out⟩
    · have HF := Lib.hid (show dat s L p = none by rw [dat, if_neg (fun h => q0 h.2.1)])
      go_wp2
      go_ret2
      exact ⟨by rw [← HD.out, HF.out]; rfl, K1.out⟩
end Go.Proofs.Ytigfimlpjmmpoaa
