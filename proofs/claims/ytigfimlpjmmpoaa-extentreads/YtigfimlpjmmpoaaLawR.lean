/- Contract of the law ExtentRuns itself, which the other laws call. -/
import Derived.Test.YtigfimlpjmmpoaaWalksN
import Derived.Test.YtigfimlpjmmpoaaWalksE
import Derived.WalkKit
import Derived.WalkSpells
import Derived.WalkLawsBesides
import Derived.Lib.Hide
import Derived.BigQuiet
namespace Go.Proofs.Ytigfimlpjmmpoaa
open Go.RowKit

/-- Bytes as text. -/
theorem text_of {w : World} {A : Option Addr} {n c : Nat} {zs : List Int} (h : Nums .u8 w A n c zs) : (convert 27 9 (.slice A n c)).run Try.prog w = .ok (.string (strOfNums zs)) w := by
  rcases Nat.eq_zero_or_pos n with h0 | h0
  · subst h0
    have hz : zs = [] := List.eq_nil_of_length_eq_zero h.len
    subst hz
    rw [run_convert_bytes_string w 27 9 5 A 0 c Try.underlying27 Try.underlying5 Try.underlying9]
    cases A with
    | none => rfl
    | some ad => rfl
  · obtain ⟨b, o, rfl, _, hc⟩ := h.cells h0
    exact run_convert_bytes_arg (P := Try.prog) w 27 5 Try.underlying27 Try.underlying5 b o n c zs h.len hc 9 Try.underlying9
def LR : List Ex := [⟨2, [0, 0, 0, 0, 1, 0, 0, 0]⟩]
theorem wr_runs {M : List Ex} (h : WR [] 20 [1] M) : M = LR := by
  refine look_ext h.1 (by simp [Up, LR]) (fun k => ?_)
  rw [h.2 k, if_neg (by simp)]
  unfold wlook LR
  simp only [look]
  by_cases hk : (2 : Int) = k
  · subst hk
    rfl
  · rw [if_neg (by simp; omega), if_neg hk]

set_option maxRecDepth 100000 in
set_option maxHeartbeats 4000000 in
theorem law_runs (w : World) : Calls Try.prog 3 #[] w (TruthPost true w) := by
  have KA := Lib.hid (show Below w.heap.size w (w.alloc (.cells #[.int .u8 1] 5)) from (Below.refl _ _).alloc (Nat.le_refl _) _)
  have NA := Lib.hid (show Nums .u8 (w.alloc (.cells #[.int .u8 1] 5)) (some ⟨w.heap.size, 0, none⟩) 1 1 [1] from by
    have := nums_new .u8 5 w [1] #[] 1 1 rfl (Nat.le_refl _) (by unfold maxLen; omega)
    simpa using this)
  go_enter Try.func3, Try.ntmps3
  go_wp2_with fail
  refine (write_any 0 none 0 0 [] 20 _ 1 1 [1] _ (exts_nil _) (by decide) NA.out (by simp) true (by decide)).mono ?_
  rintro e w1 ⟨A, n, c, M, rfl, hM, hx, k1⟩
  have hMM : M = LR := wr_runs hM
  subst hMM
  obtain rfl : n = 1 := hx.len.symm
  have K1 := Lib.hid (KA.out.trans (k1.mono KA.out.size))
  obtain ⟨W, hW⟩ : ∃ W, w1.alloc (.cells #[.int .i64 21, .slice A 1 c] 24) = W := ⟨_, rfl⟩
  have KW := Lib.hid (show Below w1.heap.size w1 W by rw [← hW]; exact (Below.refl _ _).alloc (Nat.le_refl _) _)
  have BW := Lib.hid (show Box W w1.heap.size 21 A 1 c by rw [← hW]; exact box_new w1 21 A 1 c)
  have XW := Lib.hid (hx.on KW.out)
  have K2 := Lib.hid (K1.out.trans (KW.out.mono K1.out.size))
  have HW := Lib.hid hW
  have hv : (if true = true then wsz 0 20 1 else 0) = 21 := by decide
  rw [hv]
  unfold ct
  clear hM hx k1 hW hv
  have HD := Lib.hid (show dat 21 LR 0 = some 16 by decide +kernel)
  have HH := Lib.hid (show hol 21 LR 20 = some 21 by decide +kernel)
  have HRd := Lib.hid (show rd 21 LR 19 9 = [0, 1] by decide +kernel)
  have HMy := Lib.hid (show may 21 LR = true by decide +kernel)
  have HMn := Lib.hid (show may (-1) [] = false by decide +kernel)
  go_wp2_with fail
  rw [HW.out]
  refine (data_any 21 A 1 c LR 0 W XW.out (by decide) (by decide) (by decide) _ HD.out).mono ?_
  rintro e w3 ⟨rfl, k3⟩
  have K3 := Lib.hid (K2.out.trans (k3.mono K2.out.size)); have B3 := Lib.hid (BW.out.on k3); have X3 := Lib.hid (XW.out.on k3)
  clear k3
  have c0 := B3.out.c0; have c1 := B3.out.c1
  simp only [Option.getD_some, Option.isSome_some]
  go_wp2_with fail
  refine (hole_any 21 A 1 c LR 20 w3 X3.out (by decide) (by decide) (by decide) _ HH.out).mono ?_
  rintro e w4 ⟨rfl, k4⟩
  have K4 := Lib.hid (K3.out.trans (k4.mono K3.out.size)); have B4 := Lib.hid (B3.out.on k4); have X4 := Lib.hid (X3.out.on k4)
  clear k4 c0 c1
  have c0 := B4.out.c0; have c1 := B4.out.c1
  simp only [Option.getD_some, Option.isSome_some]
  obtain ⟨b, o, rfl, hb, _⟩ := X4.out.cells (by omega)
  have cn := X4.out.no 0 (by omega)
  have cn2 : w4.cell? ⟨b, o, none⟩ = some (.int .i64 2) := by simpa [LR] using cn
  clear cn
  go_wp2_with fail
  refine (read_any 21 _ 1 c LR 19 9 w4 X4.out (by decide) (by decide) (by decide) _ HRd.out).mono ?_
  rintro e w5 ⟨A5, c5, rfl, n5, k5⟩
  have K5 := Lib.hid (K4.out.trans (k5.mono K4.out.size)); have B5 := Lib.hid (B4.out.on k5); have X5 := Lib.hid (X4.out.on k5)
  have hst : strOfNums [0, 1] = ⟨#[0, 1]⟩ := by rfl
  have T5 : (convert 27 9 (.slice A5 2 c5)).run Try.prog w5 = .ok (.string ⟨#[0, 1]⟩) w5 := hst ▸ text_of n5
  clear k5 c0 c1 n5 hst
  have c0 := B5.out.c0; have c1 := B5.out.c1
  go_wp2_with fail
  refine (may_any 21 _ 1 c LR w5 X5.out true HMy.out).mono ?_
  rintro e w6 ⟨rfl, k6⟩
  have K6 := Lib.hid (K5.out.trans (k6.mono K5.out.size))
  clear k6 c0 c1
  go_wp2_with fail
  refine (may_any (-1) none 0 0 [] w6 (exts_nil _) false HMn.out).mono ?_
  rintro e w7 ⟨rfl, k7⟩
  have K7 := Lib.hid (K6.out.trans (k7.mono K6.out.size))
  clear k7
  go_wp2
  go_ret
  exact ⟨ret_bool (by first | rfl | decide | simp), K7.out⟩
end Go.Proofs.Ytigfimlpjmmpoaa
