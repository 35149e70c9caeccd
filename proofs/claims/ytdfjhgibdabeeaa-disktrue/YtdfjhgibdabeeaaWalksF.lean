/- Contracts of disk's Long, Calls, Left, nextShort, fails, whole. -/
import Derived.Test.YtdfjhgibdabeeaaWalksD
import Derived.WalkKit
import Derived.WalkSpells
import Derived.WalkLawsBesides
import Derived.Lib.Hide
import Derived.BigQuiet
namespace Go.Proofs.Ytdfjhgibdabeeaa
open Go.RowKit

/-- A device that may be, and is not too much. -/
def Okd (D : Dev) : Prop := D.may = true ∧ D.few = true
theorem okd_eff {D : Dev} (h : D.few = true) : Okd D.eff := by
  unfold Okd Dev.eff
  split
  · rename_i hm; exact ⟨hm, h⟩
  · exact ⟨by decide, by decide⟩
structure Sizes (D : Dev) : Prop where
  data : D.data.length ≤ 400
  bad : D.bad.length ≤ 60
  soft : D.soft.length ≤ 60
  shorts : D.shorts.length ≤ 200
  m : D.m ≤ 50
  all : D.soft.all softOk = true
theorem Okd.sizes {D : Dev} (h : Okd D) : Sizes D := by
  obtain ⟨h1, h2⟩ := h
  simp [Dev.few] at h2
  obtain ⟨⟨⟨f1, f2⟩, f3⟩, f4⟩ := h2
  simp only [Dev.may, Bool.and_eq_true] at h1
  exact ⟨f1, f2, f3, f4, by unfold Dev.m; omega, h1.2⟩

theorem quiet_mine {P : Program} {f : FuncId} {args : Array Value} {w : World} {n : Nat} {v : Value}
    (h : Calls P f args (w.drewN n) fun e w' => e = .returned v ∧ w.drewN n = w') : Calls P f args (w.drewN n) fun e w'' => e = .returned v ∧ ∃ m, w'' = w.drewN m :=
  h.mono fun _ _ ⟨he, hm⟩ => ⟨he, n, hm.symm⟩

theorem ret_eq {a b : Int} (h : a = b) : Ending.returned (.int .i64 a) = .returned (.int .i64 b) := by rw [h]
def QuietInt (v : Int) (w : World) (e : Ending) (w' : World) : Prop := e = .returned (.int .i64 v) ∧ ∃ n, w' = w.drewN n
theorem quiet_int {v : Int} {w : World} {e : Ending} {w' : World} (h : e = .returned (.int .i64 v)) (k : ∃ n, w' = w.drewN n) : QuietInt v w e w' := ⟨h, k⟩
section
variable {b : Nat} {y : Pd} {D : Dev} {G : Nat → Int} {cl : Nat} {S : Nat → Prop}
set_option maxHeartbeats 400000 in
theorem long_any (w : World) (h : Dk b y D G cl w S) : Calls Try.prog 11 #[.pointer (some ⟨b, 0, none⟩)] w fun e w' => e = .returned (.int .i64 (D.data.length : Nat)) ∧ w = w' := by
  have c0 := h.c0
  rw [h.data.len]
  clear h
  go_enter Try.func11, Try.ntmps11
  go_wp2
  go_ret
  exact ⟨rfl, by simp⟩
set_option maxHeartbeats 400000 in
theorem calls_any (w : World) (h : Dk b y D G cl w S) : Calls Try.prog 12 #[.pointer (some ⟨b, 0, none⟩)] w fun e w' => e = .returned (.int .i64 (cl : Nat)) ∧ w = w' := by
  have c3 := h.c3
  clear h
  go_enter Try.func12, Try.ntmps12
  go_wp2
  go_ret
  exact ⟨rfl, by simp⟩
set_option maxHeartbeats 400000 in
theorem left_any (k : Int) (w : World) (h : Dk b y D G cl w S) (v : Int) (hv : left D G k = v) : Calls Try.prog 15 #[.pointer (some ⟨b, 0, none⟩), .int .i64 k] w fun e w' => e = .returned (.int .i64 v) ∧ w = w' := by
  have c1 := h.c1
  have HV := Lib.hid hv
  have HM := Lib.hid h.m
  clear hv
  by_cases hk : k < 0
  · have hz := Lib.hid (show (0 : Int) = v by rw [← HV.out, left, if_neg (by omega)])
    clear h
    go_enter Try.func15, Try.ntmps15
    go_wp2
    go_ret
    exact ⟨ret_eq hz.out, by simp⟩
  · obtain ⟨j, rfl⟩ : ∃ j : Nat, k = (j : Int) := ⟨k.toNat, by omega⟩
    by_cases hj : j < y.m
    · have hz := Lib.hid (show leftOf D G j = v by rw [← HV.out, left, if_pos (by have := HM.out; omega)]; simp)
      obtain ⟨g, hg, _, hc⟩ := h.secs.cells (by omega)
      obtain ⟨_, s1, _, _⟩ := hc j hj
      rw [hg] at c1
      have hd : decide (y.m ≤ j) = false := by simp; omega
      have hji : (j : Int) < (y.m : Int) := by omega
      clear hc hg h
      generalize y.m = m at *
      go_enter Try.func15, Try.ntmps15
      go_wp2
      go_ret
      exact ⟨ret_eq hz.out, by simp⟩
    · have hz := Lib.hid (show (0 : Int) = v by rw [← HV.out, left, if_neg (by have := HM.out; omega)])
      have hd : decide (y.m ≤ j) = true := by simp; omega
      clear h
      generalize y.m = m at *
      go_enter Try.func15, Try.ntmps15
      go_wp2
      go_ret
      exact ⟨ret_eq hz.out, by simp⟩

set_option maxHeartbeats 1000000 in
theorem next_any (w : World) (h : Dk b y D G cl w S) (hs : y.hn ≤ 1000) (v : Int) (hv : short D cl = v) : Calls Try.prog 24 #[.pointer (some ⟨b, 0, none⟩)] w (QuietInt v w) := by
  have c2 := h.c2; have c3 := h.c3
  have HV := Lib.hid hv
  have HL := Lib.hid h.shorts.len
  clear hv
  by_cases hk : cl < y.hn
  · obtain ⟨g, o, hg, _, hc⟩ := h.shorts.cells (by omega)
    have s1 := hc cl hk
    rw [hg] at c2
    have hd : decide (cl < y.hn) = true := by simp; omega
    have hk0 : (0 : Int) ≤ (cl : Int) := by omega
    have hki : (cl : Int) < (y.hn : Int) := by omega
    by_cases hz : 0 < D.shorts.getD cl 0
    · have HZ := Lib.hid (show D.shorts.getD cl 0 = v by rw [← HV.out, short, if_pos ⟨by rw [HL.out]; exact hk, hz⟩])
      clear hc hg h HL HV
      generalize y.hn = m at *
      generalize D.shorts.getD cl 0 = s at *
      have hd2 : decide (0 < s) = true := by simp; omega
      go_enter Try.func24, Try.ntmps24
      go_wp2
      go_quiet (fail)
      go_wp2
      go_quiet (fail)
      go_wp2
      go_ret
      exact quiet_int (ret_eq HZ.out) (by first | exact ⟨_, rfl⟩ | exact ⟨_, World.drewN_drewN _ _ _⟩)
    · have HZ := Lib.hid (show (4096 : Int) = v by rw [← HV.out, short, if_neg (fun h => hz h.2)])
      clear hc hg h HL HV
      generalize y.hn = m at *
      generalize D.shorts.getD cl 0 = s at *
      have hd2 : decide (0 < s) = false := by simp; omega
      go_enter Try.func24, Try.ntmps24
      go_wp2
      go_quiet (fail)
      go_wp2
      go_ret
      exact quiet_int (ret_eq HZ.out) (by first | exact ⟨_, rfl⟩ | exact ⟨_, World.drewN_drewN _ _ _⟩)
  · have HZ := Lib.hid (show (4096 : Int) = v by rw [← HV.out, short, if_neg (fun h => hk (by rw [← HL.out]; exact h.1))])
    have hd : decide (cl < y.hn) = false := by simp; omega
    clear h HL HV
    generalize y.hn = m at *
    go_enter Try.func24, Try.ntmps24
    go_wp2
    go_quiet (fail)
    go_wp2
    go_ret
    exact quiet_int (ret_eq HZ.out) (by first | exact ⟨_, rfl⟩ | exact ⟨_, World.drewN_drewN _ _ _⟩)
end

set_option maxHeartbeats 400000 in
theorem fails_any (B : Bool) (L : Int) (w : World) (z : Bool) (hz : (B || decide (0 < L)) = z) : Calls Try.prog 25 #[.agg #[.bool B, .int .i64 L]] w (TruthPost z w) := by
  have HZ := Lib.hid hz
  have K0 := Lib.hid (show Below w.heap.size w (w.alloc (.cells #[.bool B, .int .i64 L] 58)) from (Below.refl _ _).alloc (Nat.le_refl _) _)
  clear hz
  go_enter Try.func25, Try.ntmps25
  cases B with
  | true =>
    go_wp2
    go_ret
    exact ⟨by rw [← HZ.out]; rfl, K0.out⟩
  | false =>
    by_cases h : 0 < L
    · go_wp2
      go_ret
      exact ⟨by rw [← HZ.out]; simp [h], K0.out⟩
    · go_wp2
      go_ret
      exact ⟨by rw [← HZ.out]; simp [h], K0.out⟩

def NumPost (v : Nat) (w : World) (e : Ending) (w' : World) : Prop := e = .returned (.int .i64 (v : Nat)) ∧ Below w.heap.size w w'
set_option maxHeartbeats 1000000 in
theorem whole_any {b : Nat} {y : Pd} {D : Dev} {G : Nat → Int} {cl : Nat} {S : Nat → Prop} (p e : Nat) (w : World) (h : Dk b y D G cl w S) (he : e ≤ D.data.length) (hp : p ≤ e) (hs : D.data.length ≤ 400) (v : Nat) (hv : stop (fails D G) e e (p / 8 + 1) = v) :
    Calls Try.prog 26 #[.pointer (some ⟨b, 0, none⟩), .int .i64 (p : Nat), .int .i64 (e : Nat)] w (NumPost v w) := by
  have H := Lib.hid h; have HV := Lib.hid hv
  have hm : D.data.length ≤ 8 * y.m := by rw [h.m, Dev.m]; omega
  have hm2 : y.m ≤ 60 := by rw [h.m, Dev.m]; omega
  clear h hv
  obtain ⟨q, hq⟩ : ∃ q, p / 8 = q := ⟨_, rfl⟩
  rw [hq] at HV
  have hqi : ((p : Int)) / 8 = (q : Int) := by omega
  have hq1 : q ≤ 60 := by omega
  clear hq
  go_enter Try.func26, Try.ntmps26
  go_wp2
  go_loopw [7] (fun i wr => ∃ k f : Nat, i = .int .i64 k ∧ k ≤ 100 ∧ e ≤ f + k ∧ Hid (stop (fails D G) e f k = v) ∧ Hid (Below w.heap.size w wr)) (fun i _ => e - (intOf i).toNat)
  case atStart => exact ⟨q + 1, e, by go_num, by omega, by omega, HV.out, Below.refl _ _⟩
  case round =>
    obtain ⟨k, f, rfl, hk, hf, HS, K⟩ := hrel
    by_cases hlt : 8 * k < e
    · have hkm : k < y.m := by omega
      have H2 := H.out.on K.out
      obtain ⟨g, hg, _, hc⟩ := H2.secs.cells (by omega)
      obtain ⟨s0, s1, _, _⟩ := hc k hkm
      have c1 := H2.c1
      rw [hg] at c1
      have HX := Lib.hid ((stop_at (fails D G) e f k hf).1 hlt)
      have HF := Lib.hid (show (isBad D.bad k || decide (0 < leftOf D G k)) = fails D G k from rfl)
      clear hc hg H2
      generalize y.m = m at *
      generalize isBad D.bad k = B at *
      generalize leftOf D G k = L at *
      generalize fails D G k = z at *
      have hki : (k : Int) < (m : Int) := by omega
      have hlti : (k : Int) * 8 < (e : Int) := by omega
      cases z with
      | true =>
        go_wp2_with (go_at_call 25; refine (fails_any B L _ true HF.out).mono ?_; rintro e1 w1 ⟨rfl, k1⟩; have K1 := Lib.hid (K.out.trans (k1.mono K.out.size)); clear k1)
        go_ret
        exact ⟨by rw [← HS.out, HX.out]; simp; omega, K1.out⟩
      | false =>
        go_wp2_with (go_at_call 25; refine (fails_any B L _ false HF.out).mono ?_; rintro e1 w1 ⟨rfl, k1⟩; have K1 := Lib.hid (K.out.trans (k1.mono K.out.size)); clear k1)
        go_roundw
        case rel => exact ⟨k + 1, f - 1, by go_num, by omega, by omega, by unfold Hid; rw [← HS.out, HX.out]; simp, K1.out⟩
        case measure => simp [intOf]; omega
    · have HX := Lib.hid ((stop_at (fails D G) e f k hf).2 hlt)
      have hlti : ¬ (k : Int) * 8 < (e : Int) := by omega
      go_wp2
      go_ret
      exact ⟨ret_eq (by rw [← HS.out, HX.out]), K.out⟩

end Go.Proofs.Ytdfjhgibdabeeaa
