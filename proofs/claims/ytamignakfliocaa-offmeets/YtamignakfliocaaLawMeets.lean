/- The walk of the law OffMeets. -/
import Derived.Test.YtamignakfliocaaRead
import Derived.Test.YtamignakfliocaaLawCuts
import Derived.WalkKit
import Derived.WalkSpells
import Derived.WalkLawsBesides
import Derived.Lib.Hide
import Derived.Deep.RegionHeld3
import Derived.Deep.DeepCutAuto
namespace Go.Proofs.Ytamignakfliocaa
open Go.RowKit

namespace Plain
/-- A place lies in both spans. -/
def inB (ap al bp bl n : Int) : Bool := decide (ap ≤ n ∧ n - ap < al ∧ bp ≤ n ∧ n - bp < bl)
theorem in_iff (ap al bp bl n : Int) : inB ap al bp bl n = true ↔ (ap ≤ n ∧ n - ap < al ∧ bp ≤ n ∧ n - bp < bl) := by simp [inB]
theorem meet_in (ap al bp bl n : Int) (ha : spanB ap al = true) (hb : spanB bp bl = true) (hn : 0 ≤ n) :
    (ap ≤ n ∧ n - ap < al ∧ bp ≤ n ∧ n - bp < bl) ↔ ((meetP ap al bp bl).1 ≤ n ∧ n - (meetP ap al bp bl).1 < (meetP ap al bp bl).2) := by
  rw [meetP, if_pos ⟨ha, hb⟩]
  rw [span_iff] at ha hb
  by_cases h1 : ap < bp <;> by_cases h2 : bp + bl < ap + al <;> simp only [h1, h2, if_true, if_false] <;> split <;> constructor <;> intro h <;> omega
theorem meet_span (ap al bp bl : Int) : spanB (meetP ap al bp bl).1 (meetP ap al bp bl).2 = true := by
  rw [span_iff]
  unfold meetP
  by_cases hs : spanB ap al = true ∧ spanB bp bl = true
  · rw [if_pos hs]
    simp only [span_iff] at hs
    by_cases h1 : ap < bp <;> by_cases h2 : bp + bl < ap + al <;> simp only [h1, h2, if_true, if_false] <;> split <;> simp <;> omega
  · rw [if_neg hs]; simp
theorem meet_swap (ap al bp bl : Int) : meetP bp bl ap al = meetP ap al bp bl := by
  unfold meetP
  by_cases hs : spanB ap al = true ∧ spanB bp bl = true
  · rw [if_pos hs, if_pos ⟨hs.2, hs.1⟩]
    have e1 : (if bp < ap then ap else bp) = (if ap < bp then bp else ap) := by split <;> split <;> omega
    have e2 : (if ap + al < bp + bl then ap + al else bp + bl) = (if bp + bl < ap + al then bp + bl else ap + al) := by split <;> split <;> omega
    rw [e1, e2]
  · rw [if_neg hs, if_neg (fun h => hs ⟨h.2, h.1⟩)]
theorem meet_self (ap al : Int) (ha : spanB ap al = true) : (meetP ap al ap al).2 = al := by
  rw [meetP, if_pos ⟨ha, ha⟩]
  rw [span_iff] at ha
  simp only [Int.lt_irrefl, if_false]
  split <;> simp <;> omega
theorem meet_within (ap al bp bl : Int) (ha : spanB ap al = true) (hb : spanB bp bl = true) : withinB (meetP ap al bp bl).1 (meetP ap al bp bl).2 ap al = true ∧ withinB (meetP ap al bp bl).1 (meetP ap al bp bl).2 bp bl = true := by
  have hm := meet_span ap al bp bl
  unfold withinB
  rw [hm, ha, hb]
  simp only [Bool.true_and, Bool.or_eq_true, Bool.and_eq_true, decide_eq_true_eq]
  rw [meetP, if_pos ⟨ha, hb⟩]
  rw [span_iff] at ha hb
  by_cases h1 : ap < bp <;> by_cases h2 : bp + bl < ap + al <;> simp only [h1, h2, if_true, if_false] <;> split <;> simp <;> omega
end Plain

/-- Three spans lie in three variables, and nothing older has turned. -/
def Three (w : World) (ap al bp bl : Int) (g : Nat) (mp ml : Int) (w' : World) : Prop := Two w ap al bp bl w' ∧ BoxAt w' g 27 mp ml
theorem Three.go {w w1 w2 : World} {ap al bp bl mp ml : Int} {g : Nat} (h : Three w ap al bp bl g mp ml w1) (k : Below w1.heap.size w1 w2) : Three w ap al bp bl g mp ml w2 := ⟨h.1.go k, h.2.below k h.2.lt⟩
theorem Three.drew {w w1 : World} {ap al bp bl mp ml : Int} {g : Nat} (h : Three w ap al bp bl g mp ml w1) : Three w ap al bp bl g mp ml w1.drew := ⟨h.1.drew, h.2⟩
abbrev Held3 (w : World) (ap al bp bl : Int) (g : Nat) (mp ml : Int) (w' : World) : Prop :=
  w'.cell? ⟨w.heap.size, 0, none⟩ = some (.int .i64 ap) ∧ w'.cell? ⟨w.heap.size, 1, none⟩ = some (.int .i64 al) ∧ w'.cell? ⟨w.heap.size + 1, 0, none⟩ = some (.int .i64 bp) ∧ w'.cell? ⟨w.heap.size + 1, 1, none⟩ = some (.int .i64 bl) ∧ w'.cell? ⟨g, 0, none⟩ = some (.int .i64 mp) ∧ w'.cell? ⟨g, 1, none⟩ = some (.int .i64 ml) ∧ Three w ap al bp bl g mp ml w'
theorem Three.all {w w1 : World} {ap al bp bl mp ml : Int} {g : Nat} (h : Three w ap al bp bl g mp ml w1) : Held3 w ap al bp bl g mp ml w1 :=
  ⟨h.1.1.one.1, h.1.1.one.2.1, h.1.2.1.one.1, h.1.2.1.one.2.1, h.2.one.1, h.2.one.2.1, h⟩
theorem held3_next {w w1 w2 : World} {ap al bp bl mp ml : Int} {g : Nat} (h : Held3 w ap al bp bl g mp ml w1) (k : Below w1.heap.size w1 w2) : Held3 w ap al bp bl g mp ml w2 := (h.2.2.2.2.2.2.go k).all

section
variable {P : Program} {ops : Array Oper} {Q : Exit → Act → World → Prop} {S : World → Prop}
/-- Operation i, whose slot is d, is taken next: it yields v wherever S holds. -/
theorem take_at (i d : Nat) {oi : Oper} {v : Value} {fuel : Nat} {listed : Array Bool} {a : Act} {w : World} (hi : ops[i]? = some oi) (hd : oi.dst = some d)
    (hs : Region.noSelect ops = true) (hf : Region.free .any ops listed i = true) (hr : (Region.ready .any ops listed).contains i = true)
    (hQ : ∀ c a w, Q (.panic c) (a.put oi.dst v) w → Q (.panic c) a w) (hw : Region.wanted oi (yielded ops a.tmps) = true) (hS : S w)
    (hv : ∀ w, S w → (execOp a.eval oi).run P w = .ok (.value v) w)
    (h : wpAnyH P .any ops Q S fuel (listed.setIfInBounds i true) (a.put (some d) v) w) : wpAnyH P .any ops Q S (fuel + 1) listed a w :=
  wpAnyH_take hi hs hf hr hQ (.inl ⟨hw, hv⟩) hS (by rw [hd]; exact h)
/-- Operation i, whose slot is d, is passed by: its guard says no. -/
theorem skip_at (i d : Nat) {oi : Oper} {fuel : Nat} {listed : Array Bool} {a : Act} {w : World} (hi : ops[i]? = some oi) (hd : oi.dst = some d)
    (hs : Region.noSelect ops = true) (hf : Region.free .any ops listed i = true) (hr : (Region.ready .any ops listed).contains i = true)
    (hQ : ∀ c a w, Q (.panic c) (a.put oi.dst undef) w → Q (.panic c) a w) (hw : Region.wanted oi (yielded ops a.tmps) = false) (hS : S w)
    (h : wpAnyH P .any ops Q S fuel (listed.setIfInBounds i true) (a.put (some d) undef) w) : wpAnyH P .any ops Q S (fuel + 1) listed a w :=
  wpAnyH_take hi hs hf hr hQ (.inr ⟨hw, rfl⟩) hS (by rw [hd]; exact h)
end

theorem field1 (w : World) (a b : Int) : (Instr.field 27 (.agg #[.int .i64 a, .int .i64 b]) 1).run Try.prog w = .ok (.int .i64 b) w := by kernel_rfl

set_option maxRecDepth 100000 in
set_option maxHeartbeats 4000000 in
theorem meets_yes (ap al bp bl n : Int) (w : World) (ha : Plain.spanB ap al = true) (hb : Plain.spanB bp bl = true) (hn0 : 0 ≤ n) (hn1 : n ≤ 4611686018427387904) :
    Calls Try.prog 8 #[.agg #[.int .i64 ap, .int .i64 al], .agg #[.int .i64 bp, .int .i64 bl], .int .i64 n] w fun e w' => e = .returned (.bool true) ∧ Below w.heap.size w w' := by
  have hin := Plain.meet_in ap al bp bl n ha hb hn0
  have hsp := Plain.meet_span ap al bp bl
  have hsw := Plain.meet_swap ap al bp bl
  have hself := Plain.meet_self ap al ha
  have hwi := Plain.meet_within ap al bp bl ha hb
  have hsw1 := congrArg Prod.fst hsw
  have hsw2 := congrArg Prod.snd hsw
  have HIN := Lib.hid hin; have HSW1 := Lib.hid hsw1; have HSW2 := Lib.hid hsw2; have HSELF := Lib.hid hself; have HWI := Lib.hid hwi
  have HA := Lib.hid ha; have HB := Lib.hid hb
  clear hin hsw hself hwi hsw1 hsw2
  rw [Plain.span_iff] at ha hb hsp
  obtain ⟨ha0, ha1, ha2, ha3⟩ := ha
  obtain ⟨hb0, hb1, hb2, hb3⟩ := hb
  obtain ⟨hm0, hm1, hm2, hm3⟩ := hsp
  have he := eql_span
  have t0 : Two w ap al bp bl ((w.alloc (.cells #[.int .i64 ap, .int .i64 al] 27)).alloc (.cells #[.int .i64 bp, .int .i64 bl] 27)) :=
    ⟨(BoxAt.new w 27 ap al).below (Below.alloc (Below.refl _ _) (Nat.le_refl _) _) (by simp), by simpa using BoxAt.new (w.alloc (.cells #[.int .i64 ap, .int .i64 al] 27)) 27 bp bl, ((Below.refl _ _).alloc (Nat.le_refl _) _).alloc (by simp) _⟩
  go_enter Try.func8, Try.ntmps8
  go_wp2_with fail
  refine (span_any _ _ _).mono ?_
  rintro e w1 ⟨rfl, k1⟩
  rw [HA.out]
  have t1 := t0.go k1
  clear t0 k1
  obtain ⟨c0, c1, _, _⟩ := t1.1.one
  obtain ⟨c2, c3, _, _⟩ := t1.2.1.one
  go_wp2_with fail
  refine (span_any _ _ _).mono ?_
  rintro e w2 ⟨rfl, k2⟩
  rw [HB.out]
  have t2 := t1.go k2
  clear t1 k2 c0 c1 c2 c3
  obtain ⟨c0, c1, _, _⟩ := t2.1.one
  obtain ⟨c2, c3, _, _⟩ := t2.2.1.one
  go_wp2_with fail
  refine (may_yes _ _ hn0 hn1).mono ?_
  rintro e w3 ⟨rfl, rfl⟩
  go_wp2_with fail
  refine (meet_any _ _ _ _ _).mono ?_
  rintro e w3 ⟨rfl, k3⟩
  have t3 := t2.go k3
  clear t2 k3 c0 c1 c2 c3
  generalize (Plain.meetP ap al bp bl).1 = mp at *
  generalize (Plain.meetP ap al bp bl).2 = ml at *
  obtain ⟨c0, c1, _, _⟩ := t3.1.one
  obtain ⟨c2, c3, _, _⟩ := t3.2.1.one
  have t4 : Three w ap al bp bl w3.heap.size mp ml (w3.alloc (.cells #[.int .i64 mp, .int .i64 ml] 27)) :=
    ⟨t3.go (Below.alloc (Below.refl _ _) (Nat.le_refl _) _), BoxAt.new w3 27 mp ml⟩
  go_upto_region 4 with fail
  go_cut [8] (fun s8 wx => s8 = .bool (Plain.inB ap al bp bl n) ∧ Three w ap al bp bl w3.heap.size mp ml wx)
  case first =>
    obtain ⟨d0, d1, d2, d3, _, _, _⟩ := t4.all
    have T4 := Lib.hid t4
    clear c0 c1 c2 c3 t4
    by_cases h1 : ap ≤ n
    · by_cases h2 : n - ap < al
      · by_cases h3 : bp ≤ n
        · by_cases h4 : n - bp < bl
          · have hv : Plain.inB ap al bp bl n = true := by rw [Bool.eq_iff_iff, Plain.in_iff]; simp; omega
            have HV := Lib.hid hv; clear hv
            go_wp2_with fail
            go_meet
            exact ⟨by rw [HV.out], T4.out⟩
          · have hv : Plain.inB ap al bp bl n = false := by rw [Bool.eq_iff_iff, Plain.in_iff]; simp; omega
            have HV := Lib.hid hv; clear hv
            go_wp2_with fail
            go_meet
            exact ⟨by rw [HV.out], T4.out⟩
        · have hv : Plain.inB ap al bp bl n = false := by rw [Bool.eq_iff_iff, Plain.in_iff]; simp; omega
          have HV := Lib.hid hv; clear hv
          have h3b : decide (bp ≤ n) = false := by simpa using h3
          go_wp2_with fail
          go_meet
          exact ⟨by rw [HV.out], T4.out⟩
      · have hv : Plain.inB ap al bp bl n = false := by rw [Bool.eq_iff_iff, Plain.in_iff]; simp; omega
        have HV := Lib.hid hv; clear hv
        have h2b : decide (n - ap < al) = false := by simpa using h2
        go_wp2_with fail
        go_meet
        exact ⟨by rw [HV.out], T4.out⟩
    · have hv : Plain.inB ap al bp bl n = false := by rw [Bool.eq_iff_iff, Plain.in_iff]; simp; omega
      have HV := Lib.hid hv; clear hv
      have h1b : decide (ap ≤ n) = false := by simpa using h1
      go_wp2_with fail
      go_meet
      exact ⟨by rw [HV.out], T4.out⟩
  case rest =>
    obtain ⟨rfl, t5⟩ := hcut
    clear t4 c0 c1 c2 c3
    have hg : w3.heap.size < _ := t5.2.lt
    obtain ⟨d0, d1, d2, d3, d4, d5, _⟩ := t5.all
    generalize w3.heap.size = g at *
    have hfd := field1
    have hwr : IntKind.i64.wrap (n - mp) = n - mp := IntWalk.i64_in _ (by omega)
    cases hi : Plain.inB ap al bp bl n
    · have hno : ¬ (mp ≤ n ∧ n - mp < ml) := by rw [← HIN.out, ← Plain.in_iff, hi]; simp
      clear hi
      by_cases h1 : mp ≤ n
      · have h2 : ¬ n - mp < ml := fun h => hno ⟨h1, h⟩
        have h2b : decide (n - mp < ml) = false := by simpa using h2
        clear hno h2
        go_wp2
        go_region_held3 (fun w' => w'.cell? ⟨w.heap.size, 0, none⟩ = some (.int .i64 ap) ∧ w'.cell? ⟨w.heap.size, 1, none⟩ = some (.int .i64 al) ∧ w'.cell? ⟨w.heap.size + 1, 0, none⟩ = some (.int .i64 bp) ∧ w'.cell? ⟨w.heap.size + 1, 1, none⟩ = some (.int .i64 bl) ∧ w'.cell? ⟨g, 0, none⟩ = some (.int .i64 mp) ∧ w'.cell? ⟨g, 1, none⟩ = some (.int .i64 ml) ∧ Three w ap al bp bl g mp ml w') (first | assumption | exact Three.all t5 | exact Three.all t5.drew | exact held3_next (by assumption) k9) (first | (go_at_call 26; refine (within_any _ _ _ _ _).mono ?_; (first | rw [HWI.out.1] | rw [HWI.out.2]); rintro e w' ⟨rfl, k9⟩) | (go_at_call 24; refine (meet_any _ _ _ _ _).mono ?_; (first | rw [HSW1.out, HSW2.out] | rw [HSELF.out]); rintro e w' ⟨rfl, k9⟩) | (go_at_call 3; refine (runs_any _).mono ?_; rintro e w' ⟨rfl, k9⟩))
        rename_i hH
        have K := Lib.hid hH.2.2.2.2.2.2.1.2.2
        go_wp2
        go_ret
        exact ⟨by simp, K.out⟩
      · have h1b : decide (mp ≤ n) = false := by simpa using h1
        clear hno h1
        go_wp2
        refine wp_region_held_drew (S := fun w' => Held3 w ap al bp bl g mp ml w') (by kernel_rfl) (Three.all t5.drew) (fun hHeld => ?_)
        show wpAnyH _ _ _ _ _ 45 _ _ _
        refine take_at 0 54 (v := ?v0) (fuel := 44) rfl rfl (by kernel_rfl) (by kernel_rfl) (by kernel_rfl) (fun _ _ _ h => h) (by rfl) hHeld ?hy0 ?rest0
        case hy0 => (intro w' hSw; (try dsimp only at hSw); go_simp <;> with_reducible rfl)
        simp only [Act.put, List.setIfInBounds_toArray, List.set_cons_zero, List.set_cons_succ]
        refine take_at 1 55 (v := ?v1) (fuel := 43) rfl rfl (by kernel_rfl) (by kernel_rfl) (by kernel_rfl) (fun _ _ _ h => h) (by rfl) hHeld ?hy1 ?rest1
        case hy1 => (intro w' hSw; (try dsimp only at hSw); go_simp <;> with_reducible rfl)
        simp only [Act.put, List.setIfInBounds_toArray, List.set_cons_zero, List.set_cons_succ]
        refine take_at 2 56 (v := ?v2) (fuel := 42) rfl rfl (by kernel_rfl) (by kernel_rfl) (by kernel_rfl) (fun _ _ _ h => h) (by rfl) hHeld ?hy2 ?rest2
        case hy2 => (intro w' hSw; (try dsimp only at hSw); go_simp <;> with_reducible rfl)
        simp only [Act.put, List.setIfInBounds_toArray, List.set_cons_zero, List.set_cons_succ]
        refine take_at 3 57 (v := ?v3) (fuel := 41) rfl rfl (by kernel_rfl) (by kernel_rfl) (by kernel_rfl) (fun _ _ _ h => h) (by rfl) hHeld ?hy3 ?rest3
        case hy3 => (intro w' hSw; (try dsimp only at hSw); go_simp <;> with_reducible rfl)
        simp only [Act.put, List.setIfInBounds_toArray, List.set_cons_zero, List.set_cons_succ]
        refine take_at 4 58 (v := ?v4) (fuel := 40) rfl rfl (by kernel_rfl) (by kernel_rfl) (by kernel_rfl) (fun _ _ _ h => h) (by rfl) hHeld ?hy4 ?rest4
        case hy4 => (intro w' hSw; (try dsimp only at hSw); go_simp <;> with_reducible rfl)
        simp only [Act.put, List.setIfInBounds_toArray, List.set_cons_zero, List.set_cons_succ]
        refine take_at 5 59 (v := ?v5) (fuel := 39) rfl rfl (by kernel_rfl) (by kernel_rfl) (by kernel_rfl) (fun _ _ _ h => h) (by rfl) hHeld ?hy5 ?rest5
        case hy5 => (intro w' hSw; (try dsimp only at hSw); go_simp <;> with_reducible rfl)
        simp only [Act.put, List.setIfInBounds_toArray, List.set_cons_zero, List.set_cons_succ]
        refine skip_at 6 60 (fuel := 38) rfl rfl (by kernel_rfl) (by kernel_rfl) (by kernel_rfl) (fun _ _ _ h => h) (by rfl) hHeld ?_
        simp only [Act.put, List.setIfInBounds_toArray, List.set_cons_zero, List.set_cons_succ]
        refine skip_at 7 61 (fuel := 37) rfl rfl (by kernel_rfl) (by kernel_rfl) (by kernel_rfl) (fun _ _ _ h => h) (by rfl) hHeld ?_
        simp only [Act.put, List.setIfInBounds_toArray, List.set_cons_zero, List.set_cons_succ]
        refine skip_at 8 62 (fuel := 36) rfl rfl (by kernel_rfl) (by kernel_rfl) (by kernel_rfl) (fun _ _ _ h => h) (by rfl) hHeld ?_
        simp only [Act.put, List.setIfInBounds_toArray, List.set_cons_zero, List.set_cons_succ]
        refine skip_at 9 63 (fuel := 35) rfl rfl (by kernel_rfl) (by kernel_rfl) (by kernel_rfl) (fun _ _ _ h => h) (by rfl) hHeld ?_
        simp only [Act.put, List.setIfInBounds_toArray, List.set_cons_zero, List.set_cons_succ]
        refine skip_at 10 64 (fuel := 34) rfl rfl (by kernel_rfl) (by kernel_rfl) (by kernel_rfl) (fun _ _ _ h => h) (by rfl) hHeld ?_
        simp only [Act.put, List.setIfInBounds_toArray, List.set_cons_zero, List.set_cons_succ]
        refine skip_at 11 65 (fuel := 33) rfl rfl (by kernel_rfl) (by kernel_rfl) (by kernel_rfl) (fun _ _ _ h => h) (by rfl) hHeld ?_
        simp only [Act.put, List.setIfInBounds_toArray, List.set_cons_zero, List.set_cons_succ]
        refine skip_at 12 66 (fuel := 32) rfl rfl (by kernel_rfl) (by kernel_rfl) (by kernel_rfl) (fun _ _ _ h => h) (by rfl) hHeld ?_
        simp only [Act.put, List.setIfInBounds_toArray, List.set_cons_zero, List.set_cons_succ]
        refine take_at 13 67 (v := ?v13) (fuel := 31) rfl rfl (by kernel_rfl) (by kernel_rfl) (by kernel_rfl) (fun _ _ _ h => h) (by rfl) hHeld ?hy13 ?rest13
        case hy13 => (intro w' hSw; (try dsimp only at hSw); go_simp <;> with_reducible rfl)
        simp only [Act.put, List.setIfInBounds_toArray, List.set_cons_zero, List.set_cons_succ]
        refine take_at 14 68 (v := ?v14) (fuel := 30) rfl rfl (by kernel_rfl) (by kernel_rfl) (by kernel_rfl) (fun _ _ _ h => h) (by rfl) hHeld ?hy14 ?rest14
        case hy14 => (intro w' hSw; (try dsimp only at hSw); go_simp <;> with_reducible rfl)
        simp only [Act.put, List.setIfInBounds_toArray, List.set_cons_zero, List.set_cons_succ]
        refine take_at 15 69 (v := ?v15) (fuel := 29) rfl rfl (by kernel_rfl) (by kernel_rfl) (by kernel_rfl) (fun _ _ _ h => h) (by rfl) hHeld ?hy15 ?rest15
        case hy15 => (intro w' hSw; (try dsimp only at hSw); go_simp <;> with_reducible rfl)
        simp only [Act.put, List.setIfInBounds_toArray, List.set_cons_zero, List.set_cons_succ]
        refine take_at 16 70 (v := ?v16) (fuel := 28) rfl rfl (by kernel_rfl) (by kernel_rfl) (by kernel_rfl) (fun _ _ _ h => h) (by rfl) hHeld ?hy16 ?rest16
        case hy16 => (intro w' hSw; (try dsimp only at hSw); go_simp <;> with_reducible rfl)
        simp only [Act.put, List.setIfInBounds_toArray, List.set_cons_zero, List.set_cons_succ]
        refine take_at 17 71 (v := ?v17) (fuel := 27) rfl rfl (by kernel_rfl) (by kernel_rfl) (by kernel_rfl) (fun _ _ _ h => h) (by rfl) hHeld ?hy17 ?rest17
        case hy17 => (intro w' hSw; (try dsimp only at hSw); go_simp <;> with_reducible rfl)
        simp only [Act.put, List.setIfInBounds_toArray, List.set_cons_zero, List.set_cons_succ]
        refine wpAnyH_ready (rs := [18]) (fuel := 26) (by kernel_rfl) (by simp) ?_
        refine AllReadyH.cons rfl (fun K hK => ?_) AllReadyH.nil
        go_simp
        (refine (within_any _ _ _ _ _).mono ?_; rw [HWI.out.1]; rintro e w' ⟨rfl, k118⟩)
        go_simp
        refine hK.out _ _ (held3_next hHeld k118) (fun hH18 => ?_)
        clear hK K hHeld
        refine take_at 19 73 (v := ?v19) (fuel := 25) rfl rfl (by kernel_rfl) (by kernel_rfl) (by kernel_rfl) (fun _ _ _ h => h) (by rfl) hH18 ?hy19 ?rest19
        case hy19 => (intro w' hSw; (try dsimp only at hSw); go_simp <;> with_reducible rfl)
        simp only [Act.put, List.setIfInBounds_toArray, List.set_cons_zero, List.set_cons_succ]
        refine take_at 20 74 (v := ?v20) (fuel := 24) rfl rfl (by kernel_rfl) (by kernel_rfl) (by kernel_rfl) (fun _ _ _ h => h) (by rfl) hH18 ?hy20 ?rest20
        case hy20 => (intro w' hSw; (try dsimp only at hSw); go_simp <;> with_reducible rfl)
        simp only [Act.put, List.setIfInBounds_toArray, List.set_cons_zero, List.set_cons_succ]
        refine take_at 21 75 (v := ?v21) (fuel := 23) rfl rfl (by kernel_rfl) (by kernel_rfl) (by kernel_rfl) (fun _ _ _ h => h) (by rfl) hH18 ?hy21 ?rest21
        case hy21 => (intro w' hSw; (try dsimp only at hSw); go_simp <;> with_reducible rfl)
        simp only [Act.put, List.setIfInBounds_toArray, List.set_cons_zero, List.set_cons_succ]
        refine take_at 22 76 (v := ?v22) (fuel := 22) rfl rfl (by kernel_rfl) (by kernel_rfl) (by kernel_rfl) (fun _ _ _ h => h) (by rfl) hH18 ?hy22 ?rest22
        case hy22 => (intro w' hSw; (try dsimp only at hSw); go_simp <;> with_reducible rfl)
        simp only [Act.put, List.setIfInBounds_toArray, List.set_cons_zero, List.set_cons_succ]
        refine wpAnyH_ready (rs := [23]) (fuel := 21) (by kernel_rfl) (by simp) ?_
        refine AllReadyH.cons rfl (fun K hK => ?_) AllReadyH.nil
        go_simp
        (refine (within_any _ _ _ _ _).mono ?_; rw [HWI.out.2]; rintro e w' ⟨rfl, k123⟩)
        go_simp
        refine hK.out _ _ (held3_next hH18 k123) (fun hH23 => ?_)
        clear hK K hH18
        refine take_at 24 78 (v := ?v24) (fuel := 20) rfl rfl (by kernel_rfl) (by kernel_rfl) (by kernel_rfl) (fun _ _ _ h => h) (by rfl) hH23 ?hy24 ?rest24
        case hy24 => (intro w' hSw; (try dsimp only at hSw); go_simp <;> with_reducible rfl)
        simp only [Act.put, List.setIfInBounds_toArray, List.set_cons_zero, List.set_cons_succ]
        refine take_at 25 79 (v := ?v25) (fuel := 19) rfl rfl (by kernel_rfl) (by kernel_rfl) (by kernel_rfl) (fun _ _ _ h => h) (by rfl) hH23 ?hy25 ?rest25
        case hy25 => (intro w' hSw; (try dsimp only at hSw); go_simp <;> with_reducible rfl)
        simp only [Act.put, List.setIfInBounds_toArray, List.set_cons_zero, List.set_cons_succ]
        refine take_at 26 80 (v := ?v26) (fuel := 18) rfl rfl (by kernel_rfl) (by kernel_rfl) (by kernel_rfl) (fun _ _ _ h => h) (by rfl) hH23 ?hy26 ?rest26
        case hy26 => (intro w' hSw; (try dsimp only at hSw); go_simp <;> with_reducible rfl)
        simp only [Act.put, List.setIfInBounds_toArray, List.set_cons_zero, List.set_cons_succ]
        refine take_at 27 81 (v := ?v27) (fuel := 17) rfl rfl (by kernel_rfl) (by kernel_rfl) (by kernel_rfl) (fun _ _ _ h => h) (by rfl) hH23 ?hy27 ?rest27
        case hy27 => (intro w' hSw; (try dsimp only at hSw); go_simp <;> with_reducible rfl)
        simp only [Act.put, List.setIfInBounds_toArray, List.set_cons_zero, List.set_cons_succ]
        refine take_at 28 82 (v := ?v28) (fuel := 16) rfl rfl (by kernel_rfl) (by kernel_rfl) (by kernel_rfl) (fun _ _ _ h => h) (by rfl) hH23 ?hy28 ?rest28
        case hy28 => (intro w' hSw; (try dsimp only at hSw); go_simp <;> with_reducible rfl)
        simp only [Act.put, List.setIfInBounds_toArray, List.set_cons_zero, List.set_cons_succ]
        refine wpAnyH_ready (rs := [29]) (fuel := 15) (by kernel_rfl) (by simp) ?_
        refine AllReadyH.cons rfl (fun K hK => ?_) AllReadyH.nil
        go_simp
        (refine (meet_any _ _ _ _ _).mono ?_; rw [HSW1.out, HSW2.out]; rintro e w' ⟨rfl, k129⟩)
        go_simp
        refine hK.out _ _ (held3_next hH23 k129) (fun hH29 => ?_)
        clear hK K hH23
        refine take_at 30 84 (v := ?v30) (fuel := 14) rfl rfl (by kernel_rfl) (by kernel_rfl) (by kernel_rfl) (fun _ _ _ h => h) (by rfl) hH29 ?hy30 ?rest30
        case hy30 => (intro w' hSw; (try dsimp only at hSw); go_simp <;> with_reducible rfl)
        simp only [Act.put, List.setIfInBounds_toArray, List.set_cons_zero, List.set_cons_succ]
        refine take_at 31 85 (v := ?v31) (fuel := 13) rfl rfl (by kernel_rfl) (by kernel_rfl) (by kernel_rfl) (fun _ _ _ h => h) (by rfl) hH29 ?hy31 ?rest31
        case hy31 => (intro w' hSw; (try dsimp only at hSw); go_simp <;> with_reducible rfl)
        simp only [Act.put, List.setIfInBounds_toArray, List.set_cons_zero, List.set_cons_succ]
        refine take_at 32 86 (v := ?v32) (fuel := 12) rfl rfl (by kernel_rfl) (by kernel_rfl) (by kernel_rfl) (fun _ _ _ h => h) (by rfl) hH29 ?hy32 ?rest32
        case hy32 => (intro w' hSw; (try dsimp only at hSw); go_simp <;> with_reducible rfl)
        simp only [Act.put, List.setIfInBounds_toArray, List.set_cons_zero, List.set_cons_succ]
        refine take_at 33 87 (v := ?v33) (fuel := 11) rfl rfl (by kernel_rfl) (by kernel_rfl) (by kernel_rfl) (fun _ _ _ h => h) (by rfl) hH29 ?hy33 ?rest33
        case hy33 => (intro w' hSw; (try dsimp only at hSw); go_simp <;> with_reducible rfl)
        simp only [Act.put, List.setIfInBounds_toArray, List.set_cons_zero, List.set_cons_succ]
        refine take_at 34 88 (v := ?v34) (fuel := 10) rfl rfl (by kernel_rfl) (by kernel_rfl) (by kernel_rfl) (fun _ _ _ h => h) (by rfl) hH29 ?hy34 ?rest34
        case hy34 => (intro w' hSw; (try dsimp only at hSw); go_simp <;> with_reducible rfl)
        simp only [Act.put, List.setIfInBounds_toArray, List.set_cons_zero, List.set_cons_succ]
        refine take_at 37 91 (v := ?v37) (fuel := 9) rfl rfl (by kernel_rfl) (by kernel_rfl) (by kernel_rfl) (fun _ _ _ h => h) (by rfl) hH29 ?hy37 ?rest37
        case hy37 => (intro w' hSw; (try dsimp only at hSw); go_simp <;> with_reducible rfl)
        simp only [Act.put, List.setIfInBounds_toArray, List.set_cons_zero, List.set_cons_succ]
        refine take_at 38 92 (v := ?v38) (fuel := 8) rfl rfl (by kernel_rfl) (by kernel_rfl) (by kernel_rfl) (fun _ _ _ h => h) (by rfl) hH29 ?hy38 ?rest38
        case hy38 => (intro w' hSw; (try dsimp only at hSw); go_simp <;> with_reducible rfl)
        simp only [Act.put, List.setIfInBounds_toArray, List.set_cons_zero, List.set_cons_succ]
        refine wpAnyH_ready (rs := [35]) (fuel := 7) (by kernel_rfl) (by simp) ?_
        refine AllReadyH.cons rfl (fun K hK => ?_) AllReadyH.nil
        go_simp
        (refine (meet_any _ _ _ _ _).mono ?_; rw [HSELF.out]; rintro e w' ⟨rfl, k135⟩)
        go_simp
        refine hK.out _ _ (held3_next hH29 k135) (fun hH35 => ?_)
        clear hK K hH29
        refine take_at 36 90 (v := ?v36) (fuel := 6) rfl rfl (by kernel_rfl) (by kernel_rfl) (by kernel_rfl) (fun _ _ _ h => h) (by rfl) hH35 ?hy36 ?rest36
        case hy36 => (intro w' hSw; (try dsimp only at hSw); go_simp <;> with_reducible rfl)
        simp only [Act.put, List.setIfInBounds_toArray, List.set_cons_zero, List.set_cons_succ]
        refine take_at 39 93 (v := ?v39) (fuel := 5) rfl rfl (by kernel_rfl) (by kernel_rfl) (by kernel_rfl) (fun _ _ _ h => h) (by rfl) hH35 ?hy39 ?rest39
        case hy39 => (intro w' hSw; (try dsimp only at hSw); go_simp <;> with_reducible rfl)
        simp only [Act.put, List.setIfInBounds_toArray, List.set_cons_zero, List.set_cons_succ]
        refine take_at 40 94 (v := ?v40) (fuel := 4) rfl rfl (by kernel_rfl) (by kernel_rfl) (by kernel_rfl) (fun _ _ _ h => h) (by rfl) hH35 ?hy40 ?rest40
        case hy40 => (intro w' hSw; (try dsimp only at hSw); go_simp <;> with_reducible rfl)
        simp only [Act.put, List.setIfInBounds_toArray, List.set_cons_zero, List.set_cons_succ]
        refine take_at 41 95 (v := ?v41) (fuel := 3) rfl rfl (by kernel_rfl) (by kernel_rfl) (by kernel_rfl) (fun _ _ _ h => h) (by rfl) hH35 ?hy41 ?rest41
        case hy41 => (intro w' hSw; (try dsimp only at hSw); go_simp <;> with_reducible rfl)
        simp only [Act.put, List.setIfInBounds_toArray, List.set_cons_zero, List.set_cons_succ]
        refine wpAnyH_ready (rs := [42]) (fuel := 2) (by kernel_rfl) (by simp) ?_
        refine AllReadyH.cons rfl (fun K hK => ?_) AllReadyH.nil
        go_simp
        (refine (runs_any _).mono ?_; rintro e w' ⟨rfl, k142⟩)
        go_simp
        refine hK.out _ _ (held3_next hH35 k142) (fun hH42 => ?_)
        clear hK K hH35
        refine take_at 43 97 (v := ?v43) (fuel := 1) rfl rfl (by kernel_rfl) (by kernel_rfl) (by kernel_rfl) (fun _ _ _ h => h) (by rfl) hH42 ?hy43 ?rest43
        case hy43 => (intro w' hSw; (try dsimp only at hSw); go_simp <;> with_reducible rfl)
        simp only [Act.put, List.setIfInBounds_toArray, List.set_cons_zero, List.set_cons_succ]
        refine take_at 44 6 (v := ?v44) (fuel := 0) rfl rfl (by kernel_rfl) (by kernel_rfl) (by kernel_rfl) (fun _ _ _ h => h) (by rfl) hH42 ?hy44 ?rest44
        case hy44 => (intro w' hSw; (try dsimp only at hSw); go_simp <;> with_reducible rfl)
        simp only [Act.put, List.setIfInBounds_toArray, List.set_cons_zero, List.set_cons_succ]
        refine wpAnyH_done (by kernel_rfl) ?_ _
        have K := Lib.hid hH42.2.2.2.2.2.2.1.2.2
        go_wp2
        go_ret
        exact ⟨by simp, K.out⟩
    · obtain ⟨h1, h2⟩ := HIN.out.1 ((Plain.in_iff _ _ _ _ _).1 hi)
      clear hi
      go_wp2
      go_region_held3 (fun w' => w'.cell? ⟨w.heap.size, 0, none⟩ = some (.int .i64 ap) ∧ w'.cell? ⟨w.heap.size, 1, none⟩ = some (.int .i64 al) ∧ w'.cell? ⟨w.heap.size + 1, 0, none⟩ = some (.int .i64 bp) ∧ w'.cell? ⟨w.heap.size + 1, 1, none⟩ = some (.int .i64 bl) ∧ w'.cell? ⟨g, 0, none⟩ = some (.int .i64 mp) ∧ w'.cell? ⟨g, 1, none⟩ = some (.int .i64 ml) ∧ Three w ap al bp bl g mp ml w') (first | assumption | exact Three.all t5 | exact Three.all t5.drew | exact held3_next (by assumption) k9) (first | (go_at_call 26; refine (within_any _ _ _ _ _).mono ?_; (first | rw [HWI.out.1] | rw [HWI.out.2]); rintro e w' ⟨rfl, k9⟩) | (go_at_call 24; refine (meet_any _ _ _ _ _).mono ?_; (first | rw [HSW1.out, HSW2.out] | rw [HSELF.out]); rintro e w' ⟨rfl, k9⟩) | (go_at_call 3; refine (runs_any _).mono ?_; rintro e w' ⟨rfl, k9⟩))
      rename_i hH
      have K := Lib.hid hH.2.2.2.2.2.2.1.2.2
      go_wp2
      go_ret
      exact ⟨by simp, K.out⟩

set_option maxRecDepth 100000 in
set_option maxHeartbeats 1000000 in
theorem meets_noA (ap al bp bl n : Int) (w : World) (ha : Plain.spanB ap al = false) :
    Calls Try.prog 8 #[.agg #[.int .i64 ap, .int .i64 al], .agg #[.int .i64 bp, .int .i64 bl], .int .i64 n] w fun e w' => e = .returned (.bool true) ∧ Below w.heap.size w w' := by
  have HA := Lib.hid ha; clear ha
  have t0 : Two w ap al bp bl ((w.alloc (.cells #[.int .i64 ap, .int .i64 al] 27)).alloc (.cells #[.int .i64 bp, .int .i64 bl] 27)) :=
    ⟨(BoxAt.new w 27 ap al).below (Below.alloc (Below.refl _ _) (Nat.le_refl _) _) (by simp), by simpa using BoxAt.new (w.alloc (.cells #[.int .i64 ap, .int .i64 al] 27)) 27 bp bl, ((Below.refl _ _).alloc (Nat.le_refl _) _).alloc (by simp) _⟩
  go_enter Try.func8, Try.ntmps8
  go_wp2_with fail
  refine (span_any _ _ _).mono ?_
  rintro e w1 ⟨rfl, k1⟩
  rw [HA.out]
  have t1 := t0.go k1
  clear t0 k1
  go_wp2_with fail
  refine (runs_any _).mono ?_
  rintro e w9 ⟨rfl, k9⟩
  go_wp2
  go_ret
  exact ⟨rfl, (t1.go k9).2.2⟩

set_option maxRecDepth 100000 in
set_option maxHeartbeats 1000000 in
theorem meets_noB (ap al bp bl n : Int) (w : World) (ha : Plain.spanB ap al = true) (hb : Plain.spanB bp bl = false) :
    Calls Try.prog 8 #[.agg #[.int .i64 ap, .int .i64 al], .agg #[.int .i64 bp, .int .i64 bl], .int .i64 n] w fun e w' => e = .returned (.bool true) ∧ Below w.heap.size w w' := by
  have HA := Lib.hid ha; clear ha
  have HB := Lib.hid hb; clear hb
  have t0 : Two w ap al bp bl ((w.alloc (.cells #[.int .i64 ap, .int .i64 al] 27)).alloc (.cells #[.int .i64 bp, .int .i64 bl] 27)) :=
    ⟨(BoxAt.new w 27 ap al).below (Below.alloc (Below.refl _ _) (Nat.le_refl _) _) (by simp), by simpa using BoxAt.new (w.alloc (.cells #[.int .i64 ap, .int .i64 al] 27)) 27 bp bl, ((Below.refl _ _).alloc (Nat.le_refl _) _).alloc (by simp) _⟩
  go_enter Try.func8, Try.ntmps8
  go_wp2_with fail
  refine (span_any _ _ _).mono ?_
  rintro e w1 ⟨rfl, k1⟩
  rw [HA.out]
  have t1 := t0.go k1
  clear t0 k1
  obtain ⟨c0, c1, _, _⟩ := t1.1.one
  obtain ⟨c2, c3, _, _⟩ := t1.2.1.one
  go_wp2_with fail
  refine (span_any _ _ _).mono ?_
  rintro e w2 ⟨rfl, k2⟩
  rw [HB.out]
  have t2 := t1.go k2
  clear t1 k2 c0 c1 c2 c3
  go_wp2_with fail
  refine (runs_any _).mono ?_
  rintro e w9 ⟨rfl, k9⟩
  go_wp2
  go_ret
  exact ⟨rfl, (t2.go k9).2.2⟩

set_option maxRecDepth 100000 in
set_option maxHeartbeats 1000000 in
theorem meets_noC (ap al bp bl n : Int) (w : World) (ha : Plain.spanB ap al = true) (hb : Plain.spanB bp bl = true) (hn : ¬ (0 ≤ n ∧ n ≤ 4611686018427387904)) :
    Calls Try.prog 8 #[.agg #[.int .i64 ap, .int .i64 al], .agg #[.int .i64 bp, .int .i64 bl], .int .i64 n] w fun e w' => e = .returned (.bool true) ∧ Below w.heap.size w w' := by
  have HA := Lib.hid ha; clear ha
  have HB := Lib.hid hb; clear hb
  have t0 : Two w ap al bp bl ((w.alloc (.cells #[.int .i64 ap, .int .i64 al] 27)).alloc (.cells #[.int .i64 bp, .int .i64 bl] 27)) :=
    ⟨(BoxAt.new w 27 ap al).below (Below.alloc (Below.refl _ _) (Nat.le_refl _) _) (by simp), by simpa using BoxAt.new (w.alloc (.cells #[.int .i64 ap, .int .i64 al] 27)) 27 bp bl, ((Below.refl _ _).alloc (Nat.le_refl _) _).alloc (by simp) _⟩
  go_enter Try.func8, Try.ntmps8
  go_wp2_with fail
  refine (span_any _ _ _).mono ?_
  rintro e w1 ⟨rfl, k1⟩
  rw [HA.out]
  have t1 := t0.go k1
  clear t0 k1
  obtain ⟨c0, c1, _, _⟩ := t1.1.one
  obtain ⟨c2, c3, _, _⟩ := t1.2.1.one
  go_wp2_with fail
  refine (span_any _ _ _).mono ?_
  rintro e w2 ⟨rfl, k2⟩
  rw [HB.out]
  have t2 := t1.go k2
  clear t1 k2 c0 c1 c2 c3
  go_wp2_with fail
  refine (may_no _ _ hn).mono ?_
  rintro e w3 ⟨rfl, rfl⟩
  go_wp2_with fail
  refine (runs_any _).mono ?_
  rintro e w9 ⟨rfl, k9⟩
  go_wp2
  go_ret
  exact ⟨rfl, (t2.go k9).2.2⟩

theorem meets_walk (ap al bp bl n : Int) (w : World) (_h1 : (Lit.int .i64 ap).wf = true) (_h2 : (Lit.int .i64 al).wf = true) (_h3 : (Lit.int .i64 bp).wf = true) (_h4 : (Lit.int .i64 bl).wf = true) (_h5 : (Lit.int .i64 n).wf = true) :
    Calls Try.prog 8 #[.agg #[.int .i64 ap, .int .i64 al], .agg #[.int .i64 bp, .int .i64 bl], .int .i64 n] w fun e w' => e = .returned (.bool true) ∧ Below w.heap.size w w' := by
  cases ha : Plain.spanB ap al
  · exact meets_noA ap al bp bl n w ha
  · cases hb : Plain.spanB bp bl
    · exact meets_noB ap al bp bl n w ha hb
    · by_cases hn : 0 ≤ n ∧ n ≤ 4611686018427387904
      · exact meets_yes ap al bp bl n w ha hb hn.1 hn.2
      · exact meets_noC ap al bp bl n w ha hb hn

end Go.Proofs.Ytamignakfliocaa
