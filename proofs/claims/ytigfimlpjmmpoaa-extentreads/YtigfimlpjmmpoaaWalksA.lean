/- Contracts of the law's Few, of extent's ahead, bareFrom, May. -/
import Derived.Test.YtigfimlpjmmpoaaSteps
import Derived.Test.YtigfimlpjmmpoaaSpec
import Derived.WalkKit
import Derived.WalkSpells
import Derived.WalkLawsBesides
import Derived.Lib.Hide
import Derived.BigQuiet
namespace Go.Proofs.Ytigfimlpjmmpoaa
open Go.RowKit

theorem ret_bool {a b : Bool} (h : a = b) : Ending.returned (.bool a) = .returned (.bool b) := by rw [h]
theorem ret_int {k : IntKind} {a b : Int} (h : a = b) : Ending.returned (.int k a) = .returned (.int k b) := by rw [h]
def TruthPost (z : Bool) (w : World) (e : Ending) (w' : World) : Prop := e = .returned (.bool z) ∧ Below w.heap.size w w'
/-- A content as a value. -/
def ct (s : Int) (A : Option Addr) (n c : Nat) : Value := .agg #[.int .i64 s, .slice A n c]
/-- Its variable. -/
def Box (w : World) (b : Nat) (s : Int) (A : Option Addr) (n c : Nat) : Prop := Row w b 24 #[.int .i64 s, .slice A n c]
theorem Box.on {w w' : World} {b : Nat} {s : Int} {A : Option Addr} {n c : Nat} (h : Box w b s A n c) (k : Below w.heap.size w w') : Box w' b s A n c := Row.on h k
theorem Box.c0 {w : World} {b : Nat} {s : Int} {A : Option Addr} {n c : Nat} (h : Box w b s A n c) : w.cell? ⟨b, 0, none⟩ = some (.int .i64 s) := by rw [Row.at h]; rfl
theorem Box.c1 {w : World} {b : Nat} {s : Int} {A : Option Addr} {n c : Nat} (h : Box w b s A n c) : w.cell? ⟨b, 1, none⟩ = some (.slice A n c) := by rw [Row.at h]; rfl
theorem Box.f0 {w : World} {b : Nat} {s : Int} {A : Option Addr} {n c : Nat} (h : Box w b s A n c) : w.frozen? ⟨b, 0, none⟩ = false := Row.free h 0
theorem Box.f1 {w : World} {b : Nat} {s : Int} {A : Option Addr} {n c : Nat} (h : Box w b s A n c) : w.frozen? ⟨b, 1, none⟩ = false := Row.free h 1
theorem Box.lt {w : World} {b : Nat} {s : Int} {A : Option Addr} {n c : Nat} (h : Box w b s A n c) : b < w.heap.size := Row.lt h
theorem box_new (w : World) (s : Int) (A : Option Addr) (n c : Nat) : Box (w.alloc (.cells #[.int .i64 s, .slice A n c] 24)) w.heap.size s A n c := Row.new w 24 _

set_option maxHeartbeats 400000 in
theorem few_any (s : Int) (A : Option Addr) (n c : Nat) (w : World) : Calls Try.prog 17 #[ct s A n c] w (TruthPost (decide (n ≤ 60)) w) := by
  have K0 := Lib.hid (show Below w.heap.size w (w.alloc (.cells #[.int .i64 s, .slice A n c] 24)) from (Below.refl _ _).alloc (Nat.le_refl _) _)
  show Calls Try.prog 17 #[.agg #[.int .i64 s, .slice A n c]] w _
  go_enter Try.func17, Try.ntmps17
  by_cases h1 : n ≤ 60
  · go_wp2
    go_ret
    exact ⟨by simp [h1]; omega, K0.out⟩
  · have hd : decide ((n : Int) ≤ 60) = false := by simp; omega
    go_wp2
    go_ret
    exact ⟨by simp [h1], K0.out⟩

set_option maxHeartbeats 400000 in
theorem ahead_any (no p : Int) (w : World) (h0 : 0 ≤ no) (h1 : no < 137438953472) (p0 : 0 ≤ p) (p1 : p ≤ 1099511627776) (f : Nat) (hf : min (p - no * 8).toNat 8 = f) :
    Calls Try.prog 51 #[.int .i64 no, .int .i64 p] w fun e w' => e = .returned (.int .i64 (f : Int)) ∧ w = w' := by
  have HF := Lib.hid hf
  clear hf
  go_enter Try.func51, Try.ntmps51
  go_wp2
  all_goals
    go_ret
    refine ⟨ret_int ?_, by simp⟩
    have := HF.out
    repeat (rename_i hh; revert hh)
    repeat' split
    all_goals intros
    all_goals omega

set_option maxHeartbeats 400000 in
theorem not0_any (z : Int) (w : World) : Calls Try.prog 52 #[.int .u8 z] w fun e w' => e = .returned (.bool (!decide (z = 0))) ∧ w = w' := by
  go_enter Try.func52, Try.ntmps52
  by_cases h : z = 0
  · go_wp2
    go_ret
    exact ⟨by simp [h], by simp⟩
  · go_wp2
    go_ret
    exact ⟨by simp [h], by simp⟩

def FoundPost (z : Bool) (w : World) (e : Ending) (w' : World) : Prop := ∃ i : Int, e = .returned (.int .i64 i) ∧ decide (0 ≤ i) = z ∧ Below w.heap.size w w'
theorem found_post {z : Bool} {w w' : World} {i : Int} (hz : decide (0 ≤ i) = z) (k : Below w.heap.size w w') : FoundPost z w (.returned (.int .i64 i)) w' := ⟨i, rfl, hz, k⟩

set_option maxHeartbeats 1000000 in
theorem index_not0 (A : Option Addr) (n c : Nat) (zs : List Int) (w : World) (h : Nums .u8 w A n c zs) : Calls Try.prog 56 #[.slice A n c, .func (.func 52) #[] #[]] w (FoundPost (zs.any fun z => !decide (z = 0)) w) := by
  have H := Lib.hid h
  have hm : n ≤ 9223372036854775807 := by have := h.le; have := h.mx; unfold maxLen at this; omega
  clear h
  go_enter Try.func56, Try.ntmps56
  go_wp2
  go_loop [8] (fun i => ∃ j : Nat, j ≤ n ∧ i = .int .i64 j ∧ Hid (((zs.take j).any fun z => !decide (z = 0)) = false)) (fun i => n - (intOf i).toNat)
  case atStart => exact ⟨0, Nat.zero_le _, rfl, by simp [Hid]⟩
  case round =>
    obtain ⟨j, hj, rfl, HT⟩ := hrel
    by_cases hlt : j < n
    · obtain ⟨b, o, rfl, hb, hc⟩ := H.out.cells (by omega)
      have c0 := hc j hlt
      have HS := Lib.hid (show (zs.take (j + 1)).any (fun z => !decide (z = 0)) = !decide (zs.getD j 0 = 0) by
        have hl : j < zs.length := by have := H.out.len; omega
        rw [List.take_add_one, List.any_append, HT.out, List.getElem?_eq_getElem hl, List.getD_eq_getElem?_getD, List.getElem?_eq_getElem hl]
        simp)
      have HI := Lib.hid (show zs.getD j 0 ≠ 0 → (zs.any fun z => !decide (z = 0)) = true from fun hz => by
        have hl : j < zs.length := by have := H.out.len; omega
        rw [List.getD_eq_getElem?_getD, List.getElem?_eq_getElem hl] at hz
        exact List.any_eq_true.2 ⟨_, List.getElem_mem hl, by simpa using hz⟩)
      clear hc
      have hji : (j : Int) < (n : Int) := by omega
      generalize zs.getD j 0 = z at *
      by_cases hz : z = 0
      · go_wp2_with (go_at_call 52; refine (not0_any _ _).mono ?_; rintro e w' ⟨rfl, rfl⟩)
        go_round
        case rel => exact ⟨j + 1, by omega, by go_num, by unfold Hid; rw [HS.out]; simp [hz]⟩
        case measure => simp [intOf]; omega
      · go_wp2_with (go_at_call 52; refine (not0_any _ _).mono ?_; rintro e w' ⟨rfl, rfl⟩)
        go_ret
        exact found_post (by rw [HI.out hz]; simp) (by first | exact Below.refl _ _ | simp)
    · have hjn : j = n := by omega
      have HL := Lib.hid (show (zs.any fun z => !decide (z = 0)) = false by have := HT.out; rwa [hjn, ← H.out.len, List.take_length] at this)
      go_wp2
      go_ret
      exact found_post (by rw [HL.out]; rfl) (by first | exact Below.refl _ _ | simp)

set_option maxHeartbeats 400000 in
theorem has_not0 (A : Option Addr) (n c : Nat) (zs : List Int) (w : World) (h : Nums .u8 w A n c zs) (z : Bool) (hz : (zs.any fun z => !decide (z = 0)) = z) : Calls Try.prog 50 #[.slice A n c, .func (.func 52) #[] #[]] w (TruthPost z w) := by
  subst hz
  have H := Lib.hid h
  clear h
  go_enter Try.func50, Try.ntmps50
  go_wp2_with fail
  refine (index_not0 A n c zs w H.out).mono ?_
  rintro e w1 ⟨i, rfl, hi, k⟩
  have HI := Lib.hid hi; have K := Lib.hid k
  clear hi k
  by_cases h0 : 0 ≤ i
  · go_wp2
    go_ret
    exact ⟨by rw [← HI.out]; simp [h0], K.out⟩
  · go_wp2
    go_ret
    exact ⟨by rw [← HI.out]; simp, K.out⟩

/-- x.B[f:]. -/
theorem cut8_l (b o f : Nat) (hf : f ≤ 8) : ∀ w', (Instr.sliceAt 30 (.pointer (some ⟨b, o, none⟩)) (some (.int .i64 (f : Int))) none none).run Try.prog w' = .ok (.slice (some ⟨b, if f = 8 then o else o + f, none⟩) (8 - f) (8 - f)) w' := by
  intro w'
  have hal : Try.prog.arrayLen 30 = 8 := by kernel_rfl
  simp only [Instr.sliceAt, Sem.run_bind, run_underlying Try.underlying30 w', Result.andThen_ok]
  have hb : (Instr.sliceBounds false 8 8 (some (.int .i64 (f : Int))) none none).run Try.prog w' = .ok (f, 8, 8) w' := by
    simp [Instr.sliceBounds, run_sliceBound, show (f : Int) ≤ 8 by omega]
  simp [Instr.sureAddr, hb, Addr.add_mid]
  by_cases h8 : f = 8
  · subst h8; simp
  · have h8' : ¬ 8 = f := fun h => h8 h.symm
    simp [h8, h8']
theorem nums8 {w : World} {b : Nat} {e : Ex} (h : XRow w b e) (f : Nat) (hf : f ≤ 8) : Nums .u8 w (some ⟨b, if f = 8 then 1 else 1 + f, none⟩) (8 - f) (8 - f) (e.bs.drop f) := by
  have h8 := h.2.1
  refine ⟨by simp [h8], Nat.le_refl _, by unfold maxLen; omega, (fun h => by cases h), fun hp => ⟨b, _, rfl, h.lt, fun j hj => ?_⟩⟩
  rw [if_neg (by omega), Nat.add_assoc, h.byte (f + j) (by omega)]
  simp [List.getD_eq_getElem?_getD]
theorem tail8 {w : World} {b : Nat} {e : Ex} (h : XRow w b e) (f : Nat) (hf : f ≤ 8) : ∃ o m, (∀ w', (Instr.sliceAt 30 (.pointer (some ⟨b, 1, none⟩)) (some (.int .i64 (f : Int))) none none).run Try.prog w' = .ok (.slice (some ⟨b, o, none⟩) m m) w') ∧ Nums .u8 w (some ⟨b, o, none⟩) m m (e.bs.drop f) :=
  ⟨_, _, cut8_l b 1 f hf, nums8 h f hf⟩
theorem bare_drop {e : Ex} (he : e.ok) (s : Int) (f : Nat) (hf : min (s - e.no * 8).toNat 8 = f) : (!((e.bs.drop f).any fun z => !decide (z = 0))) = bareB e s := by
  rw [Bool.eq_iff_iff, Bool.not_eq_true', List.any_eq_false]
  constructor
  · intro h
    refine bare_of fun k hk hs => ?_
    have hl : k < e.bs.length := by rw [he.1]; exact hk
    have hm : e.bs[k] ∈ e.bs.drop f := by
      refine List.mem_iff_getElem.2 ⟨k - f, by simp; omega, ?_⟩
      rw [List.getElem_drop]; congr 1; omega
    have := h _ hm
    rw [List.getD_eq_getElem?_getD, List.getElem?_eq_getElem hl]
    simpa using this
  · intro h x hx
    obtain ⟨i, hi, rfl⟩ := List.mem_iff_getElem.1 hx
    rw [List.length_drop, he.1] at hi
    have hl : f + i < e.bs.length := by rw [he.1]; omega
    have := bare_at h (f + i) (by omega) (by omega)
    rw [List.getD_eq_getElem?_getD, List.getElem?_eq_getElem hl] at this
    rw [List.getElem_drop]
    simpa using this

set_option maxHeartbeats 1000000 in
theorem bare_any (e : Ex) (s : Int) (w : World) (he : e.ok) (h0 : 0 ≤ e.no) (h1 : e.no < 137438953472) (s0 : 0 ≤ s) (s1 : s ≤ 1099511627776) (z : Bool) (hz : bareB e s = z) : Calls Try.prog 37 #[ev e, .int .i64 s] w (TruthPost z w) := by
  obtain ⟨f, hf⟩ : ∃ f, min (s - e.no * 8).toNat 8 = f := ⟨_, rfl⟩
  have hf8 : f ≤ 8 := by omega
  have HZ := Lib.hid hz; have HF := Lib.hid hf; have HE := Lib.hid he
  have HB := Lib.hid (bare_drop he s f hf)
  have hno : ∃ no, e.no = no := ⟨_, rfl⟩
  obtain ⟨no, hno⟩ := hno
  rw [hno] at h0 h1
  have HN := Lib.hid hno
  clear hz hf he hno
  go_enter Try.func37, Try.ntmps37
  go_wp2_with (refine st_boxx rfl _ rfl e rfl HE.out ?_; intro b w1 hb x1 k1; have X1 := Lib.hid x1; have K1 := Lib.hid k1; have c0 := x1.no; rw [HN.out] at c0; obtain ⟨o', m', HS, hn⟩ := tail8 x1 f hf8; have HU := Lib.hid hn; clear x1 k1 hn)
  refine (ahead_any no s w1 h0 h1 s0 s1 f (by rw [← HN.out]; exact HF.out)).mono ?_
  rintro e' w' ⟨rfl, rfl⟩
  go_wp2_with fail
  obtain ⟨q, hq⟩ : ∃ q, ((e.bs.drop f).any fun z => !decide (z = 0)) = q := ⟨_, rfl⟩
  refine (has_not0 _ _ _ _ _ HU.out q hq).mono ?_
  rintro e' w2 ⟨rfl, k2⟩
  have K2 := Lib.hid (K1.out.trans (k2.mono K1.out.size)); have HQ := Lib.hid hq
  clear k2 hq
  go_wp2
  go_ret
  exact ⟨ret_bool (by rw [← HZ.out, ← HB.out, HQ.out]), K2.out⟩

theorem good_step (s l : Int) (L : List Ex) (j : Nat) (hj : j < L.length) : goodFrom s l (L.drop j) = (decide (l < (L.getD j default).no) && decide ((L.getD j default).no < 137438953472) && bareB (L.getD j default) s && goodFrom s (L.getD j default).no (L.drop (j + 1))) := by
  rw [List.drop_eq_getElem_cons hj, List.getD_eq_getElem?_getD, List.getElem?_eq_getElem hj]; rfl

set_option maxHeartbeats 2000000 in
theorem may_any (s : Int) (A : Option Addr) (n c : Nat) (L : List Ex) (w : World) (h : Exts w A n c L) (z : Bool) (hz : may s L = z) : Calls Try.prog 16 #[ct s A n c] w (TruthPost z w) := by
  have HZ := Lib.hid hz
  have K0 := Lib.hid (show Below w.heap.size w (w.alloc (.cells #[.int .i64 s, .slice A n c] 24)) from (Below.refl _ _).alloc (Nat.le_refl _) _)
  have B0 := Lib.hid (box_new w s A n c)
  have H := Lib.hid h
  have hm := h.max
  clear h hz
  show Calls Try.prog 16 #[.agg #[.int .i64 s, .slice A n c]] w _
  go_enter Try.func16, Try.ntmps16
  by_cases s0 : 0 ≤ s
  · by_cases s1 : s ≤ 1099511627776
    · have HG := Lib.hid (show may s L = goodFrom s (-1) L by simp [may, s0, s1])
      go_wp2
      go_loopw [3, 17] (fun l i wr => ∃ (j : Nat) (l' : Int), j ≤ n ∧ i = .int .i64 j ∧ l = .int .i64 l' ∧ -1 ≤ l' ∧ Hid (may s L = goodFrom s l' (L.drop j)) ∧ Hid (Below w.heap.size w wr) ∧ Hid (Box wr w.heap.size s A n c)) (fun _ i _ => n - (intOf i).toNat)
      case atStart => exact ⟨0, -1, Nat.zero_le _, rfl, rfl, by omega, HG.out, K0.out, B0.out⟩
      case round =>
        obtain ⟨j, l', hj, rfl, rfl, hl', HM, K1, B1⟩ := hrel
        clear K0 B0
        have c0 := B1.out.c0; have c1 := B1.out.c1
        by_cases hlt : j < n
        · obtain ⟨b, o, rfl, hb, hc⟩ := H.out.cells (by omega)
          have HS := Lib.hid (good_step s l' L j (by have := H.out.len; omega))
          have HO := Lib.hid (H.out.get j hlt)
          have R1 := Lib.hid ((H.out.on K1.out).cells (by omega))
          have hji : (j : Int) < (n : Int) := by omega
          have hr : wr.rangeAt b (o + j * 9) (ecl (L.getD j default)) := fun q v hv => (K1.out.cell (p := ⟨b, o + j * 9 + q, none⟩) hb).trans (hc j hlt q v hv)
          have HR := Lib.hid hr
          clear hr hc R1
          generalize L.getD j default = e at *
          obtain ⟨no, hno⟩ : ∃ no, e.no = no := ⟨_, rfl⟩
          have HN := Lib.hid hno
          rw [hno] at HS
          clear hno
          by_cases n0 : l' < no
          · by_cases n1 : no < 137438953472
            · have n2 : ¬ no ≤ l' := by omega
              go_wp2_with (first | (refine st_loadx rfl _ rfl b (o + j * 9) rfl e HR.out HO.out ?_) | (refine st_allocx rfl rfl ?_; intro b1 w1 hb1 x1 k1; have X1 := Lib.hid x1; have K2 := Lib.hid k1; clear x1 k1) | (refine st_storev rfl _ _ rfl b1 rfl e rfl HO.out _ X1.out ?_; intro w2 x2 o2 s2; have X2 := Lib.hid x2; have K3 := Lib.hid (K2.out.trans (o2.below K2.out.size (fun d hd => by omega))); clear x2 o2 s2; have d0 := X2.out.no; rw [HN.out] at d0; have B2 := Lib.hid ((B1.out.on (K3.out.mono (Nat.le_refl _)))); have e0 := B2.out.c0) | (refine st_loadxg (by simp [Region.wanted, yielded]; omega) _ rfl b1 0 rfl e X2.out.range HO.out ?_))
              obtain ⟨z', hz'⟩ : ∃ z', bareB e s = z' := ⟨_, rfl⟩
              have HZ' := Lib.hid hz'
              clear hz'
              refine (bare_any e s w2 HO.out (by rw [HN.out]; omega) (by rw [HN.out]; exact n1) s0 s1 z' HZ'.out).mono ?_
              rintro e' w3 ⟨rfl, k4⟩
              have K4 := Lib.hid (K1.out.trans ((K3.out.trans (k4.mono K3.out.size)).mono K1.out.size))
              have B4 := Lib.hid (B2.out.on k4)
              have X4 := Lib.hid (X2.out.on k4)
              clear k4
              have g0 := X4.out.no
              rw [HN.out] at g0
              cases z' with
              | true =>
                go_wp2
                go_roundw
                case rel => exact ⟨j + 1, no, by omega, by go_num, rfl, by omega, by unfold Hid; rw [HM.out, HS.out, HZ'.out]; simp [n0, n1], K4.out, B4.out⟩
                case measure => simp [intOf]; omega
              | false =>
                have HF := Lib.hid (show may s L = false by rw [HM.out, HS.out, HZ'.out]; simp)
                go_wp2
                go_ret
                exact ⟨ret_bool (by rw [← HZ.out, HF.out]), K4.out⟩
            · have HF := Lib.hid (show may s L = false by rw [HM.out, HS.out]; simp [n1])
              go_wp2_with (first | (refine st_loadx rfl _ rfl b (o + j * 9) rfl e HR.out HO.out ?_) | (refine st_allocx rfl rfl ?_; intro b1 w1 hb1 x1 k1; have X1 := Lib.hid x1; have K2 := Lib.hid k1; clear x1 k1) | (refine st_storev rfl _ _ rfl b1 rfl e rfl HO.out _ X1.out ?_; intro w2 x2 o2 s2; have X2 := Lib.hid x2; have K3 := Lib.hid (K2.out.trans (o2.below K2.out.size (fun d hd => by omega))); clear x2 o2 s2; have d0 := X2.out.no; rw [HN.out] at d0))
              go_ret
              exact ⟨ret_bool (by rw [← HZ.out, HF.out]), K1.out.trans (K3.out.mono K1.out.size)⟩
          · have HF := Lib.hid (show may s L = false by rw [HM.out, HS.out]; simp [n0])
            go_wp2_with (first | (refine st_loadx rfl _ rfl b (o + j * 9) rfl e HR.out HO.out ?_) | (refine st_allocx rfl rfl ?_; intro b1 w1 hb1 x1 k1; have X1 := Lib.hid x1; have K2 := Lib.hid k1; clear x1 k1) | (refine st_storev rfl _ _ rfl b1 rfl e rfl HO.out _ X1.out ?_; intro w2 x2 o2 s2; have X2 := Lib.hid x2; have K3 := Lib.hid (K2.out.trans (o2.below K2.out.size (fun d hd => by omega))); clear x2 o2 s2; have d0 := X2.out.no; rw [HN.out] at d0))
            go_ret
            exact ⟨ret_bool (by rw [← HZ.out, HF.out]), K1.out.trans (K3.out.mono K1.out.size)⟩
        · have hjn : j = n := by omega
          have HT := Lib.hid (show may s L = true by rw [HM.out, List.drop_of_length_le (by rw [H.out.len]; omega)]; rfl)
          go_wp2
          go_ret
          exact ⟨ret_bool (by rw [← HZ.out, HT.out]), K1.out⟩
    · have HF := Lib.hid (show may s L = false by simp [may, s1])
      go_wp2
      go_ret
      exact ⟨ret_bool (by rw [← HZ.out, HF.out]), K0.out⟩
  · have HF := Lib.hid (show may s L = false by simp [may, s0])
    go_wp2
    go_ret
    exact ⟨ret_bool (by rw [← HZ.out, HF.out]), K0.out⟩
end Go.Proofs.Ytigfimlpjmmpoaa
