/- Contracts of extent's without, Truncate, Punch. -/
import Derived.Test.YtigfimlpjmmpoaaWalksF
import Derived.WalkKit
import Derived.WalkSpells
import Derived.WalkLawsBesides
import Derived.Lib.Hide
import Derived.BigQuiet
import Derived.Deep.RegionWith
namespace Go.Proofs.Ytigfimlpjmmpoaa
open Go.RowKit

theorem quiet_mine {P : Program} {f : FuncId} {args : Array Value} {w : World} {n : Nat} {v : Value}
    (h : Calls P f args (w.drewN n) fun e w' => e = .returned v ∧ w.drewN n = w') : Calls P f args (w.drewN n) fun e w'' => e = .returned v ∧ ∃ m, w'' = w.drewN m :=
  h.mono fun _ _ ⟨he, hm⟩ => ⟨he, n, hm.symm⟩
theorem cut8_lh (b o f t : Nat) (hf : f ≤ t) (ht : t ≤ 8) : ∃ o' c', (0 < t - f → o' = o + f) ∧ ∀ w', (Instr.sliceAt 30 (.pointer (some ⟨b, o, none⟩)) (some (.int .i64 (f : Int))) (some (.int .i64 (t : Int))) none).run Try.prog w' = .ok (.slice (some ⟨b, o', none⟩) (t - f) c') w' := by
  refine ⟨if f = 8 then o else o + f, 8 - f, fun h => if_neg (by omega), fun w' => ?_⟩
  simp only [Instr.sliceAt, Sem.run_bind, run_underlying Try.underlying30 w', Result.andThen_ok]
  have hb : (Instr.sliceBounds false 8 8 (some (.int .i64 (f : Int))) (some (.int .i64 (t : Int))) none).run Try.prog w' = .ok (f, t, 8) w' := by
    simp [Instr.sliceBounds, run_sliceBound, show (t : Int) ≤ 8 by omega, hf]
  simp [Instr.sureAddr, hb, Addr.add_mid]
  by_cases h8 : f = 8
  · subst h8; simp
  · have h8' : ¬ 8 = f := fun h => h8 h.symm
    simp [h8, h8']
/-- Bytes of a block made 0. -/
theorem run_clr {w : World} {b : Nat} {e : Ex} (hr : XRow w b e) (f t : Nat) (hf : f ≤ t) (ht : t ≤ 8) (o c : Nat) (ho : 0 < t - f → o = 1 + f) (ty : TypeId) :
    ∃ w', (Builtin.clear_ #[27] ty #[.slice (some ⟨b, o, none⟩) (t - f) c]).run Try.prog w = .ok (.tuple #[]) w' ∧ w'.rangeAt b 0 (ecl ⟨e.no, splice e.bs f (List.replicate (t - f) 0)⟩) ∧ Only (fun d => d = b) w w' := by
  rcases Nat.eq_zero_or_pos (t - f) with h0 | h0
  · refine ⟨w, ?_, ?_, Only.refl _ w⟩
    · rw [h0]
      have hz : ∀ w, (zeroValue 5).run Try.prog w = .ok (.int .u8 0) w := Try.zeroValue5
      simp [Builtin.clear_, run_underlying Try.underlying27]
    · rw [h0]
      have : splice e.bs f (List.replicate 0 (0 : Int)) = e.bs := by simp [splice]
      rw [this]
      exact hr.range
  · have hoo := ho h0
    subst hoo
    have hrun := Lib.run_clear_slice (P := Try.prog) w 27 5 ty (.int .u8 0) Try.underlying27 Try.zeroValue5 rfl rfl b (1 + f) (t - f) c h0
      (fun j hj => by rw [Nat.add_assoc, hr.byte (f + j) (by omega)]; rfl) (fun j hj => hr.free _)
    refine ⟨_, hrun, ?_, only_setCells _ _ _ _⟩
    have hp := (exts_one hr.1 hr.2).put 0 (1 + f) (List.replicate (t - f) (Value.int .u8 0)) ⟨e.no, splice e.bs f (List.replicate (t - f) 0)⟩ (by omega) (by simp; omega)
      (ok_splice hr.2 f _ (by simp; omega) (fun x hx => by rw [List.eq_of_mem_replicate hx]; exact ⟨by decide, by decide⟩)) (by rw [splice_bytes]; simp)
    obtain ⟨b', o', he, _, hc⟩ := hp.cells (by omega)
    injection he with he; injection he with e1 e2; subst e1 e2
    have := hc 0 (by omega)
    simpa using this
theorem st_clear {w : World} {ops : Array Oper} {rest : List Oper} {o : Oper} {a : Act} {Q : Exit → Act → World → Prop} (hgd : o.guard = none) (x : Operand) (hop : o.op = .call { callee := .builtin .clear, args := #[x], argTypes := #[27] })
    (b : Nat) (e : Ex) (hr : XRow w b e) (f t : Nat) (hf : f ≤ t) (ht : t ≤ 8) (o' c : Nat) (ho : 0 < t - f → o' = 1 + f) (hx : a.eval x = .slice (some ⟨b, o', none⟩) (t - f) c)
    (h : ∀ w', w'.rangeAt b 0 (ecl ⟨e.no, splice e.bs f (List.replicate (t - f) 0)⟩) → Only (fun d => d = b) w w' → wpList Try.prog ops Q rest (a.put o.dst (.tuple #[])) w') : wpList Try.prog ops Q (o :: rest) a w := by
  refine wpList_plain hgd fun K hK => ?_
  obtain ⟨w', hrun, q1, q2⟩ := run_clr hr f t hf ht o' c ho o.type
  unfold Oper.wp
  simp [execOp, hop, resolve, invoke, builtin, hx, hrun, Result.andThen]
  exact hK _ _ (h w' q1 q2)

theorem cutx_is {e : Ex} (he : e.ok) (p q : Int) (f t : Nat) (hf : min (p - e.no * 8).toNat 8 = f) (ht : min (q - e.no * 8).toNat 8 = t) (hft : f ≤ t) : cutx e p q = ⟨e.no, splice e.bs f (List.replicate (t - f) 0)⟩ := by
  unfold cutx
  congr 1
  apply List.ext_getElem?
  intro k
  have h8 := he.1
  by_cases hk : k < 8
  · rw [List.getElem?_map, List.getElem?_range hk, Option.map_some]
    unfold splice
    by_cases k1 : k < f
    · rw [if_neg (by omega), List.getElem?_append_left (by simp; omega), List.getElem?_take_of_lt k1, List.getD_eq_getElem?_getD, List.getElem?_eq_getElem (by omega)]; rfl
    · by_cases k2 : k < t
      · rw [if_pos (by omega), List.getElem?_append_right (by simp; omega), List.getElem?_append_left (by simp; omega), List.getElem?_replicate, if_pos (by simp; omega)]
      · rw [if_neg (by omega), List.getElem?_append_right (by simp; omega), List.getElem?_append_right (by simp; omega), List.getElem?_drop, List.getD_eq_getElem?_getD]
        simp only [List.length_take, List.length_replicate]
        rw [show f + (t - f) + (k - min f e.bs.length - (t - f)) = k by omega, List.getElem?_eq_getElem (by omega)]; rfl
  · rw [List.getElem?_eq_none (by simp; omega), List.getElem?_eq_none (by rw [length_splice _ _ _ (by simp; omega)]; omega)]
theorem whole_is (no p q : Int) (f t : Nat) (hf : min (p - no * 8).toNat 8 = f) (ht : min (q - no * 8).toNat 8 = t) : whole no p q = decide ((t : Int) - (f : Int) = 8) := by
  rw [Bool.eq_iff_iff, whole, Bool.and_eq_true, decide_eq_true_eq, decide_eq_true_eq, decide_eq_true_eq]
  omega

set_option maxRecDepth 100000 in
set_option maxHeartbeats 4000000 in
theorem without_any (A : Option Addr) (n c : Nat) (L : List Ex) (p q : Int) (w : World) (h : Exts w A n c L) (hn : n ≤ 1000000) (hr : ∀ e ∈ L, 0 ≤ e.no ∧ e.no < 137438953472) (p0 : 0 ≤ p) (pq : p ≤ q) (q1 : q ≤ 1099511627776) :
    Calls Try.prog 43 #[.slice A n c, .int .i64 p, .int .i64 q] w (ListPost (wo L p q) w) := by
  have H := Lib.hid h
  have hm := h.max
  have HR := Lib.hid hr
  clear h hr
  go_enter Try.func43, Try.ntmps43
  go_wp2
  go_loopw [7, 14] (fun v i wr => ∃ j : Nat, j ≤ n ∧ i = .int .i64 j ∧ Hid (Own w.heap.size wr v (wo (L.take j) p q)) ∧ Hid (Below w.heap.size w wr)) (fun _ i _ => n - (intOf i).toNat)
  case atStart => exact ⟨0, Nat.zero_le _, rfl, own_nil _ _, Below.refl _ _⟩
  case round =>
    obtain ⟨j, hj, rfl, HO, K1⟩ := hrel
    by_cases hlt : j < n
    · obtain ⟨b, o, rfl, hb, hc⟩ := H.out.cells (by omega)
      have HX := Lib.hid (show wr.rangeAt b (o + j * 9) (ecl (L.getD j default)) from fun i v hv => (K1.out.cell (p := ⟨b, o + j * 9 + i, none⟩) hb).trans (hc j hlt i v hv))
      have HE := Lib.hid (H.out.get j hlt)
      have HT := Lib.hid (show wo (L.take (j + 1)) p q = wo (L.take j) p q ++ (if whole (L.getD j default).no p q = true then [] else [cutx (L.getD j default) p q]) by
        rw [← wo_snoc]; congr 1
        have hl : j < L.length := by rw [H.out.len]; exact hlt
        rw [List.take_add_one, List.getD_eq_getElem?_getD, List.getElem?_eq_getElem hl]; rfl)
      have hrg := HR.out (L.getD j default) (by rw [List.getD_eq_getElem?_getD, List.getElem?_eq_getElem (by rw [H.out.len]; exact hlt)]; exact List.getElem_mem _)
      have HL := Lib.hid (show (wo (L.take j) p q).length ≤ j by
        have : (wo (L.take j) p q).length ≤ (L.take j).length := by unfold wo; rw [List.length_map]; exact List.length_filter_le _ _
        rw [List.length_take] at this; omega)
      have hji : (j : Int) < (n : Int) := by omega
      clear hc
      generalize L.getD j default = e at *
      obtain ⟨no, hno⟩ : ∃ no, e.no = no := ⟨_, rfl⟩
      obtain ⟨f, hf⟩ : ∃ f, min (p - no * 8).toNat 8 = f := ⟨_, rfl⟩
      obtain ⟨t, ht⟩ : ∃ t, min (q - no * 8).toNat 8 = t := ⟨_, rfl⟩
      have hft : f ≤ t := by omega
      have ht8 : t ≤ 8 := by omega
      have HW := Lib.hid (whole_is no p q f t hf ht)
      have HC := Lib.hid (show cutx e p q = ⟨e.no, splice e.bs f (List.replicate (t - f) 0)⟩ from cutx_is HE.out p q f t (by rw [hno]; exact hf) (by rw [hno]; exact ht) hft)
      rw [hno] at hrg HT
      obtain ⟨n0, n1⟩ := hrg
      have HN := Lib.hid hno; have HF := Lib.hid hf; have HTt := Lib.hid ht
      clear hno hf ht
      go_wp2_with (first | (refine st_loadx rfl _ rfl b (o + j * 9) rfl e HX.out HE.out ?_) | (refine st_allocx rfl rfl ?_; intro b1 w1 hb1 x1 k1; have X1 := Lib.hid x1; have K2 := Lib.hid k1; clear x1 k1) | (refine st_storev rfl _ _ rfl b1 rfl e rfl HE.out _ X1.out ?_; intro w2 x2 o2 s2; have X2 := Lib.hid x2; have K3 := Lib.hid (K2.out.trans (o2.below K2.out.size (fun d hd => by omega))); clear x2 o2 s2; have d0 := X2.out.no; rw [HN.out] at d0))
      go_quiet (first | (go_at_call 51; with_reducible exact quiet_mine (ahead_any no p _ n0 n1 p0 (by omega) f HF.out)) | (go_at_call 51; with_reducible exact quiet_mine (ahead_any no q _ n0 n1 (by omega) q1 t HTt.out)))
      have X3 := Lib.hid (X2.out.on (below_drewN (Below.refl _ _) nq))
      have K4 := Lib.hid (below_drewN K3.out nq)
      have HB1 := Lib.hid hb1
      have hlb := X3.out.lt
      by_cases g : (t : Int) - (f : Int) = 8
      · have HI := Lib.hid (show wo (L.take (j + 1)) p q = wo (L.take j) p q by rw [HT.out, HW.out]; simp [g])
        go_wp2
        go_roundw
        case rel => exact ⟨j + 1, by omega, by go_num, by have := HO.out.on K4.out; rw [← HI.out] at this; exact this, K1.out.trans (K4.out.mono K1.out.size)⟩
        case measure => simp [intOf]; omega
      · have HI := Lib.hid (show wo (L.take (j + 1)) p q = wo (L.take j) p q ++ [cutx e p q] by rw [HT.out, HW.out]; simp [g])
        obtain ⟨o', c', ho', hsl⟩ := cut8_lh b1 1 f t hft ht8
        have HO' := Lib.hid ho'
        clear ho'
        have hlen := HL.out
        generalize hW3 : w2.drewN nq = w3 at *
        go_wp2_with (first | (refine st_clear rfl _ rfl b1 e X3.out f t hft ht8 o' c' HO'.out rfl ?_; intro w4 r4 o4; have R4 := Lib.hid r4; have K5 := Lib.hid (K4.out.trans (o4.below K4.out.size (fun d hd => by have := HB1.out; omega))); clear r4 o4; rw [← HC.out] at R4) | (refine st_loadx rfl _ rfl b1 0 rfl (cutx e p q) R4.out (cutx_ok HE.out p q) ?_) | (refine st_one rfl _ rfl (cutx e p q) rfl (cutx_ok HE.out p q) ?_; intro b6 w6 hb6 r6 k6; have E6 := Lib.hid (exts_one r6 (cutx_ok HE.out p q)); have K6 := Lib.hid (K5.out.trans (k6.mono K5.out.size)); clear r6 k6) | (at_builtin; refine st_cat rfl _ _ rfl w.heap.size u7 (wo (L.take j) p q) rfl (HO.out.on K6.out) _ _ _ [cutx e p q] rfl E6.out (by omega) (Nat.le_trans K1.out.size K6.out.size) ?_; intro v' w7 q7 k7; have Q7 := Lib.hid q7; have K7 := Lib.hid ((K1.out.trans (K6.out.mono K1.out.size)).trans k7); clear q7 k7))
        go_roundw
        case rel => exact ⟨j + 1, by omega, by go_num, by have := Q7.out; rw [← HI.out] at this; exact this, K7.out⟩
        case measure => simp [intOf]; omega
    · obtain rfl : j = n := by omega
      have HF := Lib.hid (show wo (L.take j) p q = wo L p q by rw [List.take_of_length_le (Nat.le_of_eq H.out.len)])
      go_wp2
      go_ret
      have hO := HO.out
      rw [HF.out] at hO
      obtain ⟨A', c', hv, hmm⟩ := hO.mut
      subst hv
      exact ⟨A', c', rfl, hmm, K1.out⟩

def CtPost (z : Bool) (s : Int) (R : List Ex → Prop) (w : World) (e : Ending) (w' : World) : Prop := ∃ A n c L, e = .returned (.tuple #[ct s A n c, .bool z]) ∧ R L ∧ Exts w' A n c L ∧ Below w.heap.size w w'
/-- The variables of a content and of a result. -/
structure Duo (w W : World) (s : Int) (A : Option Addr) (n c : Nat) : Prop where
  b0 : Box W w.heap.size s A n c
  b1 : Box W (w.heap.size + 1) 0 none 0 0
  below : Below w.heap.size w W
  size : w.heap.size + 2 ≤ W.heap.size
theorem duo_new (w : World) (s : Int) (A : Option Addr) (n c : Nat) : Duo w ((w.alloc (.cells #[.int .i64 s, .slice A n c] 24)).alloc (.cells #[.int .i64 0, .slice none 0 0] 24)) s A n c := by
  refine ⟨(box_new w s A n c).on ((Below.refl _ _).alloc (Nat.le_refl _) _), ?_, ((Below.refl _ _).alloc (Nat.le_refl _) _).alloc (by simp) _, by simp⟩
  have := box_new (w.alloc (.cells #[.int .i64 s, .slice A n c] 24)) 0 none 0 0
  simpa using this
theorem Duo.on {w W W' : World} {s : Int} {A : Option Addr} {n c : Nat} (h : Duo w W s A n c) (k : Below W.heap.size W W') : Duo w W' s A n c :=
  ⟨h.b0.on k, h.b1.on k, h.below.trans (k.mono h.below.size), Nat.le_trans h.size k.size⟩
/-- What is answered is stored in the result's variable. -/
theorem Duo.done {w W : World} {s : Int} {A : Option Addr} {n c : Nat} (h : Duo w W s A n c) (s' : Int) {A' : Option Addr} {n' c' : Nat} {L : List Ex} {B : Nat} (hm : Mut B W A' n' c' L) (hB : w.heap.size + 2 ≤ B) :
    Box ((W.setCell ⟨w.heap.size + 1, 0, none⟩ (.int .i64 s')).setCell ⟨w.heap.size + 1, 1, none⟩ (.slice A' n' c')) (w.heap.size + 1) s' A' n' c' ∧ Exts ((W.setCell ⟨w.heap.size + 1, 0, none⟩ (.int .i64 s')).setCell ⟨w.heap.size + 1, 1, none⟩ (.slice A' n' c')) A' n' c' L ∧ Below w.heap.size w ((W.setCell ⟨w.heap.size + 1, 0, none⟩ (.int .i64 s')).setCell ⟨w.heap.size + 1, 1, none⟩ (.slice A' n' c')) :=
  ⟨h.b1.put _ _ _ _, (hm.only (B' := B) (only_put _ _ _ _) (fun g hg hd => by omega) (Nat.le_refl _)).exts, below_put h.below _ (by omega) _ _⟩
theorem Duo.none {w W : World} {s : Int} {A : Option Addr} {n c : Nat} (h : Duo w W s A n c) :
    Box ((W.setCell ⟨w.heap.size + 1, 0, none⟩ (.int .i64 0)).setCell ⟨w.heap.size + 1, 1, none⟩ (.slice none 0 0)) (w.heap.size + 1) 0 none 0 0 ∧ Exts ((W.setCell ⟨w.heap.size + 1, 0, none⟩ (.int .i64 0)).setCell ⟨w.heap.size + 1, 1, none⟩ (.slice none 0 0)) none 0 0 [] ∧ Below w.heap.size w ((W.setCell ⟨w.heap.size + 1, 0, none⟩ (.int .i64 0)).setCell ⟨w.heap.size + 1, 1, none⟩ (.slice none 0 0)) :=
  ⟨h.b1.put _ _ _ _, exts_nil _, below_put h.below _ (by omega) _ _⟩

set_option maxRecDepth 100000 in
set_option maxHeartbeats 4000000 in
theorem trunc_any (s : Int) (A : Option Addr) (n c : Nat) (L : List Ex) (t : Int) (w : World) (h : Exts w A n c L) (hn : n ≤ 1000000) (z : Bool) (hz : (decide (0 ≤ t) && decide (t ≤ 1099511627776) && may s L) = z) :
    Calls Try.prog 25 #[ct s A n c, .int .i64 t] w (CtPost z (if z = true then t else 0) (fun M => M = if z = true then wo L t 1099511627776 else []) w) := by
  have D0 := Lib.hid (duo_new w s A n c)
  have H := Lib.hid h
  have HZ := Lib.hid hz
  clear h hz
  show Calls Try.prog 25 #[.agg #[.int .i64 s, .slice A n c], .int .i64 t] w _
  go_enter Try.func25, Try.ntmps25
  by_cases t0 : 0 ≤ t
  · by_cases t1 : t ≤ 1099511627776
    · go_wp2_with fail
      obtain ⟨y, hy⟩ : ∃ y, may s L = y := ⟨_, rfl⟩
      have HY := Lib.hid hy
      have HZY := Lib.hid (show y = z by rw [← HZ.out, hy]; simp [t0, t1])
      clear hy
      refine (may_any s A n c L _ (H.out.on D0.out.below) y HY.out).mono ?_
      rintro e w1 ⟨rfl, k1⟩
      have D1 := Lib.hid (D0.out.on k1)
      clear k1 D0
      have c0 := D1.out.b0.c0; have c1 := D1.out.b0.c1; have d0 := D1.out.b1.c0; have d1 := D1.out.b1.c1; have f0 := D1.out.b1.f0; have f1 := D1.out.b1.f1
      have hzy := HZY.out
      subst hzy
      cases y with
      | false =>
        go_wp2
        refine res_box2 rfl (w.heap.size + 1) 0 none 0 0 rfl D1.out.none.1 rfl ?_
        exact ⟨none, 0, 0, [], rfl, rfl, D1.out.none.2.1, D1.out.none.2.2⟩
      | true =>
        have HG := Lib.hid ((may_iff s L).1 HY.out)
        go_wp2_with fail
        refine (without_any A n c L t 1099511627776 w1 (H.out.on D1.out.below) hn HG.out.rng t0 t1 (by omega)).mono ?_
        rintro e w2 ⟨A', c', rfl, hm, k2⟩
        have D2 := Lib.hid (D1.out.on k2)
        have HM := Lib.hid hm
        clear k2 hm c0 c1 d0 d1 f0 f1
        have c0 := D2.out.b0.c0; have c1 := D2.out.b0.c1; have d0 := D2.out.b1.c0; have d1 := D2.out.b1.c1; have f0 := D2.out.b1.f0; have f1 := D2.out.b1.f1
        go_wp2
        have X := D2.out.done t HM.out D1.out.size
        refine res_box2 rfl (w.heap.size + 1) t A' _ c' rfl X.1 rfl ?_
        exact ⟨A', _, c', wo L t 1099511627776, rfl, rfl, X.2.1, X.2.2⟩
    · have HF := Lib.hid (show false = z by rw [← HZ.out]; simp [t1])
      have hzy := HF.out
      subst hzy
      have d0 := D0.out.b1.c0; have d1 := D0.out.b1.c1; have f0 := D0.out.b1.f0; have f1 := D0.out.b1.f1
      go_wp2
      refine res_box2 rfl (w.heap.size + 1) 0 none 0 0 rfl D0.out.b1 rfl ?_
      exact ⟨none, 0, 0, [], rfl, rfl, exts_nil _, D0.out.below⟩
  · have HF := Lib.hid (show false = z by rw [← HZ.out]; simp [t0])
    have hzy := HF.out
    subst hzy
    have d0 := D0.out.b1.c0; have d1 := D0.out.b1.c1; have f0 := D0.out.b1.f0; have f1 := D0.out.b1.f1
    go_wp2
    refine res_box2 rfl (w.heap.size + 1) 0 none 0 0 rfl D0.out.b1 rfl ?_
    exact ⟨none, 0, 0, [], rfl, rfl, exts_nil _, D0.out.below⟩

end Go.Proofs.Ytigfimlpjmmpoaa
