/- Contracts of slices.Equal, extent.Same, the reference's SameContent. / What is read, filled, written, taken, without any Go. / Contracts of slices.Clone, extent's endOf, without, the reference's copyOf. / Contracts of extent's without, Truncate, Punch. / Contract of extent's Punch. / Contract of extent's Read. / Contract of extent's Read. -/
import Derived.Test.YtgaaieipeiekiaaPkB
import Derived.WalkKit
import Derived.WalkSpells
import Derived.WalkLawsBesides
import Derived.Lib.Hide
import Derived.BigQuiet
import Derived.Test.YtgaaieipeiekiaaPkA
import Derived.Deep.RegionLaw
import Derived.Deep.RegionWith
namespace Go.Proofs.Ytgaaieipeiekiaa
open Go.RowKit
set_option maxRecDepth 100000

theorem Exts.nine {w : World} {b o n c : Nat} {L : List Ex} (h : Exts w (some ⟨b, o, none⟩) n c L) (j : Nat) (hj : j < n) : ∃ no b0 b1 b2 b3 b4 b5 b6 b7, L.getD j default = ⟨no, [b0, b1, b2, b3, b4, b5, b6, b7]⟩ ∧ w.cell? ⟨b, o + j * 9, none⟩ = some (.int .i64 no) ∧ w.cell? ⟨b, o + j * 9 + 1, none⟩ = some (.int .u8 b0) ∧ w.cell? ⟨b, o + j * 9 + 2, none⟩ = some (.int .u8 b1) ∧ w.cell? ⟨b, o + j * 9 + 3, none⟩ = some (.int .u8 b2) ∧ w.cell? ⟨b, o + j * 9 + 4, none⟩ = some (.int .u8 b3) ∧ w.cell? ⟨b, o + j * 9 + 5, none⟩ = some (.int .u8 b4) ∧ w.cell? ⟨b, o + j * 9 + 6, none⟩ = some (.int .u8 b5) ∧ w.cell? ⟨b, o + j * 9 + 7, none⟩ = some (.int .u8 b6) ∧ w.cell? ⟨b, o + j * 9 + 8, none⟩ = some (.int .u8 b7) := by
  obtain ⟨b', o', he, _, hc⟩ := h.cells (by omega)
  injection he with he; injection he with e1 e2; subst e1 e2
  have hk := hc j hj
  have ho := h.get j hj
  generalize L.getD j default = e at hk ho
  obtain ⟨no, bs⟩ := e
  match bs, ho.1 with
  | [b0, b1, b2, b3, b4, b5, b6, b7], _ =>
    exact ⟨no, b0, b1, b2, b3, b4, b5, b6, b7, rfl, hk 0 _ rfl, hk 1 _ rfl, hk 2 _ rfl, hk 3 _ rfl, hk 4 _ rfl, hk 5 _ rfl, hk 6 _ rfl, hk 7 _ rfl, hk 8 _ rfl⟩
theorem run_eq9 (w : World) {no x0 x1 x2 x3 x4 x5 x6 x7 mo y0 y1 y2 y3 y4 y5 y6 y7 : Int} (ox : (Ex.mk no [x0, x1, x2, x3, x4, x5, x6, x7]).ok) (oy : (Ex.mk mo [y0, y1, y2, y3, y4, y5, y6, y7]).ok) {q : Bool} (hq : decide (Ex.mk no [x0, x1, x2, x3, x4, x5, x6, x7] = ⟨mo, [y0, y1, y2, y3, y4, y5, y6, y7]⟩) = q) :
    (binOp .neq 71 (.agg #[.int .i64 no, .int .u8 x0, .int .u8 x1, .int .u8 x2, .int .u8 x3, .int .u8 x4, .int .u8 x5, .int .u8 x6, .int .u8 x7]) (.agg #[.int .i64 mo, .int .u8 y0, .int .u8 y1, .int .u8 y2, .int .u8 y3, .int .u8 y4, .int .u8 y5, .int .u8 y6, .int .u8 y7])).run Try.prog w = .ok (.bool (!q)) w := by
  subst hq
  have h := run_eqx w ox oy
  unfold ev ecl at h
  simp only [List.map_cons, List.map_nil] at h
  exact h
theorem take_same {L M : List Ex} {j n : Nat} (hl : L.length = n) (hm : M.length = n) (hj : j < n) (h : L.take j = M.take j) : (L.getD j default = M.getD j default → L.take (j + 1) = M.take (j + 1)) ∧ (L.getD j default ≠ M.getD j default → decide (L = M) = false) := by
  rw [List.take_add_one, List.take_add_one, h, List.getD_eq_getElem?_getD, List.getD_eq_getElem?_getD, List.getElem?_eq_getElem (by omega), List.getElem?_eq_getElem (by omega)]
  refine ⟨fun h => ?_, fun h => ?_⟩
  · simp only [Option.getD_some] at h
    rw [h]
  · rw [decide_eq_false_iff_not]
    rintro rfl
    exact h rfl

set_option maxHeartbeats 4000000 in
theorem equal_any (A : Option Addr) (n c : Nat) (L : List Ex) (A' : Option Addr) (n' c' : Nat) (M : List Ex) (w : World) (h : Exts w A n c L) (h' : Exts w A' n' c' M) (z : Bool) (hz : decide (L = M) = z) :
    Calls Try.prog 27 #[.slice A n c, .slice A' n' c'] w (TruthPost z w) := by
  have hm := h.max; have hm' := h'.max
  have HZ := Lib.hid hz; have H := Lib.hid h; have H' := Lib.hid h'
  clear h h' hz
  go_enter Try.func27, Try.ntmps27
  by_cases hnn : n = n'
  · subst hnn
    go_wp2
    go_loopw [13] (fun i wr => ∃ j : Nat, j ≤ n ∧ i = .int .i64 j ∧ Hid (L.take j = M.take j) ∧ Hid (Below w.heap.size w wr)) (fun i _ => n - (intOf i).toNat)
    case atStart => exact ⟨0, Nat.zero_le _, rfl, by simp [Hid], Below.refl _ _⟩
    case round =>
      obtain ⟨j, hj, rfl, HT, K1⟩ := hrel
      by_cases hlt : j < n
      · obtain ⟨b, o, rfl, hb, _⟩ := H.out.cells (by omega)
        obtain ⟨b', o', rfl, hb', _⟩ := H'.out.cells (by omega)
        have HX := Lib.hid (take_same H.out.len H'.out.len hlt HT.out)
        obtain ⟨no, x0, x1, x2, x3, x4, x5, x6, x7, hx, c0, c1, c2, c3, c4, c5, c6, c7, c8⟩ := (H.out.on K1.out).nine j hlt
        obtain ⟨mo, y0, y1, y2, y3, y4, y5, y6, y7, hy, d0, d1, d2, d3, d4, d5, d6, d7, d8⟩ := (H'.out.on K1.out).nine j hlt
        rw [hx, hy] at HX
        have ox := H.out.get j hlt
        have oy := H'.out.get j hlt
        rw [hx] at ox
        rw [hy] at oy
        have hji : (j : Int) < (n : Int) := by omega
        obtain ⟨q, hq⟩ : ∃ q, decide (Ex.mk no [x0, x1, x2, x3, x4, x5, x6, x7] = ⟨mo, [y0, y1, y2, y3, y4, y5, y6, y7]⟩) = q := ⟨_, rfl⟩
        have HE : ∀ w', (binOp .neq 71 (.agg #[.int .i64 no, .int .u8 x0, .int .u8 x1, .int .u8 x2, .int .u8 x3, .int .u8 x4, .int .u8 x5, .int .u8 x6, .int .u8 x7]) (.agg #[.int .i64 mo, .int .u8 y0, .int .u8 y1, .int .u8 y2, .int .u8 y3, .int .u8 y4, .int .u8 y5, .int .u8 y6, .int .u8 y7])).run Try.prog w' = .ok (.bool (!q)) w' := fun w' => run_eq9 w' ox oy hq
        have HQ := Lib.hid hq
        clear hq ox oy hx hy
        cases q with
        | true =>
          go_wp2
          go_quiet (fail)
          go_wp2
          go_roundw
          case rel => exact ⟨j + 1, by omega, by go_num, HX.out.1 (of_decide_eq_true HQ.out), below_drewN K1.out _⟩
          case measure => simp [intOf]; omega
        | false =>
          go_wp2
          go_quiet (fail)
          go_wp2
          go_ret
          exact ⟨ret_bool (by rw [← HZ.out, HX.out.2 (of_decide_eq_false HQ.out)]), below_drewN K1.out _⟩
      · obtain rfl : j = n := by omega
        have HE := Lib.hid (show decide (L = M) = true by
          have h1 := HT.out
          rw [List.take_of_length_le (Nat.le_of_eq H.out.len), List.take_of_length_le (Nat.le_of_eq H'.out.len)] at h1
          exact decide_eq_true h1)
        go_wp2
        go_ret
        exact ⟨ret_bool (by rw [← HZ.out, HE.out]), K1.out⟩
  · have HE := Lib.hid (show decide (L = M) = false by
      rw [decide_eq_false_iff_not]
      rintro rfl
      exact hnn (H.out.len.symm.trans H'.out.len))
    have hnn' : ¬ (n : Int) = (n' : Int) := by omega
    go_wp2
    go_ret
    exact ⟨ret_bool (by rw [← HZ.out, HE.out]), Below.refl _ _⟩

set_option maxHeartbeats 2000000 in
theorem same_any (s : Int) (A : Option Addr) (n c : Nat) (L : List Ex) (s' : Int) (A' : Option Addr) (n' c' : Nat) (M : List Ex) (w : World) (h : Exts w A n c L) (h' : Exts w A' n' c' M) (z : Bool) (hz : (decide (s = s') && decide (L = M)) = z) :
    Calls Try.prog 14 #[ct s A n c, ct s' A' n' c'] w (TruthPost z w) := by
  have HZ := Lib.hid hz
  have K0 := Lib.hid (show Below w.heap.size w ((w.alloc (.cells #[.int .i64 s, .slice A n c] 34)).alloc (.cells #[.int .i64 s', .slice A' n' c'] 34)) from ((Below.refl _ _).alloc (Nat.le_refl _) _).alloc (by simp) _)
  have H := Lib.hid (h.on K0.out); have H' := Lib.hid (h'.on K0.out)
  clear h h' hz
  show Calls Try.prog 14 #[.agg #[.int .i64 s, .slice A n c], .agg #[.int .i64 s', .slice A' n' c']] w _
  go_enter Try.func14, Try.ntmps14
  by_cases hs : s = s'
  · subst hs
    obtain ⟨q, hq⟩ : ∃ q, decide (L = M) = q := ⟨_, rfl⟩
    have HQ := Lib.hid hq
    clear hq
    go_wp2_with (go_at_call 27; refine (equal_any A n c L A' n' c' M _ H.out H'.out q HQ.out).mono ?_; rintro e w2 ⟨rfl, k2⟩; have K2 := Lib.hid (K0.out.trans (k2.mono K0.out.size)); clear k2)
    go_ret
    exact ⟨ret_bool (by rw [← HZ.out, HQ.out]; simp), K2.out⟩
  · go_wp2
    go_ret
    exact ⟨ret_bool (by rw [← HZ.out]; simp [hs]), K0.out⟩

end Go.Proofs.Ytgaaieipeiekiaa

namespace Go.Proofs.Ytgaaieipeiekiaa

/-- How many bytes are read. -/
def rlen (s : Int) (L : List Ex) (p n : Int) : Nat := if may s L = true ∧ 0 ≤ p ∧ 0 ≤ n ∧ n ≤ 4096 then (min n (s - p)).toNat else 0
def red (L : List Ex) (p : Int) (m : Nat) : List Int := (List.range m).map fun (i : Nat) => at_ L (p + (i : Int))
def rd (s : Int) (L : List Ex) (p n : Int) : List Int := red L p (rlen s L p n)
theorem red_len (L : List Ex) (p : Int) (m : Nat) : (red L p m).length = m := by simp [red]
theorem red_succ (L : List Ex) (p : Int) (m : Nat) : red L p (m + 1) = red L p m ++ [at_ L (p + (m : Int))] := by simp [red, List.range_succ]
theorem red_get (L : List Ex) (p : Int) (m i : Nat) (h : i < m) : (red L p m)[i]? = some (at_ L (p + (i : Int))) := by simp [red, h]

/-- Blocks first to last are there. -/
def flook (L : List Ex) (f l : Int) (k : Int) : Option (List Int) := if f ≤ k ∧ k ≤ l then some ((look L k).getD nul8) else look L k
/-- b stands from p on. -/
def wbytes (L : List Ex) (p : Int) (b : List Int) (k : Int) : List Int := (List.range 8).map fun (i : Nat) => if p ≤ k * 8 + (i : Int) ∧ k * 8 + (i : Int) < p + (b.length : Int) then b.getD (k * 8 + (i : Int) - p).toNat 0 else at_ L (k * 8 + (i : Int))
def wlook (L : List Ex) (p : Int) (b : List Int) (k : Int) : Option (List Int) := if p / 8 ≤ k ∧ k ≤ (p + (b.length : Int) - 1) / 8 then some (wbytes L p b k) else look L k

theorem nul8_get (i : Nat) : nul8.getD i 0 = 0 := by
  match i with
  | 0 | 1 | 2 | 3 | 4 | 5 | 6 | 7 => rfl
  | i + 8 => rfl
theorem flook_at {L M : List Ex} {f l : Int} (h : ∀ k, look M k = flook L f l k) (p : Int) : at_ M p = at_ L p := by
  unfold at_
  rw [h, flook]
  by_cases hr : f ≤ p / 8 ∧ p / 8 ≤ l
  · rw [if_pos hr]
    cases look L (p / 8) with
    | none => exact nul8_get _
    | some bs => rfl
  · rw [if_neg hr]
theorem wbytes_get (L : List Ex) (p : Int) (b : List Int) (k : Int) (i : Nat) (h : i < 8) : (wbytes L p b k).getD i 0 = if p ≤ k * 8 + (i : Int) ∧ k * 8 + (i : Int) < p + (b.length : Int) then b.getD (k * 8 + (i : Int) - p).toNat 0 else at_ L (k * 8 + (i : Int)) := by
  simp [wbytes, List.getD_eq_getElem?_getD, List.getElem?_range h]
theorem wlook_at {L M : List Ex} {p : Int} {b : List Int} (h : ∀ k, look M k = wlook L p b k) (t : Int) : at_ M t = if p ≤ t ∧ t < p + (b.length : Int) then b.getD (t - p).toNat 0 else at_ L t := by
  have he : t / 8 * 8 + ((t % 8).toNat : Int) = t := by omega
  unfold at_
  rw [h, wlook]
  by_cases hr : p / 8 ≤ t / 8 ∧ t / 8 ≤ (p + (b.length : Int) - 1) / 8
  · rw [if_pos hr]
    show (wbytes L p b (t / 8)).getD (t % 8).toNat 0 = _
    rw [wbytes_get _ _ _ _ _ (by omega), he]
    rfl
  · rw [if_neg hr, if_neg (fun hh => hr (by omega))]
theorem good_flook {s s' : Int} {L M : List Ex} {f l : Int} (hg : Good s L) (hM : Up M) (h : ∀ k, look M k = flook L f l k) (h0 : s ≤ s') (h1 : s' ≤ 1099511627776) (hf : 0 ≤ f) (hl : l < 137438953472) : Good s' M := by
  have hs0 := hg.s0
  refine good_of (by omega) h1 hM fun k bs hk => ?_
  rw [h, flook] at hk
  split at hk
  · rename_i hr
    injection hk with hk
    refine ⟨by omega, by omega, fun i hi hs => ?_⟩
    cases hx : look L k with
    | none => rw [hx] at hk; rw [← hk]; exact nul8_get i
    | some ds => rw [hx] at hk; rw [← hk]; exact (hg.look hx).2.2 i hi (by omega)
  · have := hg.look hk
    exact ⟨this.1, this.2.1, fun i hi hs => this.2.2 i hi (by omega)⟩
theorem good_wlook {s s' : Int} {L M : List Ex} {p : Int} {b : List Int} (hg : Good s L) (hM : Up M) (h : ∀ k, look M k = wlook L p b k) (h0 : s ≤ s') (h1 : s' ≤ 1099511627776) (hp : 0 ≤ p) (he : p + (b.length : Int) ≤ s') : Good s' M := by
  have hs0 := hg.s0
  refine good_of (by omega) h1 hM fun k bs hk => ?_
  rw [h, wlook] at hk
  split at hk
  · rename_i hr
    injection hk with hk
    refine ⟨by omega, by omega, fun i hi hs => ?_⟩
    rw [← hk, wbytes_get _ _ _ _ _ hi, if_neg (by omega)]
    exact hg.behind (by omega)
  · have := hg.look hk
    exact ⟨this.1, this.2.1, fun i hi hs => this.2.2 i hi (by omega)⟩

/-- Bytes of a block that lie from p on ahead of q are 0. -/
def cutx (e : Ex) (p q : Int) : Ex := ⟨e.no, (List.range 8).map fun (k : Nat) => if p ≤ e.no * 8 + (k : Int) ∧ e.no * 8 + (k : Int) < q then 0 else e.bs.getD k 0⟩
def whole (k p q : Int) : Bool := decide (p ≤ k * 8) && decide (k * 8 + 8 ≤ q)
def wo (L : List Ex) (p q : Int) : List Ex := (L.filter fun e => !whole e.no p q).map fun e => cutx e p q
theorem cutx_ok {e : Ex} (h : e.ok) (p q : Int) : (cutx e p q).ok := by
  refine ⟨by simp [cutx], fun x hx => ?_⟩
  simp [cutx] at hx
  obtain ⟨k, _, rfl⟩ := hx
  split
  · exact ⟨by decide, by decide⟩
  · have := Ex.at_ok h k
    simpa using this
theorem cutx_get (e : Ex) (p q : Int) (k : Nat) (h : k < 8) : (cutx e p q).bs.getD k 0 = if p ≤ e.no * 8 + (k : Int) ∧ e.no * 8 + (k : Int) < q then 0 else e.bs.getD k 0 := by
  simp [cutx, List.getD_eq_getElem?_getD, List.getElem?_range h]
theorem wo_snoc (L : List Ex) (p q : Int) (e : Ex) : wo (L ++ [e]) p q = wo L p q ++ (if whole e.no p q = true then [] else [cutx e p q]) := by
  simp only [wo, List.filter_append, List.map_append]
  cases h : whole e.no p q <;> simp [h]
theorem up_wo {L : List Ex} (hu : Up L) (p q : Int) : Up (wo L p q) := by
  unfold wo Up
  rw [List.pairwise_map]
  exact (hu.sublist List.filter_sublist).imp (fun h => h)
theorem look_wo (L : List Ex) (p q k : Int) : look (wo L p q) k = if whole k p q = true then none else (look L k).map (fun bs => (cutx ⟨k, bs⟩ p q).bs) := by
  induction L with
  | nil => simp [wo, look]
  | cons e r ih =>
    by_cases hw : whole e.no p q = true
    · have e1 : wo (e :: r) p q = wo r p q := by simp [wo, hw]
      rw [e1, ih, look]
      by_cases hk : e.no = k
      · subst hk; rw [if_pos hw, if_pos hw]
      · rw [if_neg hk]
    · have e1 : wo (e :: r) p q = cutx e p q :: wo r p q := by simp [wo, hw]
      rw [e1, look, look, ih]
      by_cases hk : e.no = k
      · subst hk
        rw [if_pos (show (cutx e p q).no = e.no from rfl), if_neg hw, if_pos rfl]
        rfl
      · rw [if_neg (show ¬ (cutx e p q).no = k from hk), if_neg hk]
theorem at_wo (L : List Ex) (p q t : Int) : at_ (wo L p q) t = if p ≤ t ∧ t < q then 0 else at_ L t := by
  have he : t / 8 * 8 + ((t % 8).toNat : Int) = t := by omega
  rw [at_, look_wo]
  by_cases hw : whole (t / 8) p q = true
  · rw [if_pos hw]
    simp only [whole, Bool.and_eq_true, decide_eq_true_eq] at hw
    rw [if_pos (by omega)]
  · rw [if_neg hw, at_]
    cases hl : look L (t / 8) with
    | none => simp
    | some bs =>
      show (cutx ⟨t / 8, bs⟩ p q).bs.getD (t % 8).toNat 0 = _
      rw [cutx_get _ _ _ _ (by omega)]
      simp only [he]
theorem good_wo {s s' : Int} {L : List Ex} (hg : Good s L) (p q : Int) (h0 : 0 ≤ s') (h1 : s' ≤ 1099511627776) (h : ∀ t, s' ≤ t → t < 1099511627776 → s ≤ t ∨ (p ≤ t ∧ t < q)) : Good s' (wo L p q) := by
  refine good_of h0 h1 (up_wo hg.up p q) fun k bs hk => ?_
  rw [look_wo] at hk
  split at hk
  · cases hk
  · cases hl : look L k with
    | none => rw [hl] at hk; cases hk
    | some ds =>
      rw [hl] at hk
      injection hk with hk
      have hx := hg.look hl
      refine ⟨hx.1, hx.2.1, fun i hi hs => ?_⟩
      rw [← hk, cutx_get _ _ _ _ hi]
      split
      · rfl
      · rename_i hn
        rcases h (k * 8 + (i : Int)) hs (by omega) with h | h
        · exact hx.2.2 i hi h
        · exact absurd h hn
end Go.Proofs.Ytgaaieipeiekiaa

namespace Go.Proofs.Ytgaaieipeiekiaa
open Go.RowKit
set_option maxRecDepth 100000

/-- A slice of blocks that may be written. -/
structure Mut (B : Nat) (w : World) (A : Option Addr) (n c : Nat) (L : List Ex) : Prop where
  exts : Exts w A n c L
  own : ∀ g o, A = some ⟨g, o, none⟩ → B ≤ g ∧ g < w.heap.size ∧ ∀ j, w.frozen? ⟨g, j, none⟩ = false
theorem mut_nil (B : Nat) (w : World) : Mut B w none 0 0 [] := ⟨exts_nil w, fun g o h => by cases h⟩
theorem Mut.on {B : Nat} {w w' : World} {A : Option Addr} {n c : Nat} {L : List Ex} (h : Mut B w A n c L) (k : Below w.heap.size w w') : Mut B w' A n c L :=
  ⟨h.exts.on k, fun g o he => by
    obtain ⟨h1, h2, h3⟩ := h.own g o he
    exact ⟨h1, Nat.lt_of_lt_of_le h2 k.size, fun j => by rw [World.frozen?_of_block (w := w) (k.block g h2)]; exact h3 j⟩⟩
theorem Mut.only {B B' : Nat} {S : Nat → Prop} {w w' : World} {A : Option Addr} {n c : Nat} {L : List Ex} (h : Mut B w A n c L) (k : Only S w w') (hS : ∀ g, B ≤ g → ¬ S g) (hB : B' ≤ B) : Mut B' w' A n c L :=
  ⟨h.exts.only k (fun g o he _ => hS g (h.own g o he).1), fun g o he => by
    obtain ⟨h1, h2, h3⟩ := h.own g o he
    exact ⟨Nat.le_trans hB h1, Nat.lt_of_lt_of_le h2 k.size, fun j => by rw [World.frozen?_of_block (w := w) (k.block g h2 (hS g h1))]; exact h3 j⟩⟩
theorem only_put (w : World) (b : Nat) (x y : Value) : Only (fun d => d = b) w ((w.setCell ⟨b, 0, none⟩ x).setCell ⟨b, 1, none⟩ y) :=
  ((Only.refl (fun d => d = b) w).setCell ⟨b, 0, none⟩ (fun _ => rfl) x).setCell ⟨b, 1, none⟩ (fun _ => rfl) y
theorem Own.mut {B : Nat} {w : World} {v : Value} {L : List Ex} (h : Own B w v L) : ∃ A c, v = .slice A L.length c ∧ Mut B w A L.length c L := by
  obtain ⟨A, c, hv, he, hf⟩ := h.exts
  refine ⟨A, c, hv, he, fun g o ha => ?_⟩
  obtain ⟨h1, _, h3⟩ := hf g o ha
  refine ⟨h1, ?_, h3⟩
  have := h.row.lt g (by rw [hv, ha]; rfl)
  exact this.2
theorem Own.size {B : Nat} {w w' : World} {v : Value} {r : Option Nat} (hg : w.grownBy w' r) (hB : B ≤ w.heap.size) (hl : ∀ k, v.ownBlock = some k → B ≤ k ∧ k < w.heap.size) (hr : r = v.ownBlock) : Below B w w' :=
  ⟨hg.os, hg.tape, hg.output, hg.size, fun k hk => hg.block k (by omega) (fun he => by rw [hr] at he; have := hl k he.symm; omega)⟩
theorem own_new (w : World) : Own w.heap.size (w.alloc (.cells #[] 71)) (.slice (some ⟨w.heap.size, 0, none⟩) 0 0) [] :=
  ⟨World.ownsRow_made w #[] 0 (Nat.le_refl _) (Nat.zero_le _) rfl, by simp⟩

theorem run_join {w : World} {B : Nat} {v : Value} {L : List Ex} (hown : Own B w v L) {A : Option Addr} {n c : Nat} {M : List Ex} (hr : Exts w A n c M) (hl : L.length + n ≤ 1000000) (hB : B ≤ w.heap.size) (ty : TypeId) :
    ∃ v' w', (Builtin.append_ #[32, 32] ty #[v, .slice A n c]).run Try.prog w = .ok v' w' ∧ Own B w' v' (L ++ M) ∧ Below B w w' := by
  obtain ⟨i0, hi, hz0, hz1, hz2⟩ := info_parts info32
  cases A with
  | none =>
    obtain ⟨rfl, rfl⟩ := hr.nil rfl
    obtain rfl : M = [] := List.eq_nil_of_length_eq_zero hr.len
    exact ⟨v, w, run_append_owned_none (P := Try.prog) (w := w) B 32 ty 71 i0 9 Try.underlying32 hi v L.length (exCells L) hown.row, by rw [List.append_nil]; exact hown, Below.refl _ _⟩
  | some ad =>
    obtain ⟨v', w', hrun, h1, h2, _⟩ := run_append_own (P := Try.prog) (w := w) B 32 ty 71 i0 _ 9 16 Try.underlying32 hi hz0 hz1 hz2 (ecl_size (ok_nul 0)) (by decide) v L.length (exCells L) hown.row ad n c (exCells M) (by rw [exCells_len M hr.ok, hr.len]) (hr.src ad rfl) (exCells_ones M) (by unfold maxLen; omega) (by omega) hB
    refine ⟨v', w', hrun, ⟨by rw [List.length_append, exCells_append, hr.len]; exact h1, fun x hx => ?_⟩, Own.size h2 hB hown.row.lt rfl⟩
    rcases List.mem_append.1 hx with hx | hx
    · exact hown.ok x hx
    · exact hr.ok x hx
theorem step_join {w : World} {ops : Array Oper} {o : Oper} {a : Act} {K : Act → World → Prop} {Q : Exit → Act → World → Prop} {E : Prop} (hgd : o.guard = none) (s x : Operand)
    (ho : o.op = .call { callee := .builtin .append, args := #[s, x], argTypes := #[32, 32] }) (B : Nat) (v : Value) (L : List Ex) (hs : a.eval s = v) (hown : Own B w v L) (A : Option Addr) (n c : Nat) (M : List Ex) (hx : a.eval x = .slice A n c) (hr : Exts w A n c M) (hl : L.length + n ≤ 1000000) (hB : B ≤ w.heap.size)
    (h : ∀ v' w', Own B w' v' (L ++ M) → Below B w w' → K (a.put o.dst v') w') : if Region.wanted o (yielded ops a.tmps) = true then Oper.wp Try.prog o a w K Q else E := by
  have hw : Region.wanted o (yielded ops a.tmps) = true := by simp [Region.wanted, hgd]
  rw [if_pos hw]
  obtain ⟨v', w', hrun, q1, q2⟩ := run_join hown hr hl hB o.type
  unfold Oper.wp
  simp [execOp, ho, resolve, invoke, builtin, hs, hx, hrun, Result.andThen]
  exact h v' w' q1 q2
/-- .. at the list of a plain region's operations. -/
theorem st_cat {w : World} {ops : Array Oper} {rest : List Oper} {o : Oper} {a : Act} {Q : Exit → Act → World → Prop} (hgd : o.guard = none) (s x : Operand)
    (ho : o.op = .call { callee := .builtin .append, args := #[s, x], argTypes := #[32, 32] }) (B : Nat) (v : Value) (L : List Ex) (hs : a.eval s = v) (hown : Own B w v L) (A : Option Addr) (n c : Nat) (M : List Ex) (hx : a.eval x = .slice A n c) (hr : Exts w A n c M) (hl : L.length + n ≤ 1000000) (hB : B ≤ w.heap.size)
    (h : ∀ v' w', Own B w' v' (L ++ M) → Below B w w' → wpList Try.prog ops Q rest (a.put o.dst v') w') : wpList Try.prog ops Q (o :: rest) a w := by
  refine wpList_plain hgd fun K hK => ?_
  obtain ⟨v', w', hrun, q1, q2⟩ := run_join hown hr hl hB o.type
  unfold Oper.wp
  simp [execOp, ho, resolve, invoke, builtin, hs, hx, hrun, Result.andThen]
  exact hK _ _ (h v' w' q1 q2)
theorem exts_one {w : World} {b : Nat} {e : Ex} (h : Row w b 71 (ecl e).toArray) (hk : e.ok) : Exts w (some ⟨b, 0, none⟩) 1 1 [e] := by
  refine ⟨rfl, by simpa using hk, Nat.le_refl _, by unfold maxLen; omega, (fun h => by cases h), fun _ => ⟨b, 0, rfl, h.lt, fun j hj q v hv => ?_⟩⟩
  obtain rfl : j = 0 := by omega
  rw [show 0 + 0 * 9 + q = q by omega, h.at]
  simpa using hv

def ListPost (L : List Ex) (w : World) (e : Ending) (w' : World) : Prop := ∃ A c, e = .returned (.slice A L.length c) ∧ Mut w.heap.size w' A L.length c L ∧ Below w.heap.size w w'

set_option maxHeartbeats 400000 in
theorem clone_any (A : Option Addr) (n c : Nat) (L : List Ex) (w : World) (h : Exts w A n c L) (hn : n ≤ 1000000) : Calls Try.prog 45 #[.slice A n c] w (ListPost L w) := by
  have H := Lib.hid h
  cases A with
  | none =>
    obtain ⟨rfl, rfl⟩ := h.nil rfl
    obtain rfl : L = [] := List.eq_nil_of_length_eq_zero h.len
    clear h
    have hnil : ∀ w' : World, (binOp .eql 32 (.slice none 0 0) (.slice none 0 0)).run Try.prog w' = .ok (.bool true) w' := fun w' => Lib.run_eql_slice_nil w' 32 71 none 0 0 0 0 Try.underlying32
    go_enter Try.func45, Try.ntmps45
    go_wp2
    go_ret
    exact ⟨none, 0, rfl, ⟨H.out, fun g o h => by cases h⟩, Below.refl _ _⟩
  | some ad =>
    have HE := Lib.hid (H.out.on ((Below.refl w.heap.size w).alloc (Nat.le_refl _) (.cells #[] 71)))
    clear h
    have hnil : ∀ w' : World, (binOp .eql 32 (.slice (some ad) n c) (.slice none 0 0)).run Try.prog w' = .ok (.bool false) w' := fun w' => Lib.run_eql_slice_nil w' 32 71 (some ad) n c 0 0 Try.underlying32
    go_enter Try.func45, Try.ntmps45
    go_wp2_with (at_builtin; refine st_cat rfl _ _ rfl w.heap.size _ [] rfl (own_new w) _ _ _ L rfl HE.out (by simpa using hn) (by simp) ?_; intro v' w1 q1 q2; have Q1 := Lib.hid q1; have Q2 := Lib.hid q2; clear q1 q2)
    go_ret
    obtain ⟨A', c', rfl, hm⟩ := Q1.out.mut
    exact ⟨A', c', rfl, hm, ((Below.refl w.heap.size w).alloc (Nat.le_refl _) _).trans Q2.out⟩

/-- The result lies in a variable. -/
theorem res_box1 {fn : Func} {p : Tmp} (h : fn.results = #[.cell p 34]) {R : Ending → World → Prop} {a : Act} {w : World} (b : Nat) (s : Int) (A : Option Addr) (n c : Nat)
    (hp : a.tmps.getD p undef = .pointer (some ⟨b, 0, none⟩)) (hb : Box w b s A n c) (hdf : a.defers = []) (hR : R (.returned (ct s A n c)) w) : bodyPost Try.prog fn R .ret a w :=
  bodyPost_ret (results_cell_row h a.tmps w b 34 #[.int .i64 s, .slice A n c] (0, 0) _ hp hb Try.underlying34 rfl (by show _ = some 2; kernel_rfl)) hdf hR
theorem load24 {w : World} {b : Nat} {s : Int} {A : Option Addr} {n c : Nat} (h : Box w b s A n c) : (loadVar 34 ⟨b, 0, none⟩).run Try.prog w = .ok (ct s A n c) w :=
  run_loadVar_row (P := Try.prog) w b 34 34 _ (0, 0) _ h Try.underlying34 rfl (by show _ = some 2; kernel_rfl)
theorem res_box2 {fn : Func} {p u : Tmp} (h : fn.results = #[.cell p 34, .tmp u]) {R : Ending → World → Prop} {a : Act} {w : World} (b : Nat) (s : Int) (A : Option Addr) (n c : Nat)
    (hp : a.tmps.getD p undef = .pointer (some ⟨b, 0, none⟩)) (hb : Box w b s A n c) (hdf : a.defers = []) (hR : R (.returned (.tuple #[ct s A n c, a.tmps.getD u undef])) w) : bodyPost Try.prog fn R .ret a w :=
  bodyPost_ret (by rw [results_cell_tmp h, hp]; simp [asAddr, Result.andThen, load24 hb]) hdf hR
theorem Box.put {w : World} {b : Nat} {s : Int} {A : Option Addr} {n c : Nat} (h : Box w b s A n c) (s' : Int) (A' : Option Addr) (n' c' : Nat) : Box ((w.setCell ⟨b, 0, none⟩ (.int .i64 s')).setCell ⟨b, 1, none⟩ (.slice A' n' c')) b s' A' n' c' := by
  have := (Row.setv h 0 (.int .i64 s')).setv 1 (.slice A' n' c')
  exact this
theorem below_put {B : Nat} {w w' : World} (h : Below B w w') (b : Nat) (hb : B ≤ b) (x y : Value) : Below B w ((w'.setCell ⟨b, 0, none⟩ x).setCell ⟨b, 1, none⟩ y) := below_set2 h hb x y

/-- What endOf says. -/
def eo (p n : Int) : Option Int := if Plain.spanB p n = true ∧ p + n ≤ 1099511627776 then some (p + n) else none
theorem eo_some {p n t : Int} (h : eo p n = some t) : 0 ≤ p ∧ 0 ≤ n ∧ t = p + n ∧ t ≤ 1099511627776 := by
  unfold eo at h
  split at h
  · rename_i hh
    injection h with h
    have := (Plain.span_iff p n).1 hh.1
    omega
  · cases h
theorem eo_none {p n : Int} (h : eo p n = none) : ¬ (0 ≤ p ∧ 0 ≤ n ∧ p + n ≤ 1099511627776) := by
  unfold eo at h
  split at h
  · cases h
  · rename_i hh
    intro hx
    exact hh ⟨(Plain.span_iff p n).2 (by omega), hx.2.2⟩

set_option maxHeartbeats 1000000 in
theorem end_any (p n : Int) (w : World) (d : Option Int) (hd : eo p n = d) : Calls Try.prog 88 #[.int .i64 p, .int .i64 n] w fun e w' => e = .returned (.tuple #[.int .i64 (d.getD 0), .bool d.isSome]) ∧ Below w.heap.size w w' := by
  have HD := Lib.hid hd
  have HV := Lib.hid (show Plain.addV [p, n] = if Plain.spanB p n = true then p + n else 0 by
    rw [Plain.addV, Plain.addFrom_two]
    by_cases h : Plain.spanB p n = true
    · rw [if_pos h, if_pos (by have := (Plain.span_iff p n).1 h; omega)]; rfl
    · rw [if_neg h, if_neg (fun hh => h ((Plain.span_iff p n).2 (by omega)))]; rfl)
  have HO := Lib.hid (Plain.addOk_two p n)
  have K0 := Lib.hid (show Below w.heap.size w (w.alloc (.cells #[.int .i64 p, .int .i64 n] 3)) from (Below.refl _ _).alloc (Nat.le_refl _) _)
  clear hd
  obtain ⟨v, hv⟩ : ∃ v, Plain.addV [p, n] = v := ⟨_, rfl⟩
  obtain ⟨z, hz⟩ : ∃ z, Plain.addOk [p, n] = z := ⟨_, rfl⟩
  rw [hv] at HV
  rw [hz] at HO
  have HVv := Lib.hid hv; have HZz := Lib.hid hz
  clear hv hz
  go_enter Try.func88, Try.ntmps88
  go_wp2_with fail
  refine (add_any _ _ _ [p, n] _ (by decide) (ints_two_at _ _ _ _ _ (by simp))).mono ?_
  rintro e w1 ⟨rfl, rfl⟩
  rw [HVv.out, HZz.out]
  cases z with
  | false =>
    have HF := Lib.hid (show d = none by rw [← HD.out, eo, if_neg (fun h => by have := h.1; rw [← HO.out] at this; cases this)])
    go_wp2
    go_ret2
    exact ⟨by rw [HF.out]; rfl, K0.out⟩
  | true =>
    have hsp := HO.out.symm
    have HX := Lib.hid (show v = p + n by rw [HV.out, if_pos hsp])
    by_cases ht : v ≤ 1099511627776
    · have HF := Lib.hid (show d = some v by rw [← HD.out, HX.out, eo, if_pos ⟨hsp, by rw [← HX.out]; exact ht⟩])
      clear hsp
      go_wp2
      go_ret2
      exact ⟨by rw [HF.out]; rfl, K0.out⟩
    · have HF := Lib.hid (show d = none by rw [← HD.out, eo, if_neg (fun h => ht (by rw [HX.out]; exact h.2))])
      clear hsp
      go_wp2
      go_ret2
      exact ⟨by rw [HF.out]; rfl, K0.out⟩
end Go.Proofs.Ytgaaieipeiekiaa

namespace Go.Proofs.Ytgaaieipeiekiaa
open Go.RowKit
set_option maxRecDepth 100000

theorem quiet_mine {P : Program} {f : FuncId} {args : Array Value} {w : World} {n : Nat} {v : Value}
    (h : Calls P f args (w.drewN n) fun e w' => e = .returned v ∧ w.drewN n = w') : Calls P f args (w.drewN n) fun e w'' => e = .returned v ∧ ∃ m, w'' = w.drewN m :=
  h.mono fun _ _ ⟨he, hm⟩ => ⟨he, n, hm.symm⟩
theorem cut8_lh (b o f t : Nat) (hf : f ≤ t) (ht : t ≤ 8) : ∃ o' c', (0 < t - f → o' = o + f) ∧ ∀ w', (Instr.sliceAt 69 (.pointer (some ⟨b, o, none⟩)) (some (.int .i64 (f : Int))) (some (.int .i64 (t : Int))) none).run Try.prog w' = .ok (.slice (some ⟨b, o', none⟩) (t - f) c') w' := by
  refine ⟨if f = 8 then o else o + f, 8 - f, fun h => if_neg (by omega), fun w' => ?_⟩
  simp only [Instr.sliceAt, Sem.run_bind, run_underlying Try.underlying69 w', Result.andThen_ok]
  have hb : (Instr.sliceBounds false 8 8 (some (.int .i64 (f : Int))) (some (.int .i64 (t : Int))) none).run Try.prog w' = .ok (f, t, 8) w' := by
    simp [Instr.sliceBounds, run_sliceBound, show (t : Int) ≤ 8 by omega, hf]
  simp [Instr.sureAddr, hb, Addr.add_mid]
  by_cases h8 : f = 8
  · subst h8; simp
  · have h8' : ¬ 8 = f := fun h => h8 h.symm
    simp [h8, h8']
/-- Bytes of a block made 0. -/
theorem run_clr {w : World} {b : Nat} {e : Ex} (hr : XRow w b e) (f t : Nat) (hf : f ≤ t) (ht : t ≤ 8) (o c : Nat) (ho : 0 < t - f → o = 1 + f) (ty : TypeId) :
    ∃ w', (Builtin.clear_ #[27] ty #[.slice (some ⟨b, o, none⟩) (t - f) c]).run Try.prog w = .ok (.tuple #[]) w' ∧ w'.rangeAt b 0 (ecl ⟨e.no, splice e.bs f (List.replicate (t - f) 0)⟩) ∧ Only (fun d => d = b) w w' := by
  rcases Nat.eq_zero_or_pos (t - f) with h0 | h0
  · refine ⟨w, ?_, ?_, Only.refl _ w⟩
    · rw [h0]
      have hz : ∀ w, (zeroValue 5).run Try.prog w = .ok (.int .u8 0) w := Try.zeroValue5
      simp [Builtin.clear_, run_underlying Try.underlying27]
    · rw [h0]
      have : splice e.bs f (List.replicate 0 (0 : Int)) = e.bs := by simp [splice]
      rw [this]
      exact hr.range
  · have hoo := ho h0
    subst hoo
    have hrun := Lib.run_clear_slice (P := Try.prog) w 27 5 ty (.int .u8 0) Try.underlying27 Try.zeroValue5 rfl rfl b (1 + f) (t - f) c h0
      (fun j hj => by rw [Nat.add_assoc, hr.byte (f + j) (by omega)]; rfl) (fun j hj => hr.free _)
    refine ⟨_, hrun, ?_, only_setCells _ _ _ _⟩
    have hp := (exts_one hr.1 hr.2).put 0 (1 + f) (List.replicate (t - f) (Value.int .u8 0)) ⟨e.no, splice e.bs f (List.replicate (t - f) 0)⟩ (by omega) (by simp; omega)
      (ok_splice hr.2 f _ (by simp; omega) (fun x hx => by rw [List.eq_of_mem_replicate hx]; exact ⟨by decide, by decide⟩)) (by rw [splice_bytes]; simp)
    obtain ⟨b', o', he, _, hc⟩ := hp.cells (by omega)
    injection he with he; injection he with e1 e2; subst e1 e2
    have := hc 0 (by omega)
    simpa using this
theorem st_clear {w : World} {ops : Array Oper} {rest : List Oper} {o : Oper} {a : Act} {Q : Exit → Act → World → Prop} (hgd : o.guard = none) (x : Operand) (hop : o.op = .call { callee := .builtin .clear, args := #[x], argTypes := #[27] })
    (b : Nat) (e : Ex) (hr : XRow w b e) (f t : Nat) (hf : f ≤ t) (ht : t ≤ 8) (o' c : Nat) (ho : 0 < t - f → o' = 1 + f) (hx : a.eval x = .slice (some ⟨b, o', none⟩) (t - f) c)
    (h : ∀ w', w'.rangeAt b 0 (ecl ⟨e.no, splice e.bs f (List.replicate (t - f) 0)⟩) → Only (fun d => d = b) w w' → wpList Try.prog ops Q rest (a.put o.dst (.tuple #[])) w') : wpList Try.prog ops Q (o :: rest) a w := by
  refine wpList_plain hgd fun K hK => ?_
  obtain ⟨w', hrun, q1, q2⟩ := run_clr hr f t hf ht o' c ho o.type
  unfold Oper.wp
  simp [execOp, hop, resolve, invoke, builtin, hx, hrun, Result.andThen]
  exact hK _ _ (h w' q1 q2)

theorem cutx_is {e : Ex} (he : e.ok) (p q : Int) (f t : Nat) (hf : min (p - e.no * 8).toNat 8 = f) (ht : min (q - e.no * 8).toNat 8 = t) (hft : f ≤ t) : cutx e p q = ⟨e.no, splice e.bs f (List.replicate (t - f) 0)⟩ := by
  unfold cutx
  congr 1
  apply List.ext_getElem?
  intro k
  have h8 := he.1
  by_cases hk : k < 8
  · rw [List.getElem?_map, List.getElem?_range hk, Option.map_some]
    unfold splice
    by_cases k1 : k < f
    · rw [if_neg (by omega), List.getElem?_append_left (by simp; omega), List.getElem?_take_of_lt k1, List.getD_eq_getElem?_getD, List.getElem?_eq_getElem (by omega)]; rfl
    · by_cases k2 : k < t
      · rw [if_pos (by omega), List.getElem?_append_right (by simp; omega), List.getElem?_append_left (by simp; omega), List.getElem?_replicate, if_pos (by simp; omega)]
      · rw [if_neg (by omega), List.getElem?_append_right (by simp; omega), List.getElem?_append_right (by simp; omega), List.getElem?_drop, List.getD_eq_getElem?_getD]
        simp only [List.length_take, List.length_replicate]
        rw [show f + (t - f) + (k - min f e.bs.length - (t - f)) = k by omega, List.getElem?_eq_getElem (by omega)]; rfl
  · rw [List.getElem?_eq_none (by simp; omega), List.getElem?_eq_none (by rw [length_splice _ _ _ (by simp; omega)]; omega)]
theorem whole_is (no p q : Int) (f t : Nat) (hf : min (p - no * 8).toNat 8 = f) (ht : min (q - no * 8).toNat 8 = t) : whole no p q = decide ((t : Int) - (f : Int) = 8) := by
  rw [Bool.eq_iff_iff, whole, Bool.and_eq_true, decide_eq_true_eq, decide_eq_true_eq, decide_eq_true_eq]
  omega

set_option maxRecDepth 100000 in
set_option maxHeartbeats 4000000 in
theorem without_any (A : Option Addr) (n c : Nat) (L : List Ex) (p q : Int) (w : World) (h : Exts w A n c L) (hn : n ≤ 1000000) (hr : ∀ e ∈ L, 0 ≤ e.no ∧ e.no < 137438953472) (p0 : 0 ≤ p) (pq : p ≤ q) (q1 : q ≤ 1099511627776) :
    Calls Try.prog 92 #[.slice A n c, .int .i64 p, .int .i64 q] w (ListPost (wo L p q) w) := by
  have H := Lib.hid h
  have hm := h.max
  have HR := Lib.hid hr
  clear h hr
  go_enter Try.func92, Try.ntmps92
  go_wp2
  go_loopw [7, 14] (fun v i wr => ∃ j : Nat, j ≤ n ∧ i = .int .i64 j ∧ Hid (Own w.heap.size wr v (wo (L.take j) p q)) ∧ Hid (Below w.heap.size w wr)) (fun _ i _ => n - (intOf i).toNat)
  case atStart => exact ⟨0, Nat.zero_le _, rfl, own_nil _ _, Below.refl _ _⟩
  case round =>
    obtain ⟨j, hj, rfl, HO, K1⟩ := hrel
    by_cases hlt : j < n
    · obtain ⟨b, o, rfl, hb, hc⟩ := H.out.cells (by omega)
      have HX := Lib.hid (show wr.rangeAt b (o + j * 9) (ecl (L.getD j default)) from fun i v hv => (K1.out.cell (p := ⟨b, o + j * 9 + i, none⟩) hb).trans (hc j hlt i v hv))
      have HE := Lib.hid (H.out.get j hlt)
      have HT := Lib.hid (show wo (L.take (j + 1)) p q = wo (L.take j) p q ++ (if whole (L.getD j default).no p q = true then [] else [cutx (L.getD j default) p q]) by
        rw [← wo_snoc]; congr 1
        have hl : j < L.length := by rw [H.out.len]; exact hlt
        rw [List.take_add_one, List.getD_eq_getElem?_getD, List.getElem?_eq_getElem hl]; rfl)
      have hrg := HR.out (L.getD j default) (by rw [List.getD_eq_getElem?_getD, List.getElem?_eq_getElem (by rw [H.out.len]; exact hlt)]; exact List.getElem_mem _)
      have HL := Lib.hid (show (wo (L.take j) p q).length ≤ j by
        have : (wo (L.take j) p q).length ≤ (L.take j).length := by unfold wo; rw [List.length_map]; exact List.length_filter_le _ _
        rw [List.length_take] at this; omega)
      have hji : (j : Int) < (n : Int) := by omega
      clear hc
      generalize L.getD j default = e at *
      obtain ⟨no, hno⟩ : ∃ no, e.no = no := ⟨_, rfl⟩
      obtain ⟨f, hf⟩ : ∃ f, min (p - no * 8).toNat 8 = f := ⟨_, rfl⟩
      obtain ⟨t, ht⟩ : ∃ t, min (q - no * 8).toNat 8 = t := ⟨_, rfl⟩
      have hft : f ≤ t := by omega
      have ht8 : t ≤ 8 := by omega
      have HW := Lib.hid (whole_is no p q f t hf ht)
      have HC := Lib.hid (show cutx e p q = ⟨e.no, splice e.bs f (List.replicate (t - f) 0)⟩ from cutx_is HE.out p q f t (by rw [hno]; exact hf) (by rw [hno]; exact ht) hft)
      rw [hno] at hrg HT
      obtain ⟨n0, n1⟩ := hrg
      have HN := Lib.hid hno; have HF := Lib.hid hf; have HTt := Lib.hid ht
      clear hno hf ht
      go_wp2_with (first | (refine st_loadx rfl _ rfl b (o + j * 9) rfl e HX.out HE.out ?_) | (refine st_allocx rfl rfl ?_; intro b1 w1 hb1 x1 k1; have X1 := Lib.hid x1; have K2 := Lib.hid k1; clear x1 k1) | (refine st_storev rfl _ _ rfl b1 rfl e rfl HE.out _ X1.out ?_; intro w2 x2 o2 s2; have X2 := Lib.hid x2; have K3 := Lib.hid (K2.out.trans (o2.below K2.out.size (fun d hd => by omega))); clear x2 o2 s2; have d0 := X2.out.no; rw [HN.out] at d0))
      go_quiet (first | (go_at_call 64; with_reducible exact quiet_mine (ahead_any no p _ n0 n1 p0 (by omega) f HF.out)) | (go_at_call 64; with_reducible exact quiet_mine (ahead_any no q _ n0 n1 (by omega) q1 t HTt.out)))
      have X3 := Lib.hid (X2.out.on (below_drewN (Below.refl _ _) nq))
      have K4 := Lib.hid (below_drewN K3.out nq)
      have HB1 := Lib.hid hb1
      have hlb := X3.out.lt
      by_cases g : (t : Int) - (f : Int) = 8
      · have HI := Lib.hid (show wo (L.take (j + 1)) p q = wo (L.take j) p q by rw [HT.out, HW.out]; simp [g])
        go_wp2
        go_roundw
        case rel => exact ⟨j + 1, by omega, by go_num, by have := HO.out.on K4.out; rw [← HI.out] at this; exact this, K1.out.trans (K4.out.mono K1.out.size)⟩
        case measure => simp [intOf]; omega
      · have HI := Lib.hid (show wo (L.take (j + 1)) p q = wo (L.take j) p q ++ [cutx e p q] by rw [HT.out, HW.out]; simp [g])
        obtain ⟨o', c', ho', hsl⟩ := cut8_lh b1 1 f t hft ht8
        have HO' := Lib.hid ho'
        clear ho'
        have hlen := HL.out
        generalize hW3 : w2.drewN nq = w3 at *
        go_wp2_with (first | (refine st_clear rfl _ rfl b1 e X3.out f t hft ht8 o' c' HO'.out rfl ?_; intro w4 r4 o4; have R4 := Lib.hid r4; have K5 := Lib.hid (K4.out.trans (o4.below K4.out.size (fun d hd => by have := HB1.out; omega))); clear r4 o4; rw [← HC.out] at R4) | (refine st_loadx rfl _ rfl b1 0 rfl (cutx e p q) R4.out (cutx_ok HE.out p q) ?_) | (refine st_one rfl _ rfl (cutx e p q) rfl (cutx_ok HE.out p q) ?_; intro b6 w6 hb6 r6 k6; have E6 := Lib.hid (exts_one r6 (cutx_ok HE.out p q)); have K6 := Lib.hid (K5.out.trans (k6.mono K5.out.size)); clear r6 k6) | (at_builtin; refine st_cat rfl _ _ rfl w.heap.size u7 (wo (L.take j) p q) rfl (HO.out.on K6.out) _ _ _ [cutx e p q] rfl E6.out (by omega) (Nat.le_trans K1.out.size K6.out.size) ?_; intro v' w7 q7 k7; have Q7 := Lib.hid q7; have K7 := Lib.hid ((K1.out.trans (K6.out.mono K1.out.size)).trans k7); clear q7 k7))
        go_roundw
        case rel => exact ⟨j + 1, by omega, by go_num, by have := Q7.out; rw [← HI.out] at this; exact this, K7.out⟩
        case measure => simp [intOf]; omega
    · obtain rfl : j = n := by omega
      have HF := Lib.hid (show wo (L.take j) p q = wo L p q by rw [List.take_of_length_le (Nat.le_of_eq H.out.len)])
      go_wp2
      go_ret
      have hO := HO.out
      rw [HF.out] at hO
      obtain ⟨A', c', hv, hmm⟩ := hO.mut
      subst hv
      exact ⟨A', c', rfl, hmm, K1.out⟩

def CtPost (z : Bool) (s : Int) (R : List Ex → Prop) (w : World) (e : Ending) (w' : World) : Prop := ∃ A n c L, e = .returned (.tuple #[ct s A n c, .bool z]) ∧ R L ∧ Mut w.heap.size w' A n c L ∧ Below w.heap.size w w'
/-- The variables of a content and of a result. -/
structure Duo (w W : World) (s : Int) (A : Option Addr) (n c : Nat) : Prop where
  b0 : Box W w.heap.size s A n c
  b1 : Box W (w.heap.size + 1) 0 none 0 0
  below : Below w.heap.size w W
  size : w.heap.size + 2 ≤ W.heap.size
theorem duo_new (w : World) (s : Int) (A : Option Addr) (n c : Nat) : Duo w ((w.alloc (.cells #[.int .i64 s, .slice A n c] 34)).alloc (.cells #[.int .i64 0, .slice none 0 0] 34)) s A n c := by
  refine ⟨(box_new w s A n c).on ((Below.refl _ _).alloc (Nat.le_refl _) _), ?_, ((Below.refl _ _).alloc (Nat.le_refl _) _).alloc (by simp) _, by simp⟩
  have := box_new (w.alloc (.cells #[.int .i64 s, .slice A n c] 34)) 0 none 0 0
  simpa using this
theorem Duo.on {w W W' : World} {s : Int} {A : Option Addr} {n c : Nat} (h : Duo w W s A n c) (k : Below W.heap.size W W') : Duo w W' s A n c :=
  ⟨h.b0.on k, h.b1.on k, h.below.trans (k.mono h.below.size), Nat.le_trans h.size k.size⟩
/-- What is answered is stored in the result's variable. -/
theorem Duo.done {w W : World} {s : Int} {A : Option Addr} {n c : Nat} (h : Duo w W s A n c) (s' : Int) {A' : Option Addr} {n' c' : Nat} {L : List Ex} {B : Nat} (hm : Mut B W A' n' c' L) (hB : w.heap.size + 2 ≤ B) :
    Box ((W.setCell ⟨w.heap.size + 1, 0, none⟩ (.int .i64 s')).setCell ⟨w.heap.size + 1, 1, none⟩ (.slice A' n' c')) (w.heap.size + 1) s' A' n' c' ∧ Mut w.heap.size ((W.setCell ⟨w.heap.size + 1, 0, none⟩ (.int .i64 s')).setCell ⟨w.heap.size + 1, 1, none⟩ (.slice A' n' c')) A' n' c' L ∧ Below w.heap.size w ((W.setCell ⟨w.heap.size + 1, 0, none⟩ (.int .i64 s')).setCell ⟨w.heap.size + 1, 1, none⟩ (.slice A' n' c')) :=
  ⟨h.b1.put _ _ _ _, hm.only (B' := w.heap.size) (only_put _ _ _ _) (fun g hg hd => by omega) (by omega), below_put h.below _ (by omega) _ _⟩
theorem Duo.none {w W : World} {s : Int} {A : Option Addr} {n c : Nat} (h : Duo w W s A n c) :
    Box ((W.setCell ⟨w.heap.size + 1, 0, none⟩ (.int .i64 0)).setCell ⟨w.heap.size + 1, 1, none⟩ (.slice none 0 0)) (w.heap.size + 1) 0 none 0 0 ∧ Mut w.heap.size ((W.setCell ⟨w.heap.size + 1, 0, none⟩ (.int .i64 0)).setCell ⟨w.heap.size + 1, 1, none⟩ (.slice none 0 0)) none 0 0 [] ∧ Below w.heap.size w ((W.setCell ⟨w.heap.size + 1, 0, none⟩ (.int .i64 0)).setCell ⟨w.heap.size + 1, 1, none⟩ (.slice none 0 0)) :=
  ⟨h.b1.put _ _ _ _, mut_nil _ _, below_put h.below _ (by omega) _ _⟩

set_option maxRecDepth 100000 in
set_option maxHeartbeats 4000000 in
theorem trunc_any (s : Int) (A : Option Addr) (n c : Nat) (L : List Ex) (t : Int) (w : World) (h : Exts w A n c L) (hn : n ≤ 1000000) (z : Bool) (hz : (decide (0 ≤ t) && decide (t ≤ 1099511627776) && may s L) = z) :
    Calls Try.prog 71 #[ct s A n c, .int .i64 t] w (CtPost z (if z = true then t else 0) (fun M => M = if z = true then wo L t 1099511627776 else []) w) := by
  have D0 := Lib.hid (duo_new w s A n c)
  have H := Lib.hid h
  have HZ := Lib.hid hz
  clear h hz
  show Calls Try.prog 71 #[.agg #[.int .i64 s, .slice A n c], .int .i64 t] w _
  go_enter Try.func71, Try.ntmps71
  by_cases t0 : 0 ≤ t
  · by_cases t1 : t ≤ 1099511627776
    · go_wp2_with fail
      obtain ⟨y, hy⟩ : ∃ y, may s L = y := ⟨_, rfl⟩
      have HY := Lib.hid hy
      have HZY := Lib.hid (show y = z by rw [← HZ.out, hy]; simp [t0, t1])
      clear hy
      refine (may_any s A n c L _ (H.out.on D0.out.below) y HY.out).mono ?_
      rintro e w1 ⟨rfl, k1⟩
      have D1 := Lib.hid (D0.out.on k1)
      clear k1 D0
      have c0 := D1.out.b0.c0; have c1 := D1.out.b0.c1; have d0 := D1.out.b1.c0; have d1 := D1.out.b1.c1; have f0 := D1.out.b1.f0; have f1 := D1.out.b1.f1
      have hzy := HZY.out
      subst hzy
      cases y with
      | false =>
        go_wp2
        refine res_box2 rfl (w.heap.size + 1) 0 none 0 0 rfl D1.out.none.1 rfl ?_
        exact ⟨none, 0, 0, [], rfl, rfl, D1.out.none.2.1, D1.out.none.2.2⟩
      | true =>
        have HG := Lib.hid ((may_iff s L).1 HY.out)
        go_wp2_with fail
        refine (without_any A n c L t 1099511627776 w1 (H.out.on D1.out.below) hn HG.out.rng t0 t1 (by omega)).mono ?_
        rintro e w2 ⟨A', c', rfl, hm, k2⟩
        have D2 := Lib.hid (D1.out.on k2)
        have HM := Lib.hid hm
        clear k2 hm c0 c1 d0 d1 f0 f1
        have c0 := D2.out.b0.c0; have c1 := D2.out.b0.c1; have d0 := D2.out.b1.c0; have d1 := D2.out.b1.c1; have f0 := D2.out.b1.f0; have f1 := D2.out.b1.f1
        go_wp2
        have X := D2.out.done t HM.out D1.out.size
        refine res_box2 rfl (w.heap.size + 1) t A' _ c' rfl X.1 rfl ?_
        exact ⟨A', _, c', wo L t 1099511627776, rfl, rfl, X.2.1, X.2.2⟩
    · have HF := Lib.hid (show false = z by rw [← HZ.out]; simp [t1])
      have hzy := HF.out
      subst hzy
      have d0 := D0.out.b1.c0; have d1 := D0.out.b1.c1; have f0 := D0.out.b1.f0; have f1 := D0.out.b1.f1
      go_wp2
      refine res_box2 rfl (w.heap.size + 1) 0 none 0 0 rfl D0.out.b1 rfl ?_
      exact ⟨none, 0, 0, [], rfl, rfl, mut_nil _ _, D0.out.below⟩
  · have HF := Lib.hid (show false = z by rw [← HZ.out]; simp [t0])
    have hzy := HF.out
    subst hzy
    have d0 := D0.out.b1.c0; have d1 := D0.out.b1.c1; have f0 := D0.out.b1.f0; have f1 := D0.out.b1.f1
    go_wp2
    refine res_box2 rfl (w.heap.size + 1) 0 none 0 0 rfl D0.out.b1 rfl ?_
    exact ⟨none, 0, 0, [], rfl, rfl, mut_nil _ _, D0.out.below⟩

end Go.Proofs.Ytgaaieipeiekiaa

namespace Go.Proofs.Ytgaaieipeiekiaa
open Go.RowKit
set_option maxRecDepth 100000

set_option maxRecDepth 100000 in
set_option maxHeartbeats 800000 in
theorem punch_any (s : Int) (A : Option Addr) (n c : Nat) (L : List Ex) (p k : Int) (w : World) (h : Exts w A n c L) (hn : n ≤ 1000000) (z : Bool) (hz : ((eo p k).isSome && decide (1 ≤ k) && may s L) = z) :
    Calls Try.prog 73 #[ct s A n c, .int .i64 p, .int .i64 k] w (CtPost z (if z = true then s else 0) (fun M => M = if z = true then wo L p (p + k) else []) w) := by
  have D0 := Lib.hid (duo_new w s A n c)
  have H := Lib.hid h
  have HZ := Lib.hid hz
  clear h hz
  show Calls Try.prog 73 #[.agg #[.int .i64 s, .slice A n c], .int .i64 p, .int .i64 k] w _
  go_enter Try.func73, Try.ntmps73
  go_wp2_with fail
  obtain ⟨d, hd⟩ : ∃ d, eo p k = d := ⟨_, rfl⟩
  have HD := Lib.hid hd
  clear hd
  refine (end_any p k _ d HD.out).mono ?_
  rintro e w1 ⟨rfl, k1⟩
  have D1 := Lib.hid (D0.out.on k1)
  clear k1 D0
  have c0 := D1.out.b0.c0; have c1 := D1.out.b0.c1; have d0 := D1.out.b1.c0; have d1 := D1.out.b1.c1; have f0 := D1.out.b1.f0; have f1 := D1.out.b1.f1
  cases d with
  | none =>
    have hzy : false = z := by rw [← HZ.out, HD.out]; rfl
    subst hzy
    simp only [Option.getD_none, Option.isSome_none]
    go_wp2
    refine res_box2 rfl (w.heap.size + 1) 0 none 0 0 rfl D1.out.none.1 rfl ?_
    exact ⟨none, 0, 0, [], rfl, rfl, D1.out.none.2.1, D1.out.none.2.2⟩
  | some t =>
    obtain ⟨p0, k0, rfl, t1⟩ := eo_some HD.out
    simp only [Option.getD_some, Option.isSome_some]
    by_cases q1 : 1 ≤ k
    · go_wp2_with fail
      obtain ⟨y, hy⟩ : ∃ y, may s L = y := ⟨_, rfl⟩
      have HY := Lib.hid hy
      have HZY := Lib.hid (show y = z by rw [← HZ.out, HD.out, hy]; simp [q1])
      clear hy
      refine (may_any s A n c L _ (H.out.on D1.out.below) y HY.out).mono ?_
      rintro e w2 ⟨rfl, k2⟩
      have D2 := Lib.hid (D1.out.on k2)
      clear k2 c0 c1 d0 d1 f0 f1 D1
      have c0 := D2.out.b0.c0; have c1 := D2.out.b0.c1; have d0 := D2.out.b1.c0; have d1 := D2.out.b1.c1; have f0 := D2.out.b1.f0; have f1 := D2.out.b1.f1
      have hzy := HZY.out
      subst hzy
      cases y with
      | false =>
        go_wp2
        refine res_box2 rfl (w.heap.size + 1) 0 none 0 0 rfl D2.out.none.1 rfl ?_
        exact ⟨none, 0, 0, [], rfl, rfl, D2.out.none.2.1, D2.out.none.2.2⟩
      | true =>
        have HG := Lib.hid ((may_iff s L).1 HY.out)
        go_wp2
        have hpk : p ≤ p + k := by omega
        have DD := Lib.hid (D2.out.on (Below.refl _ _).drew)
        go_region_with (go_at_call 92; refine (without_any A n c L p (p + k) _ (H.out.on DD.out.below) hn HG.out.rng p0 hpk t1).mono ?_; rintro e w3 ⟨A', c', rfl, hm, k3⟩; have D3 := Lib.hid (DD.out.on k3); have HM := Lib.hid hm; have g0 := D3.out.b0.c0; have g1 := D3.out.b0.c1; have i0 := D3.out.b1.c0; have i1 := D3.out.b1.c1; have j0 := D3.out.b1.f0; have j1 := D3.out.b1.f1; clear k3 hm)
        all_goals
          go_wp2
          have X := D3.out.done s HM.out DD.out.size
          refine res_box2 rfl (w.heap.size + 1) s A' _ c' rfl X.1 rfl ?_
          exact ⟨A', _, c', wo L p (p + k), rfl, rfl, X.2.1, X.2.2⟩
    · have hzy : false = z := by rw [← HZ.out]; simp [q1]
      subst hzy
      go_wp2
      refine res_box2 rfl (w.heap.size + 1) 0 none 0 0 rfl D1.out.none.1 rfl ?_
      exact ⟨none, 0, 0, [], rfl, rfl, D1.out.none.2.1, D1.out.none.2.2⟩
end Go.Proofs.Ytgaaieipeiekiaa

namespace Go.Proofs.Ytgaaieipeiekiaa
open Go.RowKit
set_option maxRecDepth 100000

/-- Spans as they came from Parts. -/
theorem own_pairs {B : Nat} {w : World} {v : Value} {ps : List (Int × Int)} (h : w.ownsRow B 135 2 v ps.length (Plain.spanCells ps)) : ∃ A c, v = .slice A ps.length c ∧ Pairs w A ps.length ps ∧ ∀ g o, A = some ⟨g, o, none⟩ → B ≤ g := by
  obtain ⟨hl, ⟨rfl, h0⟩ | ⟨g, cap, cur, rfl, hB, hb, hn, hm, hs, ht⟩⟩ := h
  · obtain rfl : ps = [] := List.eq_nil_of_length_eq_zero h0
    exact ⟨none, 0, rfl, pairs_nil w, fun g o h => by cases h⟩
  · refine ⟨some ⟨g, 0, none⟩, cap, rfl, ⟨rfl, by omega, fun hp => ⟨g, 0, rfl, (Array.getElem?_eq_some_iff.1 hb).1, fun j hj => ?_⟩⟩, fun g' o he => by injection he with he; injection he with he; omega⟩
    obtain ⟨h1, h2⟩ := Plain.spanCells_at ps j hj
    rw [← ht, List.getElem?_take_of_lt (by omega)] at h1 h2
    exact ⟨by rw [cell_of_row _ _ _ _ 135 (0, 0) hb, Nat.zero_add]; simpa using h1, by rw [cell_of_row _ _ _ _ 135 (0, 0) hb, Nat.zero_add]; simpa using h2⟩
theorem Pairs.only {S : Nat → Prop} {w w' : World} {A : Option Addr} {n : Nat} {L : List (Int × Int)} (h : Pairs w A n L) (k : Only S w w') (hS : ∀ g o, A = some ⟨g, o, none⟩ → ¬ S g) : Pairs w' A n L := by
  refine ⟨h.len, h.mx, fun hn => ?_⟩
  obtain ⟨b, o, rfl, hb, hc⟩ := h.cells hn
  have hs := hS b o rfl
  exact ⟨b, o, rfl, Nat.lt_of_lt_of_le hb k.size, fun j hj => ⟨(k.cell (p := ⟨b, o + j * 2, none⟩) hb hs).trans (hc j hj).1, (k.cell (p := ⟨b, o + j * 2 + 1, none⟩) hb hs).trans (hc j hj).2⟩⟩
theorem Box.only {S : Nat → Prop} {w w' : World} {b : Nat} {s : Int} {A : Option Addr} {n c : Nat} (h : Box w b s A n c) (k : Only S w w') (hS : ¬ S b) : Box w' b s A n c := (k.block b h.lt hS).trans h
/-- Bytes copied into a row that is known whole. -/
theorem step_copy8 {ops : Array Oper} {o : Oper} {a : Act} {w : World} {K : Act → World → Prop} {Q : Exit → Act → World → Prop} {E : Prop} (hgd : o.guard = none) (d s : Operand)
    (ho : o.op = .call { callee := .builtin .copy, args := #[d, s], argTypes := #[27, 27] }) (g off dLen dCap : Nat) (ad : Addr) (sLen sCap : Nat) (hd : a.eval d = .slice (some ⟨g, off, none⟩) dLen dCap) (hs : a.eval s = .slice (some ad) sLen sCap)
    (cur : List Value) (hg : w.heap[g]? = some (.cells cur.toArray 5 (0, 0))) (cs : List Value) (hn : cs.length = Nat.min sLen dLen) (hsrc : ∀ j v, cs[j]? = some v → w.cell? (ad.add j) = some v) (hfit : off + cs.length ≤ cur.length) (h1 : ∀ v ∈ cs, v.oneCell' = true)
    (h : ∀ w', Hid (w'.heap[g]? = some (.cells (splice cur off cs).toArray 5 (0, 0))) → Only (fun k => k = g) w w' → K (a.put o.dst (goInt cs.length)) w') : if Region.wanted o (yielded ops a.tmps) = true then Oper.wp Try.prog o a w K Q else E := by
  have hw : Region.wanted o (yielded ops a.tmps) = true := by simp [Region.wanted, hgd]
  rw [if_pos hw]
  have hrun := run_copy_row (P := Try.prog) w 27 27 o.type 5 g off dLen dCap ad sLen sCap cur.toArray 5 cs Try.underlying27 (by kernel_rfl) hg hn hsrc (by simpa using hfit) h1
  unfold Oper.wp
  simp [execOp, ho, resolve, invoke, builtin, hd, hs, hrun, Result.andThen]
  exact h _ (show _ = _ by simpa [splice] using setRow_heap w g _ _ 5 _ hg) ⟨rfl, rfl, rfl, by simp [World.setRow], fun k _ hn => setRow_other w g k _ hn⟩
def by8 (zs : List Int) : List Value := zs.map (Value.int .u8)
theorem by8_len (zs : List Int) : (by8 zs).length = zs.length := by simp [by8]
theorem by8_one (zs : List Int) : ∀ v ∈ by8 zs, v.oneCell' = true := by
  intro v hv
  simp [by8] at hv
  obtain ⟨n, _, rfl⟩ := hv
  rfl
/-- make([]byte, m). -/
theorem st_makeb {w : World} {ops : Array Oper} {rest : List Oper} {o : Oper} {a : Act} {Q : Exit → Act → World → Prop} (hgd : o.guard = none) (l c : Operand) (ho : o.op = .makeSlice 27 l c) (C : Int) (m : Nat) (hl : a.eval l = .int .i64 C) (hc : a.eval c = .int .i64 C) (hC : C = (m : Int)) (hm : m ≤ 1000000)
    (hn : ∀ g w', w.heap.size ≤ g → Hid (w'.heap[g]? = some (.cells (by8 (List.replicate m 0)).toArray 5 (0, 0))) → Below w.heap.size w w' → wpList Try.prog ops Q rest (a.put o.dst (.slice (some ⟨g, 0, none⟩) m m)) w') :
    wpList Try.prog ops Q (o :: rest) a w := by
  obtain ⟨i0, hi, hz0, hz1, hz2⟩ := info_parts info5
  subst hC
  have hrun := run_make (P := Try.prog) w 27 5 i0 (.int .u8 0) Try.underlying27 hi hz0 .i64 .i64 (m : Int) (m : Int) (by omega) (by omega) (by rw [hz2]; omega) (by omega)
  simp only [Int.toNat_natCast, hz1, Nat.mul_one] at hrun
  refine wpList_plain hgd fun K hK => ?_
  unfold Oper.wp
  simp [execOp, ho, hl, hc, hrun, Result.andThen]
  refine hK _ _ (hn _ _ (Nat.le_refl _) ?_ ((Below.refl _ _).alloc (Nat.le_refl _) _))
  have hb := heap_alloc_new w (.cells (madeCells (Value.int .u8 0).cells m) 5)
  have he : (madeCells (Value.int .u8 0).cells m) = (by8 (List.replicate m 0)).toArray := by
    rw [show (Value.cells (.int .u8 0)) = #[.int .u8 0] from rfl, madeCells]
    apply Array.ext_getElem?
    intro i
    by_cases him : i < m
    · rw [Array.getElem?_map, Array.getElem?_range, if_pos him]; simp [by8, Nat.mod_one, him]
    · rw [Array.getElem?_eq_none (by simp; omega), Array.getElem?_eq_none (by simp [by8]; omega)]
  rw [he] at hb ⊢
  exact hb
theorem read_step (L : List Ex) (p : Int) (m d k : Nat) (hk : d + k ≤ m) (hz : ∀ i, i < k → at_ L (p + ((d + i : Nat) : Int)) = 0) : red L p d ++ List.replicate (m - d) 0 = red L p (d + k) ++ List.replicate (m - (d + k)) 0 := by
  induction k with
  | zero => rfl
  | succ k ih =>
    rw [ih (by omega) (fun i hi => hz i (by omega)), ← Nat.add_assoc, red_succ, hz k (by omega), show m - (d + k) = (m - (d + k + 1)) + 1 by omega, List.replicate_succ, List.append_assoc]
    rfl
theorem red_split (L : List Ex) (p : Int) (d k : Nat) : red L p (d + k) = red L p d ++ (List.range k).map fun (i : Nat) => at_ L (p + ((d + i : Nat) : Int)) := by
  induction k with
  | zero => simp
  | succ k ih => rw [← Nat.add_assoc, red_succ, ih, List.range_succ, List.map_append, List.append_assoc]; rfl
theorem read_copy (L : List Ex) (p : Int) (m d k : Nat) (cs : List Int) (hk : d + k ≤ m) (hcs : cs = (List.range k).map fun (i : Nat) => at_ L (p + ((d + i : Nat) : Int))) : splice (by8 (red L p d ++ List.replicate (m - d) 0)) d (by8 cs) = by8 (red L p (d + k) ++ List.replicate (m - (d + k)) 0) := by
  have hl : cs.length = k := by rw [hcs]; simp
  unfold splice by8
  rw [← List.map_take, ← List.map_drop, ← List.map_append, ← List.map_append, List.take_left' (red_len L p d), List.length_map, hl, red_split, ← hcs]
  congr 1
  rw [List.drop_append, red_len, List.drop_of_length_le (by rw [red_len]; omega), List.nil_append, List.drop_replicate, List.append_assoc]
  congr 3
  omega
def BytesPost (zs : List Int) (w : World) (e : Ending) (w' : World) : Prop := ∃ A c, e = .returned (.slice A zs.length c) ∧ Nums .u8 w' A zs.length c zs ∧ Below w.heap.size w w'
theorem nums_row {w : World} {g : Nat} {zs : List Int} (h : w.heap[g]? = some (.cells (by8 zs).toArray 5 (0, 0))) (hm : zs.length ≤ maxLen) : Nums .u8 w (some ⟨g, 0, none⟩) zs.length zs.length zs := by
  refine ⟨rfl, Nat.le_refl _, hm, (fun h => by cases h), fun hp => ⟨g, 0, rfl, (Array.getElem?_eq_some_iff.1 h).1, fun j hj => ?_⟩⟩
  rw [cell_of_row _ _ _ _ 5 (0, 0) h]
  simp [by8, List.getD_eq_getElem?_getD, hj]
end Go.Proofs.Ytgaaieipeiekiaa

namespace Go.Proofs.Ytgaaieipeiekiaa
open Go.RowKit
set_option maxRecDepth 100000

theorem at_block {L : List Ex} {P : Int} {bs : List Int} (hl : look L (P / 8) = some bs) (r i : Nat) (hr : P % 8 = (r : Int)) (hi : r + i < 8) : at_ L (P + (i : Int)) = bs.getD (r + i) 0 := by
  have h1 : (P + (i : Int)) / 8 = P / 8 := by omega
  have h2 : ((P + (i : Int)) % 8).toNat = r + i := by omega
  rw [at_, h1, hl, h2]
theorem at_gone {L : List Ex} {P : Int} (hl : look L (P / 8) = none) (r i : Nat) (hr : P % 8 = (r : Int)) (hi : r + i < 8) : at_ L (P + (i : Int)) = 0 := by
  have h1 : (P + (i : Int)) / 8 = P / 8 := by omega
  rw [at_, h1, hl]
theorem parts_at {P l : Int} {F : Nat} {ps : List (Int × Int)} {j : Nat} (hj : j < ps.length) (h : ps.drop j = Plain.partsFrom 8 F P l) (hl : 0 ≤ l) (hF : l.toNat ≤ F) : 0 < l ∧ ps.getD j (0, 0) = (P, Plain.partLen 8 P l) ∧ ps.drop (j + 1) = Plain.partsFrom 8 (F - 1) (P + Plain.partLen 8 P l) (l - Plain.partLen 8 P l) := by
  have h0 : 0 < l := by
    rcases Int.lt_or_le 0 l with h0 | h0
    · exact h0
    · rw [Plain.partsFrom_zero _ _ _ _ (by omega)] at h
      have := congrArg List.length h
      simp at this
      omega
  have hst := Plain.partsFrom_step 8 F P l h0 hF
  rw [hst, List.drop_eq_getElem_cons hj] at h
  injection h with h1 h2
  refine ⟨h0, ?_, h2⟩
  rw [List.getD_eq_getElem?_getD, List.getElem?_eq_getElem hj]
  exact h1
theorem parts_end {P l : Int} {F : Nat} {ps : List (Int × Int)} {j : Nat} (hj : ps.length ≤ j) (h : ps.drop j = Plain.partsFrom 8 F P l) (hF : l.toNat ≤ F) (hl : 0 ≤ l) : l = 0 := by
  rw [List.drop_of_length_le hj] at h
  rcases Int.lt_or_le 0 l with h0 | h0
  · rw [Plain.partsFrom_step 8 F P l h0 hF] at h; cases h
  · omega

end Go.Proofs.Ytgaaieipeiekiaa
