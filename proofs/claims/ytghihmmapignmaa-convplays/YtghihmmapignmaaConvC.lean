/- Contracts of conv's aheadOf and behindOf. -/
import Derived.Test.YtghihmmapignmaaConvB
import Derived.Test.YtghihmmapignmaaTabN
import Derived.WalkKit
import Derived.WalkSpells
import Derived.WalkLawsBesides
import Derived.Lib.Hide
namespace Go.Proofs.Ytghihmmapignmaa
open Go.RowKit

theorem flat_at : ∀ (L : List (List Int)), (∀ y ∈ L, y.length = 256) → ∀ k j, k < L.length → j < 256 → L.flatten.getD (k * 256 + j) 0 = (L.getD k []).getD j 0
  | [], _, k, j, hk, _ => absurd hk (by simp)
  | y :: L, h, 0, j, _, hj => by
    have hy := h y (by simp)
    rw [List.flatten_cons, Nat.zero_mul, Nat.zero_add, List.getD_eq_getElem?_getD, List.getElem?_append_left (by omega)]
    simp [List.getD_eq_getElem?_getD]
  | y :: L, h, k + 1, j, hk, hj => by
    have hy := h y (by simp)
    have ih := flat_at L (fun z hz => h z (by simp [hz])) k j (by simpa using hk) hj
    rw [List.flatten_cons, List.getD_eq_getElem?_getD, List.getElem?_append_right (by rw [hy]; omega), hy, show (k + 1) * 256 + j - 256 = k * 256 + j by omega, ← List.getD_eq_getElem?_getD, ih]
    simp [List.getD_eq_getElem?_getD]
theorem flat_len : ∀ (L : List (List Int)), (∀ y ∈ L, y.length = 256) → L.flatten.length = L.length * 256
  | [], _ => rfl
  | y :: L, h => by
    rw [List.flatten_cons, List.length_append, flat_len L (fun z hz => h z (by simp [hz])), h y (by simp), List.length_cons, Nat.add_mul]
    omega

theorem tbs_buft {w : World} {A : Option Addr} {n c : Nat} {L : List (List Int)} (h : BufT w A n c L.flatten) (hL : ∀ y ∈ L, Good y) : Tbs w A n L := by
  have hl : L.length = n := by
    have h1 := flat_len L (fun y hy => (hL y hy).1)
    have h2 := h.1
    omega
  have hg : ∀ k, k < n → Good (L.getD k []) := fun k hk => by
    rw [List.getD_eq_getElem?_getD, List.getElem?_eq_getElem (by omega)]
    exact hL _ (List.getElem_mem _)
  refine ⟨hl, hg, fun hp => ?_⟩
  obtain ⟨h1, h2, h3, ⟨_, h5⟩ | ⟨g, o, rfl, hg', _, _, hc⟩⟩ := h
  · omega
  · refine ⟨g, o, rfl, hg', fun k hk j v hv => ?_⟩
    have hy := (hg k hk).1
    rw [List.getElem?_map] at hv
    by_cases hj : j < (L.getD k []).length
    · rw [List.getElem?_eq_getElem hj] at hv
      simp only [Option.map_some, Option.some.injEq] at hv
      have hb : k * 256 + j < n * 256 := by
        have : (k + 1) * 256 ≤ n * 256 := Nat.mul_le_mul_right 256 hk
        omega
      rw [Nat.add_assoc, hc _ hb, flat_at L (fun y hy => (hL y hy).1) k j (by omega) (by omega), List.getD_eq_getElem?_getD (l := L.getD k []), List.getElem?_eq_getElem hj, ← hv]
      rfl
    · rw [List.getElem?_eq_none (by omega)] at hv; simp at hv

section
variable {ops : Array Oper} {rest : List Oper} {o : Oper} {a : Act} {w : World} {Q : Exit → Act → World → Prop}
/-- A slice of one table. -/
theorem st_one (hgd : o.guard = none) (x : Operand) (ho : o.op = .buildSlice 69 1 #[(0, x)]) (t : List Int) (hx : a.eval x = tv t) (ht : t.length = 256)
    (h : ∀ (b : Nat) (w1 : World), BufT w1 (some ⟨b, 0, none⟩) 1 1 t → Below w.heap.size w w1 → w.heap.size ≤ b → wpList Try.prog ops Q rest (a.put o.dst (.slice (some ⟨b, 0, none⟩) 1 1)) w1) : wpList Try.prog ops Q (o :: rest) a w := by
  refine Great.wpList_buildSliceTo hgd 69 50 1 _ ho w.heap.size rfl _ rfl Try.underlying69 (cs t) (by simpa [hx] using built_one t ht) (h _ _ ?_ ((Below.refl _ w).alloc (Nat.le_refl _) _) (Nat.le_refl _))
  have := buft_new w t #[] 1 1 (by rw [ht]) (Nat.le_refl _) (by decide) rfl
  simpa [cs] using this
theorem append_tabs (hgd : o.guard = none) (s x : Operand) (ho : o.op = .call { callee := .builtin .append, args := #[s, x], argTypes := #[69, 69] })
    {A : Option Addr} {n c : Nat} {zs : List Int} (h : BufT w A n c zs) (hs : a.eval s = .slice A n c) {A2 : Option Addr} {n2 c2 : Nat} {ys : List Int} (h2 : BufT w A2 n2 c2 ys) (hx : a.eval x = .slice A2 n2 c2) (hl : n + n2 ≤ 1000)
    (hn : ∀ A' c' w', BufT w' A' (n + n2) c' (zs ++ ys) → Only (fun d => ∃ o s, A = some ⟨d, o, s⟩) w w' → (A' = A ∨ A' = some ⟨w.heap.size, 0, none⟩) → wpList Try.prog ops Q rest (a.put o.dst (.slice A' (n + n2) c')) w') :
    wpList Try.prog ops Q (o :: rest) a w := by
  obtain ⟨A', c', w', hrun, q1, q2, q3⟩ := run_append_buft h h2 hl o.type
  refine wpList_plain hgd fun K hK => ?_
  unfold Oper.wp
  simp [execOp, ho, resolve, invoke, builtin, hs, hx, hrun, Result.andThen]
  exact hK _ _ (hn A' c' w' q1 q2 q3)
end

/-- Where aheadOf and behindOf stand: the variable of the result, the tables so far. -/
structure AhMid (w : World) (x : Cf) (b r : Nat) (W : World) (A : Option Addr) (n c : Nat) (L : List (List Int)) : Prop where
  box : Box W b 0 x
  res : Row W r 50 (cs zeros)
  at_b : w.heap.size ≤ b
  at_r : w.heap.size ≤ r
  tabs : BufT W A n c L.flatten
  good : ∀ y ∈ L, Good y
  new : ∀ g o s, A = some ⟨g, o, s⟩ → w.heap.size ≤ g ∧ g ≠ b ∧ g ≠ r
  below : Below w.heap.size w W
theorem AhMid.on {w : World} {x : Cf} {b r : Nat} {W W' : World} {A : Option Addr} {n c : Nat} {L : List (List Int)} (h : AhMid w x b r W A n c L) (k : Below W.heap.size W W') : AhMid w x b r W' A n c L :=
  ⟨h.box.on k, h.res.on k, h.at_b, h.at_r, h.tabs.on k, h.good, h.new, h.below.trans (k.mono h.below.size)⟩
theorem AhMid.next {w : World} {x : Cf} {b r : Nat} {W W' : World} {A A' : Option Addr} {n c n' c' : Nat} {L : List (List Int)} {t : List Int} (h : AhMid w x b r W A n c L) (ht : Good t) (q1 : BufT W' A' n' c' (L.flatten ++ t)) (q2 : Only (fun d => ∃ o s, A = some ⟨d, o, s⟩) W W') (q3 : A' = A ∨ A' = some ⟨W.heap.size, 0, none⟩) : AhMid w x b r W' A' n' c' (L ++ [t]) := by
  refine ⟨h.box.only q2 (fun ⟨o, s, e⟩ => (h.new b o s e).2.1 rfl), h.res.only q2 (fun ⟨o, s, e⟩ => (h.new r o s e).2.2 rfl), h.at_b, h.at_r, ?_, ?_, ?_, h.below.trans (q2.below h.below.size (fun d ⟨o, s, e⟩ => (h.new d o s e).1))⟩
  · rw [List.flatten_append]; simpa using q1
  · intro y hy
    rcases List.mem_append.1 hy with hy | hy
    · exact h.good y hy
    · simp at hy; rw [hy]; exact ht
  · intro g o s e
    rcases q3 with rfl | rfl
    · exact h.new g o s e
    · injection e with e; injection e with e
      have := h.below.size; have := h.box.lt; have := h.res.lt
      omega

set_option maxRecDepth 100000 in
set_option maxHeartbeats 8000000 in
theorem ahead_any (x : Cf) (w : World) : Calls Try.prog 37 #[x.val] w (TabPost x.t1 w) := by
  have HT := Lib.hid (show thenL ((bif x.ac then [tbA] else []) ++ (bif x.lc then [lower] else []) ++ (bif x.uc then [upper] else [])) ids = x.t1 from rfl)
  have LT := Lib.hid (good_t1 x).1
  have CT := Lib.hid then_any
  have LZ := Lib.hid len_zeros
  have C0 := Lib.hid ascii_any; have G0 := Lib.hid (show Good tbA from good_asc)
  have C1 := Lib.hid lower_any; have G1 := Lib.hid (show Good lower from good_lower)
  have C2 := Lib.hid upper_any; have G2 := Lib.hid (show Good upper from good_upper)
  generalize x.t1 = z at *
  generalize ids = d at *
  generalize tbA = ta at *
  generalize lower = tl1 at *
  generalize upper = tu at *
  have B0 := Lib.hid (box_new w x)
  obtain ⟨sw, bl, ub, lc, uc, ac, eb, ib, cb⟩ := x
  simp only at HT
  show Calls Try.prog 37 #[.agg #[.bool sw, .bool bl, .bool ub, .bool lc, .bool uc, .bool ac, .bool eb, .bool ib, .int .i64 cb]] w _
  go_enter Try.func37, Try.ntmps37
  go_wp2_with (refine st_alloc rfl rfl ?_)
  intro r w0 r0 k0 l0
  have M := Lib.hid (show AhMid w _ w.heap.size r w0 none 0 0 [] from ⟨B0.out.on (by simpa [Cf.cells] using k0), r0, Nat.le_refl _, (by omega), BufT.nil _, (fun y h => by cases h), (fun g o s h => by cases h), ((Below.refl _ w).alloc (Nat.le_refl _) _).trans (k0.mono (by omega))⟩)
  clear r0 k0 l0 B0
  have c5 := M.out.box.c5; have c3 := M.out.box.c3; have c4 := M.out.box.c4; simp only [Nat.zero_add] at c5 c3 c4
  cases ac <;> cases lc <;> cases uc
  · go_wp2_with fail
    refine (CT.out _ _ _ _ _ (tbs_buft M.out.tabs M.out.good) (by omega)).mono ?_
    rintro e wz ⟨rfl, k⟩
    have MZ := Lib.hid (M.out.on k)
    clear k M
    clear c5 c3 c4
    have ET := Lib.hid (show thenL ([]) d = z from HT.out)
    rw [ET.out]
    go_wp2_with (refine st_store rfl _ _ rfl r rfl _ rfl _ MZ.out.res len_zeros LT.out ?_)
    intro wy r5 o5
    go_wp2
    exact res_tab rfl r rfl _ r5 LT.out rfl ⟨rfl, MZ.out.below.trans (o5.below MZ.out.below.size (fun d hd => by rw [hd]; exact MZ.out.at_r))⟩
  · go_wp2_with fail
    refine (C2.out _).mono ?_
    rintro e v2 ⟨rfl, k⟩
    have M1 := Lib.hid (M.out.on k)
    clear k M
    clear c5 c3 c4
    go_wp2_with (refine st_one rfl _ rfl tu rfl G2.out.1 ?_)
    intro b2 u2 q1 q2 q3
    have M2 := Lib.hid (M1.out.on q2); have Q1 := Lib.hid q1
    clear q1 q2 q3 M1
    go_wp2_with (at_builtin; refine append_tabs rfl _ _ rfl M2.out.tabs rfl Q1.out rfl (by omega) ?_; intro A2 cc2 W2 q1 q2 q3; have M := Lib.hid (M2.out.next G2.out q1 q2 q3); clear q1 q2 q3 M2 Q1; have c5 := M.out.box.c5; have c3 := M.out.box.c3; have c4 := M.out.box.c4; simp only [Nat.zero_add] at c5 c3 c4)
    refine (CT.out _ _ _ _ _ (tbs_buft M.out.tabs M.out.good) (by omega)).mono ?_
    rintro e wz ⟨rfl, k⟩
    have MZ := Lib.hid (M.out.on k)
    clear k M
    clear c5 c3 c4
    have ET := Lib.hid (show thenL ([] ++ [tu]) d = z from HT.out)
    rw [ET.out]
    go_wp2_with (refine st_store rfl _ _ rfl r rfl _ rfl _ MZ.out.res len_zeros LT.out ?_)
    intro wy r5 o5
    go_wp2
    exact res_tab rfl r rfl _ r5 LT.out rfl ⟨rfl, MZ.out.below.trans (o5.below MZ.out.below.size (fun d hd => by rw [hd]; exact MZ.out.at_r))⟩
  · go_wp2_with fail
    refine (C1.out _).mono ?_
    rintro e v1 ⟨rfl, k⟩
    have M1 := Lib.hid (M.out.on k)
    clear k M
    clear c5 c3 c4
    go_wp2_with (refine st_one rfl _ rfl tl1 rfl G1.out.1 ?_)
    intro b1 u1 q1 q2 q3
    have M2 := Lib.hid (M1.out.on q2); have Q1 := Lib.hid q1
    clear q1 q2 q3 M1
    go_wp2_with (at_builtin; refine append_tabs rfl _ _ rfl M2.out.tabs rfl Q1.out rfl (by omega) ?_; intro A1 cc1 W1 q1 q2 q3; have M := Lib.hid (M2.out.next G1.out q1 q2 q3); clear q1 q2 q3 M2 Q1; have c5 := M.out.box.c5; have c3 := M.out.box.c3; have c4 := M.out.box.c4; simp only [Nat.zero_add] at c5 c3 c4)
    refine (CT.out _ _ _ _ _ (tbs_buft M.out.tabs M.out.good) (by omega)).mono ?_
    rintro e wz ⟨rfl, k⟩
    have MZ := Lib.hid (M.out.on k)
    clear k M
    clear c5 c3 c4
    have ET := Lib.hid (show thenL ([] ++ [tl1]) d = z from HT.out)
    rw [ET.out]
    go_wp2_with (refine st_store rfl _ _ rfl r rfl _ rfl _ MZ.out.res len_zeros LT.out ?_)
    intro wy r5 o5
    go_wp2
    exact res_tab rfl r rfl _ r5 LT.out rfl ⟨rfl, MZ.out.below.trans (o5.below MZ.out.below.size (fun d hd => by rw [hd]; exact MZ.out.at_r))⟩
  · go_wp2_with fail
    refine (C1.out _).mono ?_
    rintro e v1 ⟨rfl, k⟩
    have M1 := Lib.hid (M.out.on k)
    clear k M
    clear c5 c3 c4
    go_wp2_with (refine st_one rfl _ rfl tl1 rfl G1.out.1 ?_)
    intro b1 u1 q1 q2 q3
    have M2 := Lib.hid (M1.out.on q2); have Q1 := Lib.hid q1
    clear q1 q2 q3 M1
    go_wp2_with (at_builtin; refine append_tabs rfl _ _ rfl M2.out.tabs rfl Q1.out rfl (by omega) ?_; intro A1 cc1 W1 q1 q2 q3; have M := Lib.hid (M2.out.next G1.out q1 q2 q3); clear q1 q2 q3 M2 Q1; have c5 := M.out.box.c5; have c3 := M.out.box.c3; have c4 := M.out.box.c4; simp only [Nat.zero_add] at c5 c3 c4)
    go_wp2_with fail
    refine (C2.out _).mono ?_
    rintro e v2 ⟨rfl, k⟩
    have M1 := Lib.hid (M.out.on k)
    clear k M
    clear c5 c3 c4
    go_wp2_with (refine st_one rfl _ rfl tu rfl G2.out.1 ?_)
    intro b2 u2 q1 q2 q3
    have M2 := Lib.hid (M1.out.on q2); have Q1 := Lib.hid q1
    clear q1 q2 q3 M1
    go_wp2_with (at_builtin; refine append_tabs rfl _ _ rfl M2.out.tabs rfl Q1.out rfl (by omega) ?_; intro A2 cc2 W2 q1 q2 q3; have M := Lib.hid (M2.out.next G2.out q1 q2 q3); clear q1 q2 q3 M2 Q1; have c5 := M.out.box.c5; have c3 := M.out.box.c3; have c4 := M.out.box.c4; simp only [Nat.zero_add] at c5 c3 c4)
    refine (CT.out _ _ _ _ _ (tbs_buft M.out.tabs M.out.good) (by omega)).mono ?_
    rintro e wz ⟨rfl, k⟩
    have MZ := Lib.hid (M.out.on k)
    clear k M
    clear c5 c3 c4
    have ET := Lib.hid (show thenL ([] ++ [tl1] ++ [tu]) d = z from HT.out)
    rw [ET.out]
    go_wp2_with (refine st_store rfl _ _ rfl r rfl _ rfl _ MZ.out.res len_zeros LT.out ?_)
    intro wy r5 o5
    go_wp2
    exact res_tab rfl r rfl _ r5 LT.out rfl ⟨rfl, MZ.out.below.trans (o5.below MZ.out.below.size (fun d hd => by rw [hd]; exact MZ.out.at_r))⟩
  · go_wp2_with fail
    refine (C0.out _).mono ?_
    rintro e v0 ⟨rfl, k⟩
    have M1 := Lib.hid (M.out.on k)
    clear k M
    clear c5 c3 c4
    go_wp2_with (refine st_one rfl _ rfl ta rfl G0.out.1 ?_)
    intro b0 u0 q1 q2 q3
    have M2 := Lib.hid (M1.out.on q2); have Q1 := Lib.hid q1
    clear q1 q2 q3 M1
    go_wp2_with (at_builtin; refine append_tabs rfl _ _ rfl M2.out.tabs rfl Q1.out rfl (by omega) ?_; intro A0 cc0 W0 q1 q2 q3; have M := Lib.hid (M2.out.next G0.out q1 q2 q3); clear q1 q2 q3 M2 Q1; have c5 := M.out.box.c5; have c3 := M.out.box.c3; have c4 := M.out.box.c4; simp only [Nat.zero_add] at c5 c3 c4)
    refine (CT.out _ _ _ _ _ (tbs_buft M.out.tabs M.out.good) (by omega)).mono ?_
    rintro e wz ⟨rfl, k⟩
    have MZ := Lib.hid (M.out.on k)
    clear k M
    clear c5 c3 c4
    have ET := Lib.hid (show thenL ([] ++ [ta]) d = z from HT.out)
    rw [ET.out]
    go_wp2_with (refine st_store rfl _ _ rfl r rfl _ rfl _ MZ.out.res len_zeros LT.out ?_)
    intro wy r5 o5
    go_wp2
    exact res_tab rfl r rfl _ r5 LT.out rfl ⟨rfl, MZ.out.below.trans (o5.below MZ.out.below.size (fun d hd => by rw [hd]; exact MZ.out.at_r))⟩
  · go_wp2_with fail
    refine (C0.out _).mono ?_
    rintro e v0 ⟨rfl, k⟩
    have M1 := Lib.hid (M.out.on k)
    clear k M
    clear c5 c3 c4
    go_wp2_with (refine st_one rfl _ rfl ta rfl G0.out.1 ?_)
    intro b0 u0 q1 q2 q3
    have M2 := Lib.hid (M1.out.on q2); have Q1 := Lib.hid q1
    clear q1 q2 q3 M1
    go_wp2_with (at_builtin; refine append_tabs rfl _ _ rfl M2.out.tabs rfl Q1.out rfl (by omega) ?_; intro A0 cc0 W0 q1 q2 q3; have M := Lib.hid (M2.out.next G0.out q1 q2 q3); clear q1 q2 q3 M2 Q1; have c5 := M.out.box.c5; have c3 := M.out.box.c3; have c4 := M.out.box.c4; simp only [Nat.zero_add] at c5 c3 c4)
    go_wp2_with fail
    refine (C2.out _).mono ?_
    rintro e v2 ⟨rfl, k⟩
    have M1 := Lib.hid (M.out.on k)
    clear k M
    clear c5 c3 c4
    go_wp2_with (refine st_one rfl _ rfl tu rfl G2.out.1 ?_)
    intro b2 u2 q1 q2 q3
    have M2 := Lib.hid (M1.out.on q2); have Q1 := Lib.hid q1
    clear q1 q2 q3 M1
    go_wp2_with (at_builtin; refine append_tabs rfl _ _ rfl M2.out.tabs rfl Q1.out rfl (by omega) ?_; intro A2 cc2 W2 q1 q2 q3; have M := Lib.hid (M2.out.next G2.out q1 q2 q3); clear q1 q2 q3 M2 Q1; have c5 := M.out.box.c5; have c3 := M.out.box.c3; have c4 := M.out.box.c4; simp only [Nat.zero_add] at c5 c3 c4)
    refine (CT.out _ _ _ _ _ (tbs_buft M.out.tabs M.out.good) (by omega)).mono ?_
    rintro e wz ⟨rfl, k⟩
    have MZ := Lib.hid (M.out.on k)
    clear k M
    clear c5 c3 c4
    have ET := Lib.hid (show thenL ([] ++ [ta] ++ [tu]) d = z from HT.out)
    rw [ET.out]
    go_wp2_with (refine st_store rfl _ _ rfl r rfl _ rfl _ MZ.out.res len_zeros LT.out ?_)
    intro wy r5 o5
    go_wp2
    exact res_tab rfl r rfl _ r5 LT.out rfl ⟨rfl, MZ.out.below.trans (o5.below MZ.out.below.size (fun d hd => by rw [hd]; exact MZ.out.at_r))⟩
  · go_wp2_with fail
    refine (C0.out _).mono ?_
    rintro e v0 ⟨rfl, k⟩
    have M1 := Lib.hid (M.out.on k)
    clear k M
    clear c5 c3 c4
    go_wp2_with (refine st_one rfl _ rfl ta rfl G0.out.1 ?_)
    intro b0 u0 q1 q2 q3
    have M2 := Lib.hid (M1.out.on q2); have Q1 := Lib.hid q1
    clear q1 q2 q3 M1
    go_wp2_with (at_builtin; refine append_tabs rfl _ _ rfl M2.out.tabs rfl Q1.out rfl (by omega) ?_; intro A0 cc0 W0 q1 q2 q3; have M := Lib.hid (M2.out.next G0.out q1 q2 q3); clear q1 q2 q3 M2 Q1; have c5 := M.out.box.c5; have c3 := M.out.box.c3; have c4 := M.out.box.c4; simp only [Nat.zero_add] at c5 c3 c4)
    go_wp2_with fail
    refine (C1.out _).mono ?_
    rintro e v1 ⟨rfl, k⟩
    have M1 := Lib.hid (M.out.on k)
    clear k M
    clear c5 c3 c4
    go_wp2_with (refine st_one rfl _ rfl tl1 rfl G1.out.1 ?_)
    intro b1 u1 q1 q2 q3
    have M2 := Lib.hid (M1.out.on q2); have Q1 := Lib.hid q1
    clear q1 q2 q3 M1
    go_wp2_with (at_builtin; refine append_tabs rfl _ _ rfl M2.out.tabs rfl Q1.out rfl (by omega) ?_; intro A1 cc1 W1 q1 q2 q3; have M := Lib.hid (M2.out.next G1.out q1 q2 q3); clear q1 q2 q3 M2 Q1; have c5 := M.out.box.c5; have c3 := M.out.box.c3; have c4 := M.out.box.c4; simp only [Nat.zero_add] at c5 c3 c4)
    refine (CT.out _ _ _ _ _ (tbs_buft M.out.tabs M.out.good) (by omega)).mono ?_
    rintro e wz ⟨rfl, k⟩
    have MZ := Lib.hid (M.out.on k)
    clear k M
    clear c5 c3 c4
    have ET := Lib.hid (show thenL ([] ++ [ta] ++ [tl1]) d = z from HT.out)
    rw [ET.out]
    go_wp2_with (refine st_store rfl _ _ rfl r rfl _ rfl _ MZ.out.res len_zeros LT.out ?_)
    intro wy r5 o5
    go_wp2
    exact res_tab rfl r rfl _ r5 LT.out rfl ⟨rfl, MZ.out.below.trans (o5.below MZ.out.below.size (fun d hd => by rw [hd]; exact MZ.out.at_r))⟩
  · go_wp2_with fail
    refine (C0.out _).mono ?_
    rintro e v0 ⟨rfl, k⟩
    have M1 := Lib.hid (M.out.on k)
    clear k M
    clear c5 c3 c4
    go_wp2_with (refine st_one rfl _ rfl ta rfl G0.out.1 ?_)
    intro b0 u0 q1 q2 q3
    have M2 := Lib.hid (M1.out.on q2); have Q1 := Lib.hid q1
    clear q1 q2 q3 M1
    go_wp2_with (at_builtin; refine append_tabs rfl _ _ rfl M2.out.tabs rfl Q1.out rfl (by omega) ?_; intro A0 cc0 W0 q1 q2 q3; have M := Lib.hid (M2.out.next G0.out q1 q2 q3); clear q1 q2 q3 M2 Q1; have c5 := M.out.box.c5; have c3 := M.out.box.c3; have c4 := M.out.box.c4; simp only [Nat.zero_add] at c5 c3 c4)
    go_wp2_with fail
    refine (C1.out _).mono ?_
    rintro e v1 ⟨rfl, k⟩
    have M1 := Lib.hid (M.out.on k)
    clear k M
    clear c5 c3 c4
    go_wp2_with (refine st_one rfl _ rfl tl1 rfl G1.out.1 ?_)
    intro b1 u1 q1 q2 q3
    have M2 := Lib.hid (M1.out.on q2); have Q1 := Lib.hid q1
    clear q1 q2 q3 M1
    go_wp2_with (at_builtin; refine append_tabs rfl _ _ rfl M2.out.tabs rfl Q1.out rfl (by omega) ?_; intro A1 cc1 W1 q1 q2 q3; have M := Lib.hid (M2.out.next G1.out q1 q2 q3); clear q1 q2 q3 M2 Q1; have c5 := M.out.box.c5; have c3 := M.out.box.c3; have c4 := M.out.box.c4; simp only [Nat.zero_add] at c5 c3 c4)
    go_wp2_with fail
    refine (C2.out _).mono ?_
    rintro e v2 ⟨rfl, k⟩
    have M1 := Lib.hid (M.out.on k)
    clear k M
    clear c5 c3 c4
    go_wp2_with (refine st_one rfl _ rfl tu rfl G2.out.1 ?_)
    intro b2 u2 q1 q2 q3
    have M2 := Lib.hid (M1.out.on q2); have Q1 := Lib.hid q1
    clear q1 q2 q3 M1
    go_wp2_with (at_builtin; refine append_tabs rfl _ _ rfl M2.out.tabs rfl Q1.out rfl (by omega) ?_; intro A2 cc2 W2 q1 q2 q3; have M := Lib.hid (M2.out.next G2.out q1 q2 q3); clear q1 q2 q3 M2 Q1; have c5 := M.out.box.c5; have c3 := M.out.box.c3; have c4 := M.out.box.c4; simp only [Nat.zero_add] at c5 c3 c4)
    refine (CT.out _ _ _ _ _ (tbs_buft M.out.tabs M.out.good) (by omega)).mono ?_
    rintro e wz ⟨rfl, k⟩
    have MZ := Lib.hid (M.out.on k)
    clear k M
    clear c5 c3 c4
    have ET := Lib.hid (show thenL ([] ++ [ta] ++ [tl1] ++ [tu]) d = z from HT.out)
    rw [ET.out]
    go_wp2_with (refine st_store rfl _ _ rfl r rfl _ rfl _ MZ.out.res len_zeros LT.out ?_)
    intro wy r5 o5
    go_wp2
    exact res_tab rfl r rfl _ r5 LT.out rfl ⟨rfl, MZ.out.below.trans (o5.below MZ.out.below.size (fun d hd => by rw [hd]; exact MZ.out.at_r))⟩

set_option maxRecDepth 100000 in
set_option maxHeartbeats 8000000 in
theorem behind_any (x : Cf) (w : World) : Calls Try.prog 38 #[x.val] w (TabPost x.t2 w) := by
  have HT := Lib.hid (show thenL ((bif x.eb then [tbE] else []) ++ (bif x.ib then [tbI] else [])) ids = x.t2 from rfl)
  have LT := Lib.hid (good_t2 x).1
  have CT := Lib.hid then_any
  have LZ := Lib.hid len_zeros
  have C0 := Lib.hid ebcdic_any; have G0 := Lib.hid (show Good tbE from good_tb false)
  have C1 := Lib.hid ibm_any; have G1 := Lib.hid (show Good tbI from good_tb true)
  generalize x.t2 = z at *
  generalize ids = d at *
  generalize tbE = te at *
  generalize tbI = ti at *
  have B0 := Lib.hid (box_new w x)
  obtain ⟨sw, bl, ub, lc, uc, ac, eb, ib, cb⟩ := x
  simp only at HT
  show Calls Try.prog 38 #[.agg #[.bool sw, .bool bl, .bool ub, .bool lc, .bool uc, .bool ac, .bool eb, .bool ib, .int .i64 cb]] w _
  go_enter Try.func38, Try.ntmps38
  go_wp2_with (refine st_alloc rfl rfl ?_)
  intro r w0 r0 k0 l0
  have M := Lib.hid (show AhMid w _ w.heap.size r w0 none 0 0 [] from ⟨B0.out.on (by simpa [Cf.cells] using k0), r0, Nat.le_refl _, (by omega), BufT.nil _, (fun y h => by cases h), (fun g o s h => by cases h), ((Below.refl _ w).alloc (Nat.le_refl _) _).trans (k0.mono (by omega))⟩)
  clear r0 k0 l0 B0
  have c6 := M.out.box.c6; have c7 := M.out.box.c7; simp only [Nat.zero_add] at c6 c7
  cases eb <;> cases ib
  · go_wp2_with fail
    refine (CT.out _ _ _ _ _ (tbs_buft M.out.tabs M.out.good) (by omega)).mono ?_
    rintro e wz ⟨rfl, k⟩
    have MZ := Lib.hid (M.out.on k)
    clear k M
    clear c6 c7
    have ET := Lib.hid (show thenL ([]) d = z from HT.out)
    rw [ET.out]
    go_wp2_with (refine st_store rfl _ _ rfl r rfl _ rfl _ MZ.out.res len_zeros LT.out ?_)
    intro wy r5 o5
    go_wp2
    exact res_tab rfl r rfl _ r5 LT.out rfl ⟨rfl, MZ.out.below.trans (o5.below MZ.out.below.size (fun d hd => by rw [hd]; exact MZ.out.at_r))⟩
  · go_wp2_with fail
    refine (C1.out _).mono ?_
    rintro e v1 ⟨rfl, k⟩
    have M1 := Lib.hid (M.out.on k)
    clear k M
    clear c6 c7
    go_wp2_with (refine st_one rfl _ rfl ti rfl G1.out.1 ?_)
    intro b1 u1 q1 q2 q3
    have M2 := Lib.hid (M1.out.on q2); have Q1 := Lib.hid q1
    clear q1 q2 q3 M1
    go_wp2_with (at_builtin; refine append_tabs rfl _ _ rfl M2.out.tabs rfl Q1.out rfl (by omega) ?_; intro A1 cc1 W1 q1 q2 q3; have M := Lib.hid (M2.out.next G1.out q1 q2 q3); clear q1 q2 q3 M2 Q1; have c6 := M.out.box.c6; have c7 := M.out.box.c7; simp only [Nat.zero_add] at c6 c7)
    refine (CT.out _ _ _ _ _ (tbs_buft M.out.tabs M.out.good) (by omega)).mono ?_
    rintro e wz ⟨rfl, k⟩
    have MZ := Lib.hid (M.out.on k)
    clear k M
    clear c6 c7
    have ET := Lib.hid (show thenL ([] ++ [ti]) d = z from HT.out)
    rw [ET.out]
    go_wp2_with (refine st_store rfl _ _ rfl r rfl _ rfl _ MZ.out.res len_zeros LT.out ?_)
    intro wy r5 o5
    go_wp2
    exact res_tab rfl r rfl _ r5 LT.out rfl ⟨rfl, MZ.out.below.trans (o5.below MZ.out.below.size (fun d hd => by rw [hd]; exact MZ.out.at_r))⟩
  · go_wp2_with fail
    refine (C0.out _).mono ?_
    rintro e v0 ⟨rfl, k⟩
    have M1 := Lib.hid (M.out.on k)
    clear k M
    clear c6 c7
    go_wp2_with (refine st_one rfl _ rfl te rfl G0.out.1 ?_)
    intro b0 u0 q1 q2 q3
    have M2 := Lib.hid (M1.out.on q2); have Q1 := Lib.hid q1
    clear q1 q2 q3 M1
    go_wp2_with (at_builtin; refine append_tabs rfl _ _ rfl M2.out.tabs rfl Q1.out rfl (by omega) ?_; intro A0 cc0 W0 q1 q2 q3; have M := Lib.hid (M2.out.next G0.out q1 q2 q3); clear q1 q2 q3 M2 Q1; have c6 := M.out.box.c6; have c7 := M.out.box.c7; simp only [Nat.zero_add] at c6 c7)
    refine (CT.out _ _ _ _ _ (tbs_buft M.out.tabs M.out.good) (by omega)).mono ?_
    rintro e wz ⟨rfl, k⟩
    have MZ := Lib.hid (M.out.on k)
    clear k M
    clear c6 c7
    have ET := Lib.hid (show thenL ([] ++ [te]) d = z from HT.out)
    rw [ET.out]
    go_wp2_with (refine st_store rfl _ _ rfl r rfl _ rfl _ MZ.out.res len_zeros LT.out ?_)
    intro wy r5 o5
    go_wp2
    exact res_tab rfl r rfl _ r5 LT.out rfl ⟨rfl, MZ.out.below.trans (o5.below MZ.out.below.size (fun d hd => by rw [hd]; exact MZ.out.at_r))⟩
  · go_wp2_with fail
    refine (C0.out _).mono ?_
    rintro e v0 ⟨rfl, k⟩
    have M1 := Lib.hid (M.out.on k)
    clear k M
    clear c6 c7
    go_wp2_with (refine st_one rfl _ rfl te rfl G0.out.1 ?_)
    intro b0 u0 q1 q2 q3
    have M2 := Lib.hid (M1.out.on q2); have Q1 := Lib.hid q1
    clear q1 q2 q3 M1
    go_wp2_with (at_builtin; refine append_tabs rfl _ _ rfl M2.out.tabs rfl Q1.out rfl (by omega) ?_; intro A0 cc0 W0 q1 q2 q3; have M := Lib.hid (M2.out.next G0.out q1 q2 q3); clear q1 q2 q3 M2 Q1; have c6 := M.out.box.c6; have c7 := M.out.box.c7; simp only [Nat.zero_add] at c6 c7)
    go_wp2_with fail
    refine (C1.out _).mono ?_
    rintro e v1 ⟨rfl, k⟩
    have M1 := Lib.hid (M.out.on k)
    clear k M
    clear c6 c7
    go_wp2_with (refine st_one rfl _ rfl ti rfl G1.out.1 ?_)
    intro b1 u1 q1 q2 q3
    have M2 := Lib.hid (M1.out.on q2); have Q1 := Lib.hid q1
    clear q1 q2 q3 M1
    go_wp2_with (at_builtin; refine append_tabs rfl _ _ rfl M2.out.tabs rfl Q1.out rfl (by omega) ?_; intro A1 cc1 W1 q1 q2 q3; have M := Lib.hid (M2.out.next G1.out q1 q2 q3); clear q1 q2 q3 M2 Q1; have c6 := M.out.box.c6; have c7 := M.out.box.c7; simp only [Nat.zero_add] at c6 c7)
    refine (CT.out _ _ _ _ _ (tbs_buft M.out.tabs M.out.good) (by omega)).mono ?_
    rintro e wz ⟨rfl, k⟩
    have MZ := Lib.hid (M.out.on k)
    clear k M
    clear c6 c7
    have ET := Lib.hid (show thenL ([] ++ [te] ++ [ti]) d = z from HT.out)
    rw [ET.out]
    go_wp2_with (refine st_store rfl _ _ rfl r rfl _ rfl _ MZ.out.res len_zeros LT.out ?_)
    intro wy r5 o5
    go_wp2
    exact res_tab rfl r rfl _ r5 LT.out rfl ⟨rfl, MZ.out.below.trans (o5.below MZ.out.below.size (fun d hd => by rw [hd]; exact MZ.out.at_r))⟩

end Go.Proofs.Ytghihmmapignmaa
