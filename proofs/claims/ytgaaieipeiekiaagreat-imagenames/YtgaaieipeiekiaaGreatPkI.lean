/- Contracts of slices.Insert and slices.Delete over names and over files: in place, at the end, in a new row. / Contracts of slices.Delete over names and over files. / An image in a function's own variable: what is told of it, step by step. -/
import Derived.Test.YtgaaieipeiekiaaGreatPkH
import Derived.Laws.Externs
import Derived.WalkKit
import Derived.WalkSpells
import Derived.WalkLawsBesides
import Derived.Lib.Hide
import Derived.BigQuiet
import Derived.Deep.RegionLaw
import Derived.StillTailTactics
import Derived.Deep.Cut
namespace Go.Proofs.YtgaaieipeiekiaaGreat
open Go.RowKit
set_option maxRecDepth 100000

section
variable {α : Type} {E : El α}
theorem splice_take {β : Type} (L : List β) (o : Nat) (cs : List β) (h : o ≤ L.length) : (splice L o cs).take o = L.take o := by
  have hl : (L.take o).length = o := by rw [List.length_take]; omega
  unfold splice
  conv => lhs; arg 1; rw [← hl]
  rw [List.take_left']
  rw [hl]
theorem splice_drop {β : Type} (L : List β) (o : Nat) (cs : List β) (h : o ≤ L.length) : (splice L o cs).drop (o + cs.length) = L.drop (o + cs.length) := by
  unfold splice
  rw [← List.append_assoc, List.drop_append_of_le_length (by simp; omega)]
  simp [Nat.min_eq_left h]
theorem splice_from {β : Type} (L : List β) (o : Nat) (cs : List β) (h : o ≤ L.length) : (splice L o cs).drop o = cs ++ L.drop (o + cs.length) := by
  unfold splice
  rw [List.drop_append_of_le_length (by simp; omega)]
  simp
theorem size_splice {cur : Array Value} {o : Nat} {cs : List Value} (h : o + cs.length ≤ cur.size) : (splice cur.toList o cs).toArray.size = cur.size := by
  rw [List.size_toArray, length_splice _ _ _ (by rw [Array.length_toList]; exact h), Array.length_toList]
theorem cells_pre {cur : List Value} {L : List α} {n : Nat} (ht : cur.take (n * E.k) = E.cells L) (i : Nat) (hi : i ≤ n) : cur.take (i * E.k) = E.cells (L.take i) := by
  rw [← E.cells_take, ← ht, List.take_take, Nat.min_eq_left (Nat.mul_le_mul_right _ hi)]
/-- Moved up by one, one put in. -/
theorem shift_cells {cur : List Value} {L : List α} {n i : Nat} (x : α) (hl : L.length = n) (hi : i ≤ n) (hs : (n + 1) * E.k ≤ cur.length) (ht : cur.take (n * E.k) = E.cells L) :
    (splice (splice cur ((i + 1) * E.k) (E.cells (L.drop i))) (i * E.k) (E.cells [x])).take ((n + 1) * E.k) = E.cells (L.take i ++ x :: L.drop i) := by
  have h1 : (i + 1) * E.k ≤ (n + 1) * E.k := Nat.mul_le_mul_right _ (by omega)
  have h2 : (i + 1) * E.k = i * E.k + E.k := Nat.succ_mul _ _
  have e1 : (E.cells (L.drop i)).length = (n - i) * E.k := by rw [E.cells_len, List.length_drop, hl]
  have e2 : (E.cells [x]).length = E.k := by rw [E.cells_one, E.len]
  have h3 : (i + 1) * E.k + (n - i) * E.k = (n + 1) * E.k := by rw [← Nat.add_mul]; congr 1; omega
  have ls : (splice cur ((i + 1) * E.k) (E.cells (L.drop i))).length = cur.length := length_splice _ _ _ (by rw [e1]; omega)
  have hA : (splice cur ((i + 1) * E.k) (E.cells (L.drop i))).take (i * E.k) = E.cells (L.take i) := by
    have := congrArg (List.take (i * E.k)) (splice_take cur ((i + 1) * E.k) (E.cells (L.drop i)) (by omega))
    rw [List.take_take, List.take_take, Nat.min_eq_left (by omega)] at this
    rw [this, cells_pre ht i hi]
  have hB : (splice cur ((i + 1) * E.k) (E.cells (L.drop i))).drop (i * E.k + E.k) = E.cells (L.drop i) ++ cur.drop ((n + 1) * E.k) := by
    rw [← h2, splice_from _ _ _ (by omega), e1, h3]
  have hS : splice (splice cur ((i + 1) * E.k) (E.cells (L.drop i))) (i * E.k) (E.cells [x]) = E.cells (L.take i ++ x :: L.drop i) ++ cur.drop ((n + 1) * E.k) := by
    conv => lhs; rw [splice]
    rw [hA, e2, hB]
    simp [El.cells]
  rw [hS, List.take_append_of_le_length (by rw [E.cells_len]; simp; rw [hl]; exact Nat.mul_le_mul_right _ (by omega)), List.take_of_length_le (by rw [E.cells_len]; simp; rw [hl]; exact Nat.mul_le_mul_right _ (by omega))]
/-- In a new row. -/
theorem grow_cells {cur : List Value} {L : List α} {n i : Nat} (x : α) (hl : L.length = n) (hi : i ≤ n) (hs : (n + 1) * E.k ≤ cur.length) (ht : cur.take (i * E.k) = E.cells (L.take i)) :
    (splice (splice cur (i * E.k) (E.cells [x])) ((i + 1) * E.k) (E.cells (L.drop i))).take ((n + 1) * E.k) = E.cells (L.take i ++ x :: L.drop i) := by
  have h1 : (i + 1) * E.k ≤ (n + 1) * E.k := Nat.mul_le_mul_right _ (by omega)
  have h2 : (i + 1) * E.k = i * E.k + E.k := Nat.succ_mul _ _
  have e1 : (E.cells (L.drop i)).length = (n - i) * E.k := by rw [E.cells_len, List.length_drop, hl]
  have e2 : (E.cells [x]).length = E.k := by rw [E.cells_one, E.len]
  have h3 : (i + 1) * E.k + (n - i) * E.k = (n + 1) * E.k := by rw [← Nat.add_mul]; congr 1; omega
  have ls : (splice cur (i * E.k) (E.cells [x])).length = cur.length := length_splice _ _ _ (by rw [e2]; omega)
  have hA : (splice cur (i * E.k) (E.cells [x])).take ((i + 1) * E.k) = E.cells (L.take i) ++ E.cells [x] := by
    unfold splice
    rw [ht, ← List.append_assoc, List.take_append_of_le_length (by rw [List.length_append, e2, E.cells_len, List.length_take, hl, Nat.min_eq_left hi]; omega), List.take_of_length_le (by rw [List.length_append, e2, E.cells_len, List.length_take, hl, Nat.min_eq_left hi]; omega)]
  have hS : splice (splice cur (i * E.k) (E.cells [x])) ((i + 1) * E.k) (E.cells (L.drop i)) = E.cells (L.take i ++ x :: L.drop i) ++ (splice cur (i * E.k) (E.cells [x])).drop ((n + 1) * E.k) := by
    conv => lhs; rw [splice]
    rw [hA, e1, h3]
    simp [El.cells]
  rw [hS, List.take_append_of_le_length (by rw [E.cells_len]; simp; rw [hl]; exact Nat.mul_le_mul_right _ (by omega)), List.take_of_length_le (by rw [E.cells_len]; simp; rw [hl]; exact Nat.mul_le_mul_right _ (by omega))]
/-- One taken out, what was behind it moved down; the last place cleared. -/
theorem dele_cells {cur : List Value} {L : List α} {n i : Nat} (z : List Value) (hz : z.length = E.k) (hl : L.length = n) (hi : i < n) (hs : n * E.k ≤ cur.length) (ht : cur.take (n * E.k) = E.cells L) :
    (splice (splice cur (i * E.k) (E.cells (L.drop (i + 1)))) ((n - 1) * E.k) z).take ((n - 1) * E.k) = E.cells (L.take i ++ L.drop (i + 1)) := by
  have e1 : (E.cells (L.drop (i + 1))).length = (n - 1 - i) * E.k := by rw [E.cells_len, List.length_drop, hl]; congr 1; omega
  have h3 : i * E.k + (n - 1 - i) * E.k = (n - 1) * E.k := by rw [← Nat.add_mul]; congr 1; omega
  have h4 : (n - 1) * E.k + E.k = n * E.k := by rw [← Nat.succ_mul]; congr 1; omega
  have ls : (splice cur (i * E.k) (E.cells (L.drop (i + 1)))).length = cur.length := length_splice _ _ _ (by rw [e1]; omega)
  rw [splice_take _ _ _ (by omega)]
  unfold splice
  rw [cells_pre ht i (by omega), ← List.append_assoc, List.take_append_of_le_length (by rw [List.length_append, e1, E.cells_len, List.length_take, hl, Nat.min_eq_left (by omega)]; omega), List.take_of_length_le (by rw [List.length_append, e1, E.cells_len, List.length_take, hl, Nat.min_eq_left (by omega)]; omega), ← E.cells_append]
end
theorem row_only {w w' : World} {g b : Nat} {t : TypeId} {cs : Array Value} (h : Row w b t cs) (o : Only (fun d => d = g) w w') (hn : b ≠ g) : Row w' b t cs := (o.block b h.lt hn).trans h
theorem row_shape {w : World} {b : Nat} {t : TypeId} {cs : Array Value} (h : Row w b t cs) : w.shape? b = some (t, cs.size) := by
  unfold Row at h
  simp [World.shape?, h]
theorem row_cells {w : World} {g : Nat} {t : TypeId} {cur : Array Value} (h : Row w g t cur) (o : Nat) (M : List Value) (hM : ∀ j v, M[j]? = some v → cur[o + j]? = some v) : ∀ j v, M[j]? = some v → w.cell? ((⟨g, o, none⟩ : Addr).add j) = some v := by
  intro j v hj
  rw [Addr.add_mid, h.at]
  exact hM j v hj
theorem take_at_cells {cur : Array Value} {m : Nat} {M : List Value} (h : cur.toList.take m = M) (o : Nat) : ∀ j v, (M.drop o)[j]? = some v → cur[o + j]? = some v := by
  intro j v hj
  rw [List.getElem?_drop, ← h] at hj
  have := (List.getElem?_eq_some_iff.1 hj).1
  rw [List.getElem?_take_of_lt (by rw [List.length_take] at this; omega)] at hj
  simpa using hj
/-- What Insert answers: a row of one's own, the old one or a new one. -/
def RowPost {α : Type} (E : El α) (B : Nat) (A : Option Addr) (L : List α) (m : Nat) (w : World) (e : Ending) (w' : World) : Prop := ∃ A' c', e = .returned (.slice A' m c') ∧ OwnS E B w' (.slice A' m c') L ∧ Only (fun d => A = some ⟨d, 0, none⟩) w w' ∧ ∀ d, A' = some ⟨d, 0, none⟩ → A = some ⟨d, 0, none⟩ ∨ w.heap.size ≤ d
theorem own_block_is {A : Option Addr} {n c d : Nat} (h : A = none ∨ ∃ g, A = some ⟨g, 0, none⟩) : (Value.slice A n c).ownBlock = some d ↔ A = some ⟨d, 0, none⟩ := by
  rcases h with rfl | ⟨g, rfl⟩
  · simp [Value.ownBlock]
  · simp [Value.ownBlock]

set_option maxHeartbeats 8000000 in
theorem insn_any (B : Nat) (A : Option Addr) (n c : Nat) (L : List Nm) (i vb : Nat) (x : Nm) (R : List Nm) (w : World) (h : OwnS elN B w (.slice A n c) L) (hi : i ≤ n) (hn : n ≤ 10000) (hv : Row w vb 62 (elN.enc x).toArray) (hvb : A ≠ some ⟨vb, 0, none⟩) (hB : B ≤ w.heap.size) (hR : L.take i ++ x :: L.drop i = R) :
    Calls Tryz.prog 87 #[.slice A n c, .int .i64 (i : Int), .slice (some ⟨vb, 0, none⟩) 1 1] w (RowPost elN B A R (n + 1) w) := by
  have H := Lib.hid h; have HV := Lib.hid hv; have HR := Lib.hid hR
  obtain ⟨hln, hop⟩ := h.open
  have HLn := Lib.hid hln
  have HL1 := Lib.hid (show R.length = n + 1 by rw [← hR]; simp; omega)
  have HRe := Lib.hid (show i = n → L ++ [x] = R from fun he => by rw [← hR, he, hln, List.take_length, List.drop_length])
  clear h hv hln hR
  have hA : A = none ∨ ∃ g, A = some ⟨g, 0, none⟩ := by
    rcases hop with ⟨h0, _⟩ | ⟨g, _, h0, _⟩
    · exact .inl h0
    · exact .inr ⟨g, h0⟩
  have HE := Lib.hid (show ∀ A' c' w', OwnS elN B w' (.slice A' (n + 1) c') R → Only (fun d => (Value.slice A n c).ownBlock = some d) w w' → (∀ d, A' = some ⟨d, 0, none⟩ → (Value.slice A n c).ownBlock = some d ∨ w.heap.size ≤ d) → RowPost elN B A R (n + 1) w (.returned (.slice A' (n + 1) c')) w' from
    fun A' c' w' q1 q2 q3 => ⟨A', c', rfl, q1, q2.mono (fun d hd => (own_block_is hA).1 hd), fun d hd => (q3 d hd).imp (own_block_is hA).1 id⟩)
  have HS := Lib.hid (sl_one HV.out)
  clear hA
  rcases hop with ⟨rfl, rfl, rfl, hL⟩ | ⟨g, cur, rfl, hBg, hg, hnc, hcm, hsz, htk⟩
  · obtain rfl : i = 0 := by omega
    have HR2 := Lib.hid (HRe.out rfl)
    clear hL HRe
    go_enter Tryz.func87, Tryz.ntmps87
    go_wp2_with (at_builtin; refine st_catE tyN rfl _ _ rfl B _ L rfl H.out _ _ _ [x] rfl HS.out (by rw [← HLn.out]; omega) hB R (0 + 1) HR2.out HL1.out ?_; intro A' c' w1 q1 q2 q3; have Q1 := Lib.hid q1; have Q2 := Lib.hid q2; have Q3 := Lib.hid q3; clear q1 q2 q3)
    go_ret
    exact HE.out A' c' _ Q1.out Q2.out Q3.out
  · have HG := Lib.hid hg; have HSz := Lib.hid hsz; have HTk := Lib.hid htk
    have HBg := Lib.hid hBg
    have hcm' : c ≤ 9223372036854775807 := by unfold maxLen at hcm; omega
    have HCm := Lib.hid hcm
    clear hg hsz htk hBg hcm
    by_cases hin : i = n
    · have HR2 := Lib.hid (HRe.out hin)
      clear HRe
      subst hin
      by_cases hci : c = i
      · subst hci
        go_enter Tryz.func87, Tryz.ntmps87
        go_wp2_with (at_builtin; refine st_catE tyN rfl _ _ rfl B _ L rfl H.out _ _ _ [x] rfl HS.out (by rw [← HLn.out]; omega) hB R (c + 1) HR2.out HL1.out ?_; intro A' c' w1 q1 q2 q3; have Q1 := Lib.hid q1; have Q2 := Lib.hid q2; have Q3 := Lib.hid q3; clear q1 q2 q3)
        go_ret
        exact HE.out A' c' _ Q1.out Q2.out Q3.out
      · go_enter Tryz.func87, Tryz.ntmps87
        go_wp2_with (at_builtin; refine st_catE tyN rfl _ _ rfl B _ L rfl H.out _ _ _ [x] rfl HS.out (by rw [← HLn.out]; omega) hB R (i + 1) HR2.out HL1.out ?_; intro A' c' w1 q1 q2 q3; have Q1 := Lib.hid q1; have Q2 := Lib.hid q2; have Q3 := Lib.hid q3; clear q1 q2 q3)
        go_ret
        exact HE.out A' c' _ Q1.out Q2.out Q3.out
    · have hlt : i < n := by omega
      have hvg : vb ≠ g := fun e => hvb (by rw [e])
      clear hvb HRe HE
      have hnin : ¬ ((i : Int) = (n : Int)) := by omega
      clear hin
      by_cases hroom : n + 1 ≤ c
      · have hr1 : ¬ (c : Int) < (n : Int) + 1 := by omega
        have hci : ¬ c = i := by omega
        have hcj : ¬ c = i + 1 := by omega
        have hi0 : (0 : Int) ≤ (i : Int) + 1 := by omega
        have hi1 : (i : Int) + 1 ≤ (n : Int) + 1 := by omega
        have hi2 : (i : Int) ≤ (n : Int) + 1 := by omega
        have hi3 : ((i : Int) + 1).toNat = i + 1 := by omega
        have hi4 : IntKind.i64.wrap ((i : Int) + 1) = (i : Int) + 1 := by rw [IntKind.wrap_i64]; omega
        have hn1 : (n : Int) + 1 ≤ (c : Int) := by omega
        have hn3 : ((n : Int) + 1).toNat = n + 1 := by omega
        have HV' := HV.out
        have hov : ∀ lb cb, (callFunc 104 #[.slice (some ⟨vb, 0, none⟩) 1 1, .slice (some ⟨g, (i + 1) * 2, none⟩) lb cb]).run Tryz.prog w = .ok (.value (.bool false)) w := fun lb cb => by
          rw [run_callFunc_extern Tryz.func104 (by kernel_rfl) (by kernel_rfl) (by kernel_rfl) (e := Extern.SlicesOverlaps.overlaps #[22, 22] #[4]) (by kernel_rfl),
            Lib.run_overlaps_apart w 22 4 62 Tryz.underlying22 2 (fun w' => Tryz.sizeOf62 w') ⟨vb, 0, none⟩ ⟨g, (i + 1) * 2, none⟩ 1 1 lb cb hvg _ _ _ _ (row_shape HV.out) (row_shape HG.out) (by rw [HSz.out]; show c * 2 ≠ 0; omega) (HV.out.free 0) (HV.out.free _)]
          rfl
        clear HV'
        go_enter Tryz.func87, Tryz.ntmps87
        go_wp2_with (simp only [hov])
        have HZk := Lib.hid (show c * 2 = cur.size from HSz.out.symm)
        have HM1 := Lib.hid (show (L.drop i).length = n - i by rw [List.length_drop, ← HLn.out])
        have HTk' := Lib.hid (show cur.toList.take (n * elN.k) = elN.cells L by have := HTk.out; rwa [← HLn.out] at this)
        have HD := Lib.hid (show Row w.drew g elN.t cur from HG.out)
        have hsrc1 := Lib.hid (show ∀ j v, (elN.cells (L.drop i))[j]? = some v → w.drew.cell? ((⟨g, i * 2, none⟩ : Addr).add j) = some v from row_cells HD.out _ _ (by rw [← elN.cells_drop]; exact take_at_cells HTk'.out _))
        go_still_tail 8, (by kernel_rfl)
        refine st_copyE tyN rfl (.tmp 73) (.tmp 76) rfl g ((i + 1) * 2) _ _ ⟨g, i * 2, none⟩ _ _ (by first | rfl | simp [Act.eval, Act.put]) (by first | rfl | simp [Act.eval, Act.put]) cur HD.out (L.drop i) (by rw [HM1.out]; show min _ _ = _; omega) hsrc1.out (by rw [HM1.out, ← HZk.out]; show (i + 1) * 2 + (n - i) * 2 ≤ c * 2; omega) ?_
        intro w1 r1 o1
        have R1 := Lib.hid r1; have O1 := Lib.hid o1
        clear r1 o1
        have HV1 := Lib.hid (row_only HV.out (Only.trans (T := fun d => d = g) (Only.of_below (S := fun d => d = g) (below_drewN (Below.refl w.heap.size w) 1)) O1.out (fun _ h _ => h)) hvg)
        have HC1 := Lib.hid (show (splice cur.toList ((i + 1) * 2) (elN.cells (L.drop i))).toArray.size = cur.size from size_splice (by rw [elN.cells_len, HM1.out, ← HZk.out]; show (i + 1) * 2 + (n - i) * 2 ≤ c * 2; omega))
        have HV2 := Lib.hid (show ∀ j v, (elN.cells [x])[j]? = some v → w1.cell? ((⟨vb, 0, none⟩ : Addr).add j) = some v from row_cells HV1.out 0 _ (fun j v hj => by rw [elN.cells_one] at hj; rw [Nat.zero_add]; simpa using hj))
        have HX := Lib.hid (show (splice (splice cur.toList ((i + 1) * 2) (elN.cells (L.drop i))).toArray.toList (i * 2) (elN.cells [x])).take ((n + 1) * elN.k) = elN.cells (L.take i ++ x :: L.drop i) from shift_cells (E := elN) (n := n) (i := i) x HLn.out.symm hi (by rw [Array.length_toList, ← HZk.out]; show (n + 1) * 2 ≤ c * 2; omega) HTk'.out)
        generalize (splice cur.toList ((i + 1) * 2) (elN.cells (L.drop i))).toArray = cur1 at *
        have HA1 := Lib.hid (show Nat.min 1 (n + 1 - i) = [x].length by show min _ _ = 1; omega)
        have HA2 := Lib.hid (show i * 2 + [x].length * elN.k ≤ cur1.size by rw [HC1.out, ← HZk.out]; show i * 2 + 1 * 2 ≤ c * 2; omega)
        go_wp2_with (with_reducible refine st_copyE tyN rfl (.tmp 80) (.tmp 81) rfl g (i * 2) _ _ ⟨vb, 0, none⟩ _ _ rfl rfl cur1 R1.out [x] HA1.out HV2.out HA2.out ?_; intro w2 r2 o2; have R2 := Lib.hid r2; have O2 := Lib.hid o2; clear r2 o2)
        go_ret
        refine ⟨some ⟨g, 0, none⟩, c, rfl, ?_, ?_, fun d hd => .inl hd⟩
        · have := OwnS.mk' (E := elN) (L := R) HBg.out R2.out (by rw [HL1.out]; exact hroom) HCm.out (by rw [size_splice (by rw [elN.cells_len, HC1.out, ← HZk.out]; show i * 2 + 1 * 2 ≤ c * 2; omega), HC1.out]; exact HSz.out) (by rw [HL1.out, ← HR.out, ← HX.out])
          rwa [HL1.out] at this
        · refine Only.mono (S := fun d => d = g) ?_ (fun d hd => by rw [hd])
          exact (Only.of_below (S := fun d => d = g) (below_drewN (Below.refl w.heap.size w) 1)).trans (O1.out.trans O2.out (fun _ h _ => h)) (fun _ h _ => h)
      · have hcn : c = n := by omega
        subst hcn
        have hci : ¬ c = i := by omega
        have hr1 : (c : Int) < (c : Int) + 1 := by omega
        have hq1 : (0 : Int) ≤ (i : Int) := by omega
        have hq2 : (i : Int) ≤ (c : Int) := by omega
        have HTk' := Lib.hid (show cur.toList.take (c * elN.k) = elN.cells L by have := HTk.out; rwa [← HLn.out] at this)
        have hsrc0 := Lib.hid (show ∀ j v, (elN.cells (L.take i))[j]? = some v → w.cell? ((⟨g, 0, none⟩ : Addr).add j) = some v from row_cells HG.out 0 _ (by
          have := take_at_cells (cells_pre HTk'.out i hi) 0
          rwa [List.drop_zero] at this))
        have HMi := Lib.hid (show (L.take i).length = i by rw [List.length_take, ← HLn.out]; omega)
        have HM1 := Lib.hid (show (L.drop i).length = c - i by rw [List.length_drop, ← HLn.out])
        have HA1 := Lib.hid (show Nat.min 1 (c + 1 - i) = [x].length by show min _ _ = 1; omega)
        go_enter Tryz.func87, Tryz.ntmps87
        go_upto_region 10 with (at_builtin; refine st_zerosE tyN rfl (.tmp 34) (.tmp 39) rfl ⟨g, 0, none⟩ i c rfl (c + 1 - i) _ rfl (by omega) (by omega) (L.take i) HMi.out hsrc0.out (by omega) (by omega) (c + 1) (by omega) ?_; intro g2 G cur2 w1 hg2 hG hGm hGs hGt r1 k1; have HG2 := Lib.hid hg2; have HGm := Lib.hid hGm; have HGs := Lib.hid hGs; have HGt := Lib.hid hGt; have R1 := Lib.hid r1; have K1 := Lib.hid k1; clear hg2 hGm hGs hGt r1 k1)
        have hgi : ¬ G = i := by omega
        have HV1 := Lib.hid (HV.out.on K1.out)
        have HA2 := Lib.hid (show i * 2 + [x].length * elN.k ≤ cur2.size by rw [HGs.out]; show i * 2 + 1 * 2 ≤ G * 2; omega)
        have HV2 := Lib.hid (show ∀ j v, (elN.cells [x])[j]? = some v → w1.cell? ((⟨vb, 0, none⟩ : Addr).add j) = some v from row_cells HV1.out 0 _ (fun j v hj => by rw [elN.cells_one] at hj; rw [Nat.zero_add]; simpa using hj))
        go_wp2_with (with_reducible refine st_copyE tyN rfl (.tmp 43) (.tmp 44) rfl g2 (i * 2) _ _ ⟨vb, 0, none⟩ _ _ rfl rfl cur2 R1.out [x] HA1.out HV2.out HA2.out ?_; intro w2 r2 o2; have R2 := Lib.hid r2; have O2 := Lib.hid o2; clear r2 o2)
        have hGj : ¬ G = i + 1 := by omega
        have hj0 : (0 : Int) ≤ (i : Int) + 1 := by omega
        have hj1 : (i : Int) + 1 ≤ (c : Int) + 1 := by omega
        have hj3 : ((i : Int) + 1).toNat = i + 1 := by omega
        have hj4 : IntKind.i64.wrap ((i : Int) + 1) = (i : Int) + 1 := by rw [IntKind.wrap_i64]; omega
        have hGm' : G ≤ 9223372036854775807 := by have := HGm.out; unfold maxLen at this; omega
        have HC2 := Lib.hid (show (splice cur2.toList (i * 2) (elN.cells [x])).toArray.size = cur2.size from size_splice (by rw [elN.cells_len, HGs.out]; show i * 2 + 1 * 2 ≤ G * 2; omega))
        have HX := Lib.hid (show (splice (splice cur2.toList (i * 2) (elN.cells [x])).toArray.toList ((i + 1) * 2) (elN.cells (L.drop i))).take ((c + 1) * elN.k) = elN.cells (L.take i ++ x :: L.drop i) from grow_cells (E := elN) (n := c) (i := i) x HLn.out.symm hi (by rw [Array.length_toList, HGs.out]; show (c + 1) * 2 ≤ G * 2; omega) HGt.out)
        have HG1 := Lib.hid (row_only (HG.out.on K1.out) O2.out (by rw [HG2.out]; exact Nat.ne_of_lt HG.out.lt))
        have hsrc1 := Lib.hid (show ∀ j v, (elN.cells (L.drop i))[j]? = some v → w2.drew.cell? ((⟨g, i * 2, none⟩ : Addr).add j) = some v from row_cells (show Row w2.drew g elN.t cur from HG1.out) _ _ (by rw [← elN.cells_drop]; exact take_at_cells HTk'.out _))
        have R3 := Lib.hid (show Row w2.drew g2 elN.t _ from R2.out)
        generalize (splice cur2.toList (i * 2) (elN.cells [x])).toArray = cur3 at *
        go_still_tail 8, (by kernel_rfl)
        refine st_copyE tyN rfl (.tmp 50) (.tmp 53) rfl g2 ((i + 1) * 2) _ _ ⟨g, i * 2, none⟩ _ _ (by first | rfl | simp [Act.eval, Act.put]) (by first | rfl | simp [Act.eval, Act.put]) cur3 R3.out (L.drop i) (by rw [HM1.out]; show min _ _ = _; omega) hsrc1.out (by rw [HM1.out, HC2.out, HGs.out]; show (i + 1) * 2 + (c - i) * 2 ≤ G * 2; omega) ?_
        intro w3 r3 o3
        have R4 := Lib.hid r3; have O3 := Lib.hid o3
        clear r3 o3
        go_wp2
        go_ret
        refine ⟨some ⟨g2, 0, none⟩, G, rfl, ?_, ?_, fun d hd => .inr (by injection hd with hd; injection hd with hd; rw [← hd, HG2.out]; exact Nat.le_refl _)⟩
        · have := OwnS.mk' (E := elN) (L := R) (by rw [HG2.out]; exact hB) R4.out (by rw [HL1.out]; exact hG) HGm.out (by rw [size_splice (by rw [elN.cells_len, HM1.out, HC2.out, HGs.out]; show (i + 1) * 2 + (c - i) * 2 ≤ G * 2; omega), HC2.out]; exact HGs.out) (by rw [HL1.out, ← HR.out, ← HX.out])
          rwa [HL1.out] at this
        · refine Only.mono (S := fun _ => False) (Only.trans (T := fun d => d = g2) (Only.of_below K1.out) (Only.trans O2.out (Only.trans (Only.of_below (S := fun d => d = g2) (below_drewN (Below.refl w2.heap.size w2) 1)) O3.out (fun _ h _ => h)) (fun _ h _ => h)) (fun d hd hl => by rw [hd, HG2.out] at hl; exact absurd hl (Nat.lt_irrefl _))) (fun _ h => h.elim)

set_option maxHeartbeats 8000000 in
theorem insz_any (B : Nat) (A : Option Addr) (n c : Nat) (L : List Nz) (i vb : Nat) (x : Nz) (R : List Nz) (w : World) (h : OwnS elZ B w (.slice A n c) L) (hi : i ≤ n) (hn : n ≤ 10000) (hv : Row w vb 59 (elZ.enc x).toArray) (hvb : A ≠ some ⟨vb, 0, none⟩) (hB : B ≤ w.heap.size) (hR : L.take i ++ x :: L.drop i = R) :
    Calls Tryz.prog 88 #[.slice A n c, .int .i64 (i : Int), .slice (some ⟨vb, 0, none⟩) 1 1] w (RowPost elZ B A R (n + 1) w) := by
  have H := Lib.hid h; have HV := Lib.hid hv; have HR := Lib.hid hR
  obtain ⟨hln, hop⟩ := h.open
  have HLn := Lib.hid hln
  have HL1 := Lib.hid (show R.length = n + 1 by rw [← hR]; simp; omega)
  have HRe := Lib.hid (show i = n → L ++ [x] = R from fun he => by rw [← hR, he, hln, List.take_length, List.drop_length])
  clear h hv hln hR
  have hA : A = none ∨ ∃ g, A = some ⟨g, 0, none⟩ := by
    rcases hop with ⟨h0, _⟩ | ⟨g, _, h0, _⟩
    · exact .inl h0
    · exact .inr ⟨g, h0⟩
  have HE := Lib.hid (show ∀ A' c' w', OwnS elZ B w' (.slice A' (n + 1) c') R → Only (fun d => (Value.slice A n c).ownBlock = some d) w w' → (∀ d, A' = some ⟨d, 0, none⟩ → (Value.slice A n c).ownBlock = some d ∨ w.heap.size ≤ d) → RowPost elZ B A R (n + 1) w (.returned (.slice A' (n + 1) c')) w' from
    fun A' c' w' q1 q2 q3 => ⟨A', c', rfl, q1, q2.mono (fun d hd => (own_block_is hA).1 hd), fun d hd => (q3 d hd).imp (own_block_is hA).1 id⟩)
  have HS := Lib.hid (sl_one HV.out)
  clear hA
  rcases hop with ⟨rfl, rfl, rfl, hL⟩ | ⟨g, cur, rfl, hBg, hg, hnc, hcm, hsz, htk⟩
  · obtain rfl : i = 0 := by omega
    have HR2 := Lib.hid (HRe.out rfl)
    clear hL HRe
    go_enter Tryz.func88, Tryz.ntmps88
    go_wp2_with (at_builtin; refine st_catE tyZ rfl _ _ rfl B _ L rfl H.out _ _ _ [x] rfl HS.out (by rw [← HLn.out]; omega) hB R (0 + 1) HR2.out HL1.out ?_; intro A' c' w1 q1 q2 q3; have Q1 := Lib.hid q1; have Q2 := Lib.hid q2; have Q3 := Lib.hid q3; clear q1 q2 q3)
    go_ret
    exact HE.out A' c' _ Q1.out Q2.out Q3.out
  · have HG := Lib.hid hg; have HSz := Lib.hid hsz; have HTk := Lib.hid htk
    have HBg := Lib.hid hBg
    have hcm' : c ≤ 9223372036854775807 := by unfold maxLen at hcm; omega
    have HCm := Lib.hid hcm
    clear hg hsz htk hBg hcm
    by_cases hin : i = n
    · have HR2 := Lib.hid (HRe.out hin)
      clear HRe
      subst hin
      by_cases hci : c = i
      · subst hci
        go_enter Tryz.func88, Tryz.ntmps88
        go_wp2_with (at_builtin; refine st_catE tyZ rfl _ _ rfl B _ L rfl H.out _ _ _ [x] rfl HS.out (by rw [← HLn.out]; omega) hB R (c + 1) HR2.out HL1.out ?_; intro A' c' w1 q1 q2 q3; have Q1 := Lib.hid q1; have Q2 := Lib.hid q2; have Q3 := Lib.hid q3; clear q1 q2 q3)
        go_ret
        exact HE.out A' c' _ Q1.out Q2.out Q3.out
      · go_enter Tryz.func88, Tryz.ntmps88
        go_wp2_with (at_builtin; refine st_catE tyZ rfl _ _ rfl B _ L rfl H.out _ _ _ [x] rfl HS.out (by rw [← HLn.out]; omega) hB R (i + 1) HR2.out HL1.out ?_; intro A' c' w1 q1 q2 q3; have Q1 := Lib.hid q1; have Q2 := Lib.hid q2; have Q3 := Lib.hid q3; clear q1 q2 q3)
        go_ret
        exact HE.out A' c' _ Q1.out Q2.out Q3.out
    · have hlt : i < n := by omega
      have hvg : vb ≠ g := fun e => hvb (by rw [e])
      clear hvb HRe HE
      have hnin : ¬ ((i : Int) = (n : Int)) := by omega
      clear hin
      by_cases hroom : n + 1 ≤ c
      · have hr1 : ¬ (c : Int) < (n : Int) + 1 := by omega
        have hci : ¬ c = i := by omega
        have hcj : ¬ c = i + 1 := by omega
        have hi0 : (0 : Int) ≤ (i : Int) + 1 := by omega
        have hi1 : (i : Int) + 1 ≤ (n : Int) + 1 := by omega
        have hi2 : (i : Int) ≤ (n : Int) + 1 := by omega
        have hi3 : ((i : Int) + 1).toNat = i + 1 := by omega
        have hi4 : IntKind.i64.wrap ((i : Int) + 1) = (i : Int) + 1 := by rw [IntKind.wrap_i64]; omega
        have hn1 : (n : Int) + 1 ≤ (c : Int) := by omega
        have hn3 : ((n : Int) + 1).toNat = n + 1 := by omega
        have HV' := HV.out
        have hov : ∀ lb cb, (callFunc 106 #[.slice (some ⟨vb, 0, none⟩) 1 1, .slice (some ⟨g, (i + 1) * 3, none⟩) lb cb]).run Tryz.prog w = .ok (.value (.bool false)) w := fun lb cb => by
          rw [run_callFunc_extern Tryz.func106 (by kernel_rfl) (by kernel_rfl) (by kernel_rfl) (e := Extern.SlicesOverlaps.overlaps #[23, 23] #[4]) (by kernel_rfl),
            Lib.run_overlaps_apart w 23 4 59 Tryz.underlying23 3 (fun w' => Tryz.sizeOf59 w') ⟨vb, 0, none⟩ ⟨g, (i + 1) * 3, none⟩ 1 1 lb cb hvg _ _ _ _ (row_shape HV.out) (row_shape HG.out) (by rw [HSz.out]; show c * 3 ≠ 0; omega) (HV.out.free 0) (HV.out.free _)]
          rfl
        clear HV'
        go_enter Tryz.func88, Tryz.ntmps88
        go_wp2_with (simp only [hov])
        have HZk := Lib.hid (show c * 3 = cur.size from HSz.out.symm)
        have HM1 := Lib.hid (show (L.drop i).length = n - i by rw [List.length_drop, ← HLn.out])
        have HTk' := Lib.hid (show cur.toList.take (n * elZ.k) = elZ.cells L by have := HTk.out; rwa [← HLn.out] at this)
        have HD := Lib.hid (show Row w.drew g elZ.t cur from HG.out)
        have hsrc1 := Lib.hid (show ∀ j v, (elZ.cells (L.drop i))[j]? = some v → w.drew.cell? ((⟨g, i * 3, none⟩ : Addr).add j) = some v from row_cells HD.out _ _ (by rw [← elZ.cells_drop]; exact take_at_cells HTk'.out _))
        go_still_tail 8, (by kernel_rfl)
        refine st_copyE tyZ rfl (.tmp 73) (.tmp 76) rfl g ((i + 1) * 3) _ _ ⟨g, i * 3, none⟩ _ _ (by first | rfl | simp [Act.eval, Act.put]) (by first | rfl | simp [Act.eval, Act.put]) cur HD.out (L.drop i) (by rw [HM1.out]; show min _ _ = _; omega) hsrc1.out (by rw [HM1.out, ← HZk.out]; show (i + 1) * 3 + (n - i) * 3 ≤ c * 3; omega) ?_
        intro w1 r1 o1
        have R1 := Lib.hid r1; have O1 := Lib.hid o1
        clear r1 o1
        have HV1 := Lib.hid (row_only HV.out (Only.trans (T := fun d => d = g) (Only.of_below (S := fun d => d = g) (below_drewN (Below.refl w.heap.size w) 1)) O1.out (fun _ h _ => h)) hvg)
        have HC1 := Lib.hid (show (splice cur.toList ((i + 1) * 3) (elZ.cells (L.drop i))).toArray.size = cur.size from size_splice (by rw [elZ.cells_len, HM1.out, ← HZk.out]; show (i + 1) * 3 + (n - i) * 3 ≤ c * 3; omega))
        have HV2 := Lib.hid (show ∀ j v, (elZ.cells [x])[j]? = some v → w1.cell? ((⟨vb, 0, none⟩ : Addr).add j) = some v from row_cells HV1.out 0 _ (fun j v hj => by rw [elZ.cells_one] at hj; rw [Nat.zero_add]; simpa using hj))
        have HX := Lib.hid (show (splice (splice cur.toList ((i + 1) * 3) (elZ.cells (L.drop i))).toArray.toList (i * 3) (elZ.cells [x])).take ((n + 1) * elZ.k) = elZ.cells (L.take i ++ x :: L.drop i) from shift_cells (E := elZ) (n := n) (i := i) x HLn.out.symm hi (by rw [Array.length_toList, ← HZk.out]; show (n + 1) * 3 ≤ c * 3; omega) HTk'.out)
        generalize (splice cur.toList ((i + 1) * 3) (elZ.cells (L.drop i))).toArray = cur1 at *
        have HA1 := Lib.hid (show Nat.min 1 (n + 1 - i) = [x].length by show min _ _ = 1; omega)
        have HA2 := Lib.hid (show i * 3 + [x].length * elZ.k ≤ cur1.size by rw [HC1.out, ← HZk.out]; show i * 3 + 1 * 3 ≤ c * 3; omega)
        go_wp2_with (with_reducible refine st_copyE tyZ rfl (.tmp 80) (.tmp 81) rfl g (i * 3) _ _ ⟨vb, 0, none⟩ _ _ rfl rfl cur1 R1.out [x] HA1.out HV2.out HA2.out ?_; intro w2 r2 o2; have R2 := Lib.hid r2; have O2 := Lib.hid o2; clear r2 o2)
        go_ret
        refine ⟨some ⟨g, 0, none⟩, c, rfl, ?_, ?_, fun d hd => .inl hd⟩
        · have := OwnS.mk' (E := elZ) (L := R) HBg.out R2.out (by rw [HL1.out]; exact hroom) HCm.out (by rw [size_splice (by rw [elZ.cells_len, HC1.out, ← HZk.out]; show i * 3 + 1 * 3 ≤ c * 3; omega), HC1.out]; exact HSz.out) (by rw [HL1.out, ← HR.out, ← HX.out])
          rwa [HL1.out] at this
        · refine Only.mono (S := fun d => d = g) ?_ (fun d hd => by rw [hd])
          exact (Only.of_below (S := fun d => d = g) (below_drewN (Below.refl w.heap.size w) 1)).trans (O1.out.trans O2.out (fun _ h _ => h)) (fun _ h _ => h)
      · have hcn : c = n := by omega
        subst hcn
        have hci : ¬ c = i := by omega
        have hr1 : (c : Int) < (c : Int) + 1 := by omega
        have hq1 : (0 : Int) ≤ (i : Int) := by omega
        have hq2 : (i : Int) ≤ (c : Int) := by omega
        have HTk' := Lib.hid (show cur.toList.take (c * elZ.k) = elZ.cells L by have := HTk.out; rwa [← HLn.out] at this)
        have hsrc0 := Lib.hid (show ∀ j v, (elZ.cells (L.take i))[j]? = some v → w.cell? ((⟨g, 0, none⟩ : Addr).add j) = some v from row_cells HG.out 0 _ (by
          have := take_at_cells (cells_pre HTk'.out i hi) 0
          rwa [List.drop_zero] at this))
        have HMi := Lib.hid (show (L.take i).length = i by rw [List.length_take, ← HLn.out]; omega)
        have HM1 := Lib.hid (show (L.drop i).length = c - i by rw [List.length_drop, ← HLn.out])
        have HA1 := Lib.hid (show Nat.min 1 (c + 1 - i) = [x].length by show min _ _ = 1; omega)
        go_enter Tryz.func88, Tryz.ntmps88
        go_upto_region 10 with (at_builtin; refine st_zerosE tyZ rfl (.tmp 34) (.tmp 39) rfl ⟨g, 0, none⟩ i c rfl (c + 1 - i) _ rfl (by omega) (by omega) (L.take i) HMi.out hsrc0.out (by omega) (by omega) (c + 1) (by omega) ?_; intro g2 G cur2 w1 hg2 hG hGm hGs hGt r1 k1; have HG2 := Lib.hid hg2; have HGm := Lib.hid hGm; have HGs := Lib.hid hGs; have HGt := Lib.hid hGt; have R1 := Lib.hid r1; have K1 := Lib.hid k1; clear hg2 hGm hGs hGt r1 k1)
        have hgi : ¬ G = i := by omega
        have HV1 := Lib.hid (HV.out.on K1.out)
        have HA2 := Lib.hid (show i * 3 + [x].length * elZ.k ≤ cur2.size by rw [HGs.out]; show i * 3 + 1 * 3 ≤ G * 3; omega)
        have HV2 := Lib.hid (show ∀ j v, (elZ.cells [x])[j]? = some v → w1.cell? ((⟨vb, 0, none⟩ : Addr).add j) = some v from row_cells HV1.out 0 _ (fun j v hj => by rw [elZ.cells_one] at hj; rw [Nat.zero_add]; simpa using hj))
        go_wp2_with (with_reducible refine st_copyE tyZ rfl (.tmp 43) (.tmp 44) rfl g2 (i * 3) _ _ ⟨vb, 0, none⟩ _ _ rfl rfl cur2 R1.out [x] HA1.out HV2.out HA2.out ?_; intro w2 r2 o2; have R2 := Lib.hid r2; have O2 := Lib.hid o2; clear r2 o2)
        have hGj : ¬ G = i + 1 := by omega
        have hj0 : (0 : Int) ≤ (i : Int) + 1 := by omega
        have hj1 : (i : Int) + 1 ≤ (c : Int) + 1 := by omega
        have hj3 : ((i : Int) + 1).toNat = i + 1 := by omega
        have hj4 : IntKind.i64.wrap ((i : Int) + 1) = (i : Int) + 1 := by rw [IntKind.wrap_i64]; omega
        have hGm' : G ≤ 9223372036854775807 := by have := HGm.out; unfold maxLen at this; omega
        have HC2 := Lib.hid (show (splice cur2.toList (i * 3) (elZ.cells [x])).toArray.size = cur2.size from size_splice (by rw [elZ.cells_len, HGs.out]; show i * 3 + 1 * 3 ≤ G * 3; omega))
        have HX := Lib.hid (show (splice (splice cur2.toList (i * 3) (elZ.cells [x])).toArray.toList ((i + 1) * 3) (elZ.cells (L.drop i))).take ((c + 1) * elZ.k) = elZ.cells (L.take i ++ x :: L.drop i) from grow_cells (E := elZ) (n := c) (i := i) x HLn.out.symm hi (by rw [Array.length_toList, HGs.out]; show (c + 1) * 3 ≤ G * 3; omega) HGt.out)
        have HG1 := Lib.hid (row_only (HG.out.on K1.out) O2.out (by rw [HG2.out]; exact Nat.ne_of_lt HG.out.lt))
        have hsrc1 := Lib.hid (show ∀ j v, (elZ.cells (L.drop i))[j]? = some v → w2.drew.cell? ((⟨g, i * 3, none⟩ : Addr).add j) = some v from row_cells (show Row w2.drew g elZ.t cur from HG1.out) _ _ (by rw [← elZ.cells_drop]; exact take_at_cells HTk'.out _))
        have R3 := Lib.hid (show Row w2.drew g2 elZ.t _ from R2.out)
        generalize (splice cur2.toList (i * 3) (elZ.cells [x])).toArray = cur3 at *
        go_still_tail 8, (by kernel_rfl)
        refine st_copyE tyZ rfl (.tmp 50) (.tmp 53) rfl g2 ((i + 1) * 3) _ _ ⟨g, i * 3, none⟩ _ _ (by first | rfl | simp [Act.eval, Act.put]) (by first | rfl | simp [Act.eval, Act.put]) cur3 R3.out (L.drop i) (by rw [HM1.out]; show min _ _ = _; omega) hsrc1.out (by rw [HM1.out, HC2.out, HGs.out]; show (i + 1) * 3 + (c - i) * 3 ≤ G * 3; omega) ?_
        intro w3 r3 o3
        have R4 := Lib.hid r3; have O3 := Lib.hid o3
        clear r3 o3
        go_wp2
        go_ret
        refine ⟨some ⟨g2, 0, none⟩, G, rfl, ?_, ?_, fun d hd => .inr (by injection hd with hd; injection hd with hd; rw [← hd, HG2.out]; exact Nat.le_refl _)⟩
        · have := OwnS.mk' (E := elZ) (L := R) (by rw [HG2.out]; exact hB) R4.out (by rw [HL1.out]; exact hG) HGm.out (by rw [size_splice (by rw [elZ.cells_len, HM1.out, HC2.out, HGs.out]; show (i + 1) * 3 + (c - i) * 3 ≤ G * 3; omega), HC2.out]; exact HGs.out) (by rw [HL1.out, ← HR.out, ← HX.out])
          rwa [HL1.out] at this
        · refine Only.mono (S := fun _ => False) (Only.trans (T := fun d => d = g2) (Only.of_below K1.out) (Only.trans O2.out (Only.trans (Only.of_below (S := fun d => d = g2) (below_drewN (Below.refl w2.heap.size w2) 1)) O3.out (fun _ h _ => h)) (fun _ h _ => h)) (fun d hd hl => by rw [hd, HG2.out] at hl; exact absurd hl (Nat.lt_irrefl _))) (fun _ h => h.elim)
end Go.Proofs.YtgaaieipeiekiaaGreat

namespace Go.Proofs.YtgaaieipeiekiaaGreat
open Go.RowKit
set_option maxRecDepth 100000

set_option maxHeartbeats 8000000 in
theorem deln_any (B : Nat) (A : Option Addr) (n m c : Nat) (L : List Nm) (i : Nat) (R : List Nm) (w : World) (h : OwnS elN B w (.slice A n c) L) (hi : i < n) (hn : n ≤ 10000) (hm : n = m + 1) (hR : L.take i ++ L.drop (i + 1) = R) :
    Calls Tryz.prog 90 #[.slice A n c, .int .i64 (i : Int), .int .i64 ((i : Int) + 1)] w (RowPost elN B A R m w) := by
  have HR := Lib.hid hR
  obtain ⟨hln, hop⟩ := h.open
  have HLn := Lib.hid hln
  have HL1 := Lib.hid (show R.length = m by rw [← hR]; simp; omega)
  clear h hln hR
  rcases hop with ⟨rfl, rfl, rfl, hL⟩ | ⟨g, cur, rfl, hBg, hg, hnc, hcm, hsz, htk⟩
  · omega
  · have HG := Lib.hid hg; have HSz := Lib.hid hsz; have HBg := Lib.hid hBg
    have HTk' := Lib.hid (show cur.toList.take (n * elN.k) = elN.cells L by rwa [← HLn.out] at htk)
    have hcm' : c ≤ 9223372036854775807 := by unfold maxLen at hcm; omega
    have HCm := Lib.hid hcm
    clear hg hsz htk hBg hcm
    have HZk := Lib.hid (show c * 2 = cur.size from HSz.out.symm)
    have HM1 := Lib.hid (show (L.drop (i + 1)).length = n - (i + 1) by rw [List.length_drop, ← HLn.out])
    have HX := Lib.hid (show ∀ z : List Value, z.length = elN.k → (splice (splice cur.toList (i * 2) (elN.cells (L.drop (i + 1)))).toArray.toList (m * 2) z).take (m * elN.k) = elN.cells (L.take i ++ L.drop (i + 1)) from fun z hz => by
      have := dele_cells (E := elN) (n := n) (i := i) z hz HLn.out.symm hi (by rw [Array.length_toList, ← HZk.out]; show n * 2 ≤ c * 2; omega) HTk'.out
      rwa [show n - 1 = m by omega] at this)
    have HC1 := Lib.hid (show (splice cur.toList (i * 2) (elN.cells (L.drop (i + 1)))).toArray.size = cur.size from size_splice (by rw [elN.cells_len, HM1.out, ← HZk.out]; show i * 2 + (n - (i + 1)) * 2 ≤ c * 2; omega))
    have HD := Lib.hid (show Row w.drew g elN.t cur from HG.out)
    have hsrc1 := Lib.hid (show ∀ j v, (elN.cells (L.drop (i + 1)))[j]? = some v → w.drew.cell? ((⟨g, (i + 1) * 2, none⟩ : Addr).add j) = some v from row_cells HD.out _ _ (by rw [← elN.cells_drop]; exact take_at_cells HTk'.out _))
    have hi0 : (0 : Int) ≤ (i : Int) + 1 := by omega
    have hi1 : (i : Int) + 1 ≤ (n : Int) := by omega
    have hi2 : (i : Int) ≤ (n : Int) := by omega
    have hi3 : ((i : Int) + 1).toNat = i + 1 := by omega
    have hi4 : (i : Int) ≤ (i : Int) + 1 := by omega
    have hi5 : ¬ ((i : Int) = (i : Int) + 1) := by omega
    have hi6 : (n : Int) ≤ (c : Int) := by omega
    have hi7 : (i : Int) ≤ (c : Int) := by omega
    have hi8 : ((i : Int) == (i : Int) + 1) = false := by simp; omega
    have hmn : i + (n - (i + 1)) = m := by omega
    have hm1 : (m : Int) ≤ (n : Int) := by omega
    have hcmm : ¬ c = m := by omega
    have HNM := Lib.hid (show n - m = 1 by omega)
    have hm2 : m < n := by omega
    have hm3 : n ≤ m + 1 := by omega
    replace hmn := Lib.hid hmn
    replace hm := Lib.hid hm
    by_cases hcj : c = i + 1
    · obtain rfl : n = i + 1 := by omega
      obtain rfl : m = i := by omega
      subst hcj
      go_enter Tryz.func90, Tryz.ntmps90
      go_wp2
      go_still_tail 6, (by kernel_rfl)
      refine st_fitE tyN rfl (.tmp 22) (.tmp 25) rfl g m (m + 1) (by first | rfl | simp [Act.eval, Act.put]) (some ⟨g, 0, none⟩) 0 _ (by first | rfl | simp [Act.eval, Act.put]) cur HD.out (L.drop (m + 1)) (by rw [HM1.out]; omega) (fun h => absurd h (by decide)) (by omega) (by rw [HSz.out]; exact Nat.le_refl _) m rfl ?_
      intro w1 r1 o1
      have R1 := Lib.hid (show Row w1 g elN.t (splice cur.toList (m * 2) (elN.cells (L.drop (m + 1)))).toArray from r1); have O1 := Lib.hid o1
      clear r1 o1
      have HF := Lib.hid (show m * 2 + 1 * elN.k ≤ (splice cur.toList (m * 2) (elN.cells (L.drop (m + 1)))).toArray.size by rw [HC1.out, ← HZk.out]; show m * 2 + 1 * 2 ≤ (m + 1) * 2; omega)
      have HP := Lib.hid (show 0 < 1 by omega)
      have HX2 := Lib.hid (show ∀ z : List Value, z.length = elN.k → (splice (splice cur.toList (m * 2) (elN.cells (L.drop (m + 1)))).toArray.toList (m * 2) z).take (m * elN.k) = elN.cells (L.take m ++ L.drop (m + 1)) from HX.out)
      clear HX
      generalize (splice cur.toList (m * 2) (elN.cells (L.drop (m + 1)))).toArray = cur1 at *
      go_wp2_with (with_reducible refine st_clearE tyN rfl (.tmp 31) rfl g (m * 2) (1) _ rfl HP.out cur1 R1.out HF.out ?_; intro w2 r2 o2; have R2 := Lib.hid r2; have O2 := Lib.hid o2; clear r2 o2)
      go_ret
      refine ⟨some ⟨g, 0, none⟩, m + 1, rfl, ?_, ?_, fun d hd => .inl hd⟩
      · have := OwnS.mk' (E := elN) (L := R) HBg.out R2.out (by rw [HL1.out]; omega) HCm.out (by rw [size_splice (by rw [elN.cells_len, List.length_replicate]; exact HF.out), HC1.out]; exact HSz.out) (by rw [HL1.out, ← HR.out, ← HX2.out _ (show (elN.cells (List.replicate (1) nm0)).length = elN.k by rw [elN.cells_len, List.length_replicate]; show 1 * 2 = 2; omega)])
        rwa [HL1.out] at this
      · refine Only.mono (S := fun d => d = g) ?_ (fun d hd => by rw [hd])
        exact (Only.of_below (S := fun d => d = g) (below_drewN (Below.refl w.heap.size w) 1)).trans (O1.out.trans O2.out (fun _ h _ => h)) (fun _ h _ => h)
    · go_enter Tryz.func90, Tryz.ntmps90
      go_wp2
      go_still_tail 6, (by kernel_rfl)
      refine st_fitE tyN rfl (.tmp 22) (.tmp 25) rfl g i c (by first | rfl | simp [Act.eval, Act.put]) (some ⟨g, (i + 1) * 2, none⟩) (n - (i + 1)) _ (by first | rfl | simp [Act.eval, Act.put]) cur HD.out (L.drop (i + 1)) HM1.out (fun _ => ⟨_, rfl, hsrc1.out⟩) (by omega) (by rw [HSz.out]; exact Nat.le_refl _) m hmn.out ?_
      intro w1 r1 o1
      have R1 := Lib.hid (show Row w1 g elN.t (splice cur.toList (i * 2) (elN.cells (L.drop (i + 1)))).toArray from r1); have O1 := Lib.hid o1
      clear r1 o1
      have HF := Lib.hid (show m * 2 + (n - m) * elN.k ≤ (splice cur.toList (i * 2) (elN.cells (L.drop (i + 1)))).toArray.size by rw [HC1.out, ← HZk.out]; show m * 2 + (n - m) * 2 ≤ c * 2; omega)
      have HP := Lib.hid (show 0 < n - m by omega)
      have HX2 := Lib.hid (show ∀ z : List Value, z.length = elN.k → (splice (splice cur.toList (i * 2) (elN.cells (L.drop (i + 1)))).toArray.toList (m * 2) z).take (m * elN.k) = elN.cells (L.take i ++ L.drop (i + 1)) from HX.out)
      clear HX
      generalize (splice cur.toList (i * 2) (elN.cells (L.drop (i + 1)))).toArray = cur1 at *
      go_wp2_with (with_reducible refine st_clearE tyN rfl (.tmp 31) rfl g (m * 2) (n - m) _ rfl HP.out cur1 R1.out HF.out ?_; intro w2 r2 o2; have R2 := Lib.hid r2; have O2 := Lib.hid o2; clear r2 o2)
      go_ret
      refine ⟨some ⟨g, 0, none⟩, c, rfl, ?_, ?_, fun d hd => .inl hd⟩
      · have := OwnS.mk' (E := elN) (L := R) HBg.out R2.out (by rw [HL1.out]; omega) HCm.out (by rw [size_splice (by rw [elN.cells_len, List.length_replicate]; exact HF.out), HC1.out]; exact HSz.out) (by rw [HL1.out, ← HR.out, ← HX2.out _ (show (elN.cells (List.replicate (n - m) nm0)).length = elN.k by rw [elN.cells_len, List.length_replicate]; show (n - m) * 2 = 2; omega)])
        rwa [HL1.out] at this
      · refine Only.mono (S := fun d => d = g) ?_ (fun d hd => by rw [hd])
        exact (Only.of_below (S := fun d => d = g) (below_drewN (Below.refl w.heap.size w) 1)).trans (O1.out.trans O2.out (fun _ h _ => h)) (fun _ h _ => h)

set_option maxHeartbeats 8000000 in
theorem delz_any (B : Nat) (A : Option Addr) (n m c : Nat) (L : List Nz) (i : Nat) (R : List Nz) (w : World) (h : OwnS elZ B w (.slice A n c) L) (hi : i < n) (hn : n ≤ 10000) (hm : n = m + 1) (hR : L.take i ++ L.drop (i + 1) = R) :
    Calls Tryz.prog 91 #[.slice A n c, .int .i64 (i : Int), .int .i64 ((i : Int) + 1)] w (RowPost elZ B A R m w) := by
  have HR := Lib.hid hR
  obtain ⟨hln, hop⟩ := h.open
  have HLn := Lib.hid hln
  have HL1 := Lib.hid (show R.length = m by rw [← hR]; simp; omega)
  clear h hln hR
  rcases hop with ⟨rfl, rfl, rfl, hL⟩ | ⟨g, cur, rfl, hBg, hg, hnc, hcm, hsz, htk⟩
  · omega
  · have HG := Lib.hid hg; have HSz := Lib.hid hsz; have HBg := Lib.hid hBg
    have HTk' := Lib.hid (show cur.toList.take (n * elZ.k) = elZ.cells L by rwa [← HLn.out] at htk)
    have hcm' : c ≤ 9223372036854775807 := by unfold maxLen at hcm; omega
    have HCm := Lib.hid hcm
    clear hg hsz htk hBg hcm
    have HZk := Lib.hid (show c * 3 = cur.size from HSz.out.symm)
    have HM1 := Lib.hid (show (L.drop (i + 1)).length = n - (i + 1) by rw [List.length_drop, ← HLn.out])
    have HX := Lib.hid (show ∀ z : List Value, z.length = elZ.k → (splice (splice cur.toList (i * 3) (elZ.cells (L.drop (i + 1)))).toArray.toList (m * 3) z).take (m * elZ.k) = elZ.cells (L.take i ++ L.drop (i + 1)) from fun z hz => by
      have := dele_cells (E := elZ) (n := n) (i := i) z hz HLn.out.symm hi (by rw [Array.length_toList, ← HZk.out]; show n * 3 ≤ c * 3; omega) HTk'.out
      rwa [show n - 1 = m by omega] at this)
    have HC1 := Lib.hid (show (splice cur.toList (i * 3) (elZ.cells (L.drop (i + 1)))).toArray.size = cur.size from size_splice (by rw [elZ.cells_len, HM1.out, ← HZk.out]; show i * 3 + (n - (i + 1)) * 3 ≤ c * 3; omega))
    have HD := Lib.hid (show Row w.drew g elZ.t cur from HG.out)
    have hsrc1 := Lib.hid (show ∀ j v, (elZ.cells (L.drop (i + 1)))[j]? = some v → w.drew.cell? ((⟨g, (i + 1) * 3, none⟩ : Addr).add j) = some v from row_cells HD.out _ _ (by rw [← elZ.cells_drop]; exact take_at_cells HTk'.out _))
    have hi0 : (0 : Int) ≤ (i : Int) + 1 := by omega
    have hi1 : (i : Int) + 1 ≤ (n : Int) := by omega
    have hi2 : (i : Int) ≤ (n : Int) := by omega
    have hi3 : ((i : Int) + 1).toNat = i + 1 := by omega
    have hi4 : (i : Int) ≤ (i : Int) + 1 := by omega
    have hi5 : ¬ ((i : Int) = (i : Int) + 1) := by omega
    have hi6 : (n : Int) ≤ (c : Int) := by omega
    have hi7 : (i : Int) ≤ (c : Int) := by omega
    have hi8 : ((i : Int) == (i : Int) + 1) = false := by simp; omega
    have hmn : i + (n - (i + 1)) = m := by omega
    have hm1 : (m : Int) ≤ (n : Int) := by omega
    have hcmm : ¬ c = m := by omega
    have HNM := Lib.hid (show n - m = 1 by omega)
    have hm2 : m < n := by omega
    have hm3 : n ≤ m + 1 := by omega
    replace hmn := Lib.hid hmn
    replace hm := Lib.hid hm
    by_cases hcj : c = i + 1
    · obtain rfl : n = i + 1 := by omega
      obtain rfl : m = i := by omega
      subst hcj
      go_enter Tryz.func91, Tryz.ntmps91
      go_wp2
      go_still_tail 6, (by kernel_rfl)
      refine st_fitE tyZ rfl (.tmp 22) (.tmp 25) rfl g m (m + 1) (by first | rfl | simp [Act.eval, Act.put]) (some ⟨g, 0, none⟩) 0 _ (by first | rfl | simp [Act.eval, Act.put]) cur HD.out (L.drop (m + 1)) (by rw [HM1.out]; omega) (fun h => absurd h (by decide)) (by omega) (by rw [HSz.out]; exact Nat.le_refl _) m rfl ?_
      intro w1 r1 o1
      have R1 := Lib.hid (show Row w1 g elZ.t (splice cur.toList (m * 3) (elZ.cells (L.drop (m + 1)))).toArray from r1); have O1 := Lib.hid o1
      clear r1 o1
      have HF := Lib.hid (show m * 3 + 1 * elZ.k ≤ (splice cur.toList (m * 3) (elZ.cells (L.drop (m + 1)))).toArray.size by rw [HC1.out, ← HZk.out]; show m * 3 + 1 * 3 ≤ (m + 1) * 3; omega)
      have HP := Lib.hid (show 0 < 1 by omega)
      have HX2 := Lib.hid (show ∀ z : List Value, z.length = elZ.k → (splice (splice cur.toList (m * 3) (elZ.cells (L.drop (m + 1)))).toArray.toList (m * 3) z).take (m * elZ.k) = elZ.cells (L.take m ++ L.drop (m + 1)) from HX.out)
      clear HX
      generalize (splice cur.toList (m * 3) (elZ.cells (L.drop (m + 1)))).toArray = cur1 at *
      go_wp2_with (with_reducible refine st_clearE tyZ rfl (.tmp 31) rfl g (m * 3) (1) _ rfl HP.out cur1 R1.out HF.out ?_; intro w2 r2 o2; have R2 := Lib.hid r2; have O2 := Lib.hid o2; clear r2 o2)
      go_ret
      refine ⟨some ⟨g, 0, none⟩, m + 1, rfl, ?_, ?_, fun d hd => .inl hd⟩
      · have := OwnS.mk' (E := elZ) (L := R) HBg.out R2.out (by rw [HL1.out]; omega) HCm.out (by rw [size_splice (by rw [elZ.cells_len, List.length_replicate]; exact HF.out), HC1.out]; exact HSz.out) (by rw [HL1.out, ← HR.out, ← HX2.out _ (show (elZ.cells (List.replicate (1) nz0)).length = elZ.k by rw [elZ.cells_len, List.length_replicate]; show 1 * 3 = 3; omega)])
        rwa [HL1.out] at this
      · refine Only.mono (S := fun d => d = g) ?_ (fun d hd => by rw [hd])
        exact (Only.of_below (S := fun d => d = g) (below_drewN (Below.refl w.heap.size w) 1)).trans (O1.out.trans O2.out (fun _ h _ => h)) (fun _ h _ => h)
    · go_enter Tryz.func91, Tryz.ntmps91
      go_wp2
      go_still_tail 6, (by kernel_rfl)
      refine st_fitE tyZ rfl (.tmp 22) (.tmp 25) rfl g i c (by first | rfl | simp [Act.eval, Act.put]) (some ⟨g, (i + 1) * 3, none⟩) (n - (i + 1)) _ (by first | rfl | simp [Act.eval, Act.put]) cur HD.out (L.drop (i + 1)) HM1.out (fun _ => ⟨_, rfl, hsrc1.out⟩) (by omega) (by rw [HSz.out]; exact Nat.le_refl _) m hmn.out ?_
      intro w1 r1 o1
      have R1 := Lib.hid (show Row w1 g elZ.t (splice cur.toList (i * 3) (elZ.cells (L.drop (i + 1)))).toArray from r1); have O1 := Lib.hid o1
      clear r1 o1
      have HF := Lib.hid (show m * 3 + (n - m) * elZ.k ≤ (splice cur.toList (i * 3) (elZ.cells (L.drop (i + 1)))).toArray.size by rw [HC1.out, ← HZk.out]; show m * 3 + (n - m) * 3 ≤ c * 3; omega)
      have HP := Lib.hid (show 0 < n - m by omega)
      have HX2 := Lib.hid (show ∀ z : List Value, z.length = elZ.k → (splice (splice cur.toList (i * 3) (elZ.cells (L.drop (i + 1)))).toArray.toList (m * 3) z).take (m * elZ.k) = elZ.cells (L.take i ++ L.drop (i + 1)) from HX.out)
      clear HX
      generalize (splice cur.toList (i * 3) (elZ.cells (L.drop (i + 1)))).toArray = cur1 at *
      go_wp2_with (with_reducible refine st_clearE tyZ rfl (.tmp 31) rfl g (m * 3) (n - m) _ rfl HP.out cur1 R1.out HF.out ?_; intro w2 r2 o2; have R2 := Lib.hid r2; have O2 := Lib.hid o2; clear r2 o2)
      go_ret
      refine ⟨some ⟨g, 0, none⟩, c, rfl, ?_, ?_, fun d hd => .inl hd⟩
      · have := OwnS.mk' (E := elZ) (L := R) HBg.out R2.out (by rw [HL1.out]; omega) HCm.out (by rw [size_splice (by rw [elZ.cells_len, List.length_replicate]; exact HF.out), HC1.out]; exact HSz.out) (by rw [HL1.out, ← HR.out, ← HX2.out _ (show (elZ.cells (List.replicate (n - m) nz0)).length = elZ.k by rw [elZ.cells_len, List.length_replicate]; show (n - m) * 3 = 3; omega)])
        rwa [HL1.out] at this
      · refine Only.mono (S := fun d => d = g) ?_ (fun d hd => by rw [hd])
        exact (Only.of_below (S := fun d => d = g) (below_drewN (Below.refl w.heap.size w) 1)).trans (O1.out.trans O2.out (fun _ h _ => h)) (fun _ h _ => h)
end Go.Proofs.YtgaaieipeiekiaaGreat

namespace Go.Proofs.YtgaaieipeiekiaaGreat
open Go.RowKit
set_option maxRecDepth 100000

theorem only_set1 (w : World) (b k : Nat) (x : Value) : Only (fun d => d = b) w (w.setCell ⟨b, k, none⟩ x) := (Only.refl (fun d => d = b) w).setCell ⟨b, k, none⟩ (fun _ => rfl) x
theorem only_set2 (w : World) (b : Nat) (x y : Value) : Only (fun d => d = b) w ((w.setCell ⟨b, 0, none⟩ x).setCell ⟨b, 1, none⟩ y) :=
  ((Only.refl (fun d => d = b) w).setCell ⟨b, 0, none⟩ (fun _ => rfl) x).setCell ⟨b, 1, none⟩ (fun _ => rfl) y
/-- What a changer answers. -/
def ImgPost (B : Nat) (A A' : Option Addr) (N : List Nm) (Z : List Nz) (w : World) (e : Ending) (w' : World) : Prop := ∃ D d D' d', e = .returned (iv D N.length d D' Z.length d') ∧ Next B w w' A A' D d D' d' N Z
theorem Img.keep {B : Nat} {S : Nat → Prop} {w w' : World} {A : Option Addr} {c : Nat} {A' : Option Addr} {c' : Nat} {N : List Nm} {Z : List Nz} (h : Img B w A c A' c' N Z) (o : Only S w w') (h1 : ∀ d, S2 A A' d → ¬ S d) (h2 : ∀ z ∈ Z, 0 < z.n → ∀ g p, z.A = some ⟨g, p, none⟩ → ¬ S g) : Img B w' A c A' c' N Z :=
  ⟨h.names.only o (fun g hg => h1 g (.inl hg)), h.nodes.only o (fun g hg => h1 g (.inr hg)), fun z hz => (h.exts z hz).only o (fun g p he hn => h2 z hz hn g p he), h.apart, h.str⟩
/-- The image lies in the variable b, the result in the one behind it; both were made behind w. -/
structure Va (B : Nat) (w wr : World) (A A' : Option Addr) (D : Option Addr) (d : Nat) (D' : Option Addr) (d' : Nat) (N : List Nm) (Z : List Nz) : Prop where
  nx : Next B w wr A A' D d D' d' N Z
  box : IBox wr w.heap.size D N.length d D' Z.length d'
  res : IBox wr (w.heap.size + 1) none 0 0 none 0 0
  new : ∀ g, S2 D D' g → g < w.heap.size ∨ w.heap.size + 2 ≤ g
  off : ∀ z ∈ Z, 0 < z.n → ∀ g p, z.A = some ⟨g, p, none⟩ → g < w.heap.size ∨ w.heap.size + 2 ≤ g
  size : w.heap.size + 2 ≤ wr.heap.size
def entry (w : World) (A : Option Addr) (n c : Nat) (A' : Option Addr) (n' c' : Nat) : World := (w.alloc (.cells #[.slice A n c, .slice A' n' c'] 25)).alloc (.cells #[.slice none 0 0, .slice none 0 0] 25)
theorem entry_below (w : World) (A : Option Addr) (n c : Nat) (A' : Option Addr) (n' c' : Nat) : Below w.heap.size w (entry w A n c A' n' c') := ((Below.refl _ _).alloc (Nat.le_refl _) _).alloc (by simp) _
section
variable {B : Nat} {w wr : World} {A A' : Option Addr} {D : Option Addr} {d : Nat} {D' : Option Addr} {d' : Nat} {N : List Nm} {Z : List Nz}
theorem Va.on (h : Va B w wr A A' D d D' d' N Z) {w2 : World} (k : Below wr.heap.size wr w2) : Va B w w2 A A' D d D' d' N Z :=
  ⟨h.nx.post k, h.box.on k, h.res.on k, h.new, h.off, Nat.le_trans h.size k.size⟩
theorem va_start {c c' : Nat} (h : Img B w A c A' c' N Z) : Va B w (entry w A N.length c A' Z.length c') A A' A c A' c' N Z := by
  refine ⟨Next.self h (entry_below _ _ _ _ _ _ _), (ibox_new w _ _ _ _ _ _).on ((Below.refl _ _).alloc (Nat.le_refl _) _), ?_, fun g hg => .inl (h.lt hg).2, fun z hz hn g p he => .inl ?_, by simp [entry]⟩
  · have := ibox_new (w.alloc (.cells #[.slice A N.length c, .slice A' Z.length c'] 25)) none 0 0 none 0 0
    simpa [entry] using this
  · have := h.exts z hz; rw [he] at this; exact this.lt hn
/-- Names changed, and stored. -/
theorem Va.names (h : Va B w wr A A' D d D' d' N Z) {w3 : World} {F : Option Addr} {f m : Nat} {R : List Nm} (q : OwnS elN B w3 (.slice F m f) R) (hm : R.length = m) (o : Only (fun d => D = some ⟨d, 0, none⟩) wr w3) (s : ∀ g, F = some ⟨g, 0, none⟩ → D = some ⟨g, 0, none⟩ ∨ wr.heap.size ≤ g) (hs : ∀ x ∈ R, x.name.size ≤ maxLen) :
    Va B w (w3.setCell ⟨w.heap.size, 0, none⟩ (.slice F m f)) A A' F f D' d' R Z := by
  subst hm
  have n1 := h.nx.trans (h.nx.img.setN q rfl o s hs)
  have hne : ∀ g, D = some ⟨g, 0, none⟩ → g ≠ w.heap.size ∧ g ≠ w.heap.size + 1 := fun g hg => by have := h.new g (.inl hg); omega
  have hF : ∀ g, S2 F D' g → g < w.heap.size ∨ w.heap.size + 2 ≤ g := fun g hg => by
    have hsz := h.size
    rcases hg with hg | hg
    · rcases s g hg with h1 | h1
      · exact h.new g (.inl h1)
      · omega
    · exact h.new g (.inr hg)
  have bx : IBox w3 w.heap.size D N.length d D' Z.length d' := Row.only h.box o (fun hd => (hne _ hd).1 rfl)
  have rx : IBox w3 (w.heap.size + 1) none 0 0 none 0 0 := Row.only h.res o (fun hd => (hne _ hd).2 rfl)
  have ob := only_set1 w3 w.heap.size 0 (.slice F R.length f)
  refine ⟨⟨n1.img.keep ob (fun g hg he => by have := hF g hg; omega) (fun z hz hn g p he h2 => by have := h.off z hz hn g p he; omega), n1.only.trans ob (fun d hd hl => by omega), n1.src⟩, Row.setv bx 0 _, Row.only rx ob (by omega), hF, h.off, ?_⟩
  have := h.size; have := o.size
  simp [World.setCell]; omega
/-- Files changed, and stored. -/
theorem Va.nodes (h : Va B w wr A A' D d D' d' N Z) {w3 : World} {F : Option Addr} {f m : Nat} {R : List Nz} (q : OwnS elZ B w3 (.slice F m f) R) (hm : R.length = m) (o : Only (fun d => D' = some ⟨d, 0, none⟩) wr w3) (s : ∀ g, F = some ⟨g, 0, none⟩ → D' = some ⟨g, 0, none⟩ ∨ wr.heap.size ≤ g) (hR : ∀ z ∈ R, z ∈ Z ∨ (z.n = 0 ∧ Exts w3 z.A z.n z.c z.L)) :
    Va B w (w3.setCell ⟨w.heap.size, 1, none⟩ (.slice F m f)) A A' D d F f N R := by
  subst hm
  have n1 := h.nx.trans (h.nx.img.setZ q rfl o s hR)
  have hne : ∀ g, D' = some ⟨g, 0, none⟩ → g ≠ w.heap.size ∧ g ≠ w.heap.size + 1 := fun g hg => by have := h.new g (.inr hg); omega
  have hF : ∀ g, S2 D F g → g < w.heap.size ∨ w.heap.size + 2 ≤ g := fun g hg => by
    have hsz := h.size
    rcases hg with hg | hg
    · exact h.new g (.inl hg)
    · rcases s g hg with h1 | h1
      · exact h.new g (.inr h1)
      · omega
  have hoff : ∀ z ∈ R, 0 < z.n → ∀ g p, z.A = some ⟨g, p, none⟩ → g < w.heap.size ∨ w.heap.size + 2 ≤ g := fun z hz hn g p he => by
    rcases hR z hz with h1 | h1
    · exact h.off z h1 hn g p he
    · omega
  have bx : IBox w3 w.heap.size D N.length d D' Z.length d' := Row.only h.box o (fun hd => (hne _ hd).1 rfl)
  have rx : IBox w3 (w.heap.size + 1) none 0 0 none 0 0 := Row.only h.res o (fun hd => (hne _ hd).2 rfl)
  have ob := only_set1 w3 w.heap.size 1 (.slice F R.length f)
  refine ⟨⟨n1.img.keep ob (fun g hg he => by have := hF g hg; omega) (fun z hz hn g p he h2 => by have := hoff z hz hn g p he; omega), n1.only.trans ob (fun d hd hl => by omega), n1.src⟩, Row.setv bx 1 _, Row.only rx ob (by omega), hF, hoff, ?_⟩
  have := h.size; have := o.size
  simp [World.setCell]; omega
/-- The whole image changed, and stored. -/
theorem Va.image (h : Va B w wr A A' D d D' d' N Z) {w3 : World} {F : Option Addr} {f : Nat} {F' : Option Addr} {f' : Nat} {M : List Nm} {Y : List Nz} (n : Next B wr w3 D D' F f F' f' M Y) (hoff : ∀ z ∈ Y, 0 < z.n → ∀ g p, z.A = some ⟨g, p, none⟩ → g < w.heap.size ∨ w.heap.size + 2 ≤ g) :
    Va B w ((w3.setCell ⟨w.heap.size, 0, none⟩ (.slice F M.length f)).setCell ⟨w.heap.size, 1, none⟩ (.slice F' Y.length f')) A A' F f F' f' M Y := by
  have n1 := h.nx.trans n
  have hne : ∀ g, S2 D D' g → g ≠ w.heap.size ∧ g ≠ w.heap.size + 1 := fun g hg => by have := h.new g hg; omega
  have hF : ∀ g, S2 F F' g → g < w.heap.size ∨ w.heap.size + 2 ≤ g := fun g hg => by
    have hsz := h.size
    rcases n.src g hg with h1 | h1
    · exact h.new g h1
    · omega
  have bx : IBox w3 w.heap.size D N.length d D' Z.length d' := Row.only h.box n.only (fun hd => (hne _ hd).1 rfl)
  have rx : IBox w3 (w.heap.size + 1) none 0 0 none 0 0 := Row.only h.res n.only (fun hd => (hne _ hd).2 rfl)
  have ob := only_set2 w3 w.heap.size (.slice F M.length f) (.slice F' Y.length f')
  refine ⟨⟨n1.img.keep ob (fun g hg he => by have := hF g hg; omega) (fun z hz hn g p he h2 => by have := hoff z hz hn g p he; omega), n1.only.trans ob (fun d hd hl => by omega), n1.src⟩, bx.put _ _ _ _ _ _, Row.only rx ob (by omega), hF, hoff, ?_⟩
  have := h.size; have := n.only.size
  simp [World.setCell]; omega
/-- What is answered is stored in the result's variable. -/
theorem Va.done (h : Va B w wr A A' D d D' d' N Z) :
    IBox ((wr.setCell ⟨w.heap.size + 1, 0, none⟩ (.slice D N.length d)).setCell ⟨w.heap.size + 1, 1, none⟩ (.slice D' Z.length d')) (w.heap.size + 1) D N.length d D' Z.length d' ∧
    ImgPost B A A' N Z w (.returned (iv D N.length d D' Z.length d')) ((wr.setCell ⟨w.heap.size + 1, 0, none⟩ (.slice D N.length d)).setCell ⟨w.heap.size + 1, 1, none⟩ (.slice D' Z.length d')) := by
  have ob := only_set2 wr (w.heap.size + 1) (.slice D N.length d) (.slice D' Z.length d')
  exact ⟨h.res.put _ _ _ _ _ _, D, d, D', d', rfl, ⟨h.nx.img.keep ob (fun g hg he => by have := h.new g hg; omega) (fun z hz hn g p he h2 => by have := h.off z hz hn g p he; omega), h.nx.only.trans ob (fun d hd hl => by omega), h.nx.src⟩⟩
end
/-- The result lies in a variable. -/
theorem res_ibox {fn : Func} {p : Tmp} (h : fn.results = #[.cell p 25]) {R : Ending → World → Prop} {a : Act} {w : World} (b : Nat) (A : Option Addr) (n c : Nat) (A' : Option Addr) (n' c' : Nat)
    (hp : a.tmps.getD p undef = .pointer (some ⟨b, 0, none⟩)) (hb : IBox w b A n c A' n' c') (hdf : a.defers = []) (hR : R (.returned (iv A n c A' n' c')) w) : bodyPost Tryz.prog fn R .ret a w :=
  bodyPost_ret (results_cell_row h a.tmps w b 25 #[.slice A n c, .slice A' n' c'] (0, 0) _ hp hb Tryz.underlying25 rfl (by show _ = some 2; kernel_rfl)) hdf hR
end Go.Proofs.YtgaaieipeiekiaaGreat
