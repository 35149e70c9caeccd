/- Contracts of Only, of arg and of the reference, of SameTexts and SameOpts. -/
import Derived.Test.YtnmekmifdmlogaaRows
import Derived.Test.YtnmekmifdmlogaaWalksD
import Derived.WalkKit
import Derived.WalkSpells
import Derived.WalkLawsBesides
import Derived.Lib.Hide
import Derived.Deep.QuietTactic
import Derived.BigQuiet
namespace Go.Proofs.Ytnmekmifdmlogaa
open Go.RowKit
open Plain

theorem eql_opt (w : World) (a b c d : ByteArray) : (binOp .eql 31 (.agg #[.string a, .string b]) (.agg #[.string c, .string d])).run Try.prog w = .ok (.bool (a.toList == c.toList && b.toList == d.toList)) w := by
  rw [run_eql_struct, run_equalIn_agg _ _ _ _ _ (by kernel_rfl) (by kernel_rfl)]
  by_cases h1 : a.toList = c.toList <;> by_cases h2 : b.toList = d.toList <;> simp [go_sem, Try.underlying31, h1, h2]
theorem neq_opt (w : World) (a b c d : ByteArray) : (binOp .neq 31 (.agg #[.string a, .string b]) (.agg #[.string c, .string d])).run Try.prog w = .ok (.bool (!(a.toList == c.toList && b.toList == d.toList))) w := by
  rw [run_neq_struct, run_equalIn_agg _ _ _ _ _ (by kernel_rfl) (by kernel_rfl)]
  by_cases h1 : a.toList = c.toList <;> by_cases h2 : b.toList = d.toList <;> simp [go_sem, Try.underlying31, h1, h2]

theorem getD_mem {α : Type} [Inhabited α] {l : List α} {k : Nat} (h : k < l.length) : l.getD k default ∈ l := by
  rw [List.getD_eq_getElem?_getD, List.getElem?_eq_getElem h]
  exact List.getElem_mem _
theorem all_getD {α : Type} [Inhabited α] {l : List α} {p : α → Prop} (h : ∀ j, j < l.length → p (l.getD j default)) : ∀ x ∈ l, p x := by
  intro x hx
  obtain ⟨j, hj, rfl⟩ := List.getElem_of_mem hx
  have := h j hj
  rwa [List.getD_eq_getElem?_getD, List.getElem?_eq_getElem hj] at this
theorem ext_getD {α : Type} [Inhabited α] {l r : List α} (hl : l.length = r.length) (h : ∀ j, j < l.length → l.getD j default = r.getD j default) : l = r := by
  apply List.ext_getElem hl
  intro j h1 h2
  have := h j h1
  rwa [List.getD_eq_getElem?_getD, List.getElem?_eq_getElem h1, List.getD_eq_getElem?_getD, List.getElem?_eq_getElem h2] at this

def BoolPost (b : Bool) (w : World) (e : Ending) (w' : World) : Prop := e = .returned (.bool b) ∧ Below w.heap.size w w'

set_option maxHeartbeats 2000000 in
theorem sameTexts_any (A : Option Addr) (n c : Nat) (S : List ByteArray) (B : Option Addr) (m d : Nat) (T : List ByteArray) (b : Bool) (w : World) (hA : Strs w A n c S) (hB : Strs w B m d T) (hn : n ≤ 1000000) (hm : m ≤ 1000000) (hb : decide (S = T) = b) :
    Calls Try.prog 17 #[.slice A n c, .slice B m d] w (BoolPost b w) := by
  have HA := Lib.hid hA; have HT := Lib.hid hB; have HB := Lib.hid hb
  clear hA hB hb
  by_cases hnm : n = m
  · subst hnm
    go_enter Try.func17, Try.ntmps17
    go_wp2
    go_loopw [5] (fun i wr => ∃ (k : Nat), k ≤ n ∧ i = .int .i64 k ∧ Hid (∀ j, j < k → S.getD j default = T.getD j default) ∧ Hid (Below w.heap.size w wr)) (fun i _ => n - (intOf i).toNat)
    case atStart => exact ⟨0, Nat.zero_le _, rfl, by unfold Hid; exact fun j h => absurd h (by omega), Below.refl _ _⟩
    case round =>
      obtain ⟨k, hk, rfl, HE, BW⟩ := hrel
      by_cases hlt : k < n
      · obtain ⟨g, o, rfl, hg, hc⟩ := HA.out.cells (by omega)
        obtain ⟨g', o', rfl, hg', hc'⟩ := HT.out.cells (by omega)
        have c0 := (BW.out.cell (p := ⟨g, o + k, none⟩) hg).trans (hc k hlt)
        have c1 := (BW.out.cell (p := ⟨g', o' + k, none⟩) hg').trans (hc' k hlt)
        have k0 : (0 : Int) ≤ (k : Int) := by omega
        have k1 : (k : Int) < (n : Int) := by omega
        clear hc hc'
        by_cases hK : S.getD k default = T.getD k default
        · have X := Lib.hid (show ∀ j, j < k + 1 → S.getD j default = T.getD j default from fun j hj => by
            by_cases h : j = k
            · rw [h]; exact hK
            · exact HE.out j (by omega))
          have hz := eq_toList hK
          clear hK
          generalize S.getD k default = K at *
          generalize T.getD k default = V at *
          go_wp2
          go_quiet (fail)
          go_wp2
          go_roundw
          case rel => exact ⟨k + 1, by omega, by go_num, X.out, below_drewN BW.out _⟩
          case measure => simp [intOf]; omega
        · have hf : b = false := by
            rw [← HB.out]
            simp
            exact fun h => hK (by rw [h])
          have hz := ne_toList hK
          subst hf
          clear hK
          generalize S.getD k default = K at *
          generalize T.getD k default = V at *
          go_wp2
          go_quiet (fail)
          go_wp2
          go_ret
          exact ⟨rfl, below_drewN BW.out _⟩
      · have hf : b = true := by
          rw [← HB.out]
          simp
          exact ext_getD (HA.out.len.trans HT.out.len.symm) (fun j hj => HE.out j (by rw [HA.out.len] at hj; omega))
        subst hf
        go_wp2
        go_ret
        exact ⟨rfl, BW.out⟩
  · have hf : b = false := by
      rw [← HB.out]
      simp
      intro h
      exact hnm (HA.out.len.symm.trans (by rw [h]; exact HT.out.len))
    subst hf
    have hz : ((n : Int) != (m : Int)) = true := by simp; omega
    go_enter Try.func17, Try.ntmps17
    go_wp2
    go_ret
    exact ⟨rfl, Below.refl _ _⟩

set_option maxHeartbeats 2000000 in
theorem sameOpts_any (A : Option Addr) (n c : Nat) (S : List Pr) (B : Option Addr) (m d : Nat) (T : List Pr) (b : Bool) (w : World) (hA : Opts w A n S) (hB : Opts w B m T) (hn : n ≤ 1000000) (hm : m ≤ 1000000) (hb : decide (S = T) = b) :
    Calls Try.prog 15 #[.slice A n c, .slice B m d] w (BoolPost b w) := by
  have HA := Lib.hid hA; have HT := Lib.hid hB; have HB := Lib.hid hb
  clear hA hB hb
  have hq := neq_opt
  by_cases hnm : n = m
  · subst hnm
    go_enter Try.func15, Try.ntmps15
    go_wp2
    go_loopw [5] (fun i wr => ∃ (k : Nat), k ≤ n ∧ i = .int .i64 k ∧ Hid (∀ j, j < k → S.getD j default = T.getD j default) ∧ Hid (Below w.heap.size w wr)) (fun i _ => n - (intOf i).toNat)
    case atStart => exact ⟨0, Nat.zero_le _, rfl, by unfold Hid; exact fun j h => absurd h (by omega), Below.refl _ _⟩
    case round =>
      obtain ⟨k, hk, rfl, HE, BW⟩ := hrel
      by_cases hlt : k < n
      · obtain ⟨g, o, rfl, hg, hc⟩ := HA.out.cells (by omega)
        obtain ⟨g', o', rfl, hg', hc'⟩ := HT.out.cells (by omega)
        have c0 := (BW.out.cell (p := ⟨g, o + k * 2, none⟩) hg).trans (hc k hlt).1
        have c1 := (BW.out.cell (p := ⟨g, o + k * 2 + 1, none⟩) hg).trans (hc k hlt).2
        have d0 := (BW.out.cell (p := ⟨g', o' + k * 2, none⟩) hg').trans (hc' k hlt).1
        have d1 := (BW.out.cell (p := ⟨g', o' + k * 2 + 1, none⟩) hg').trans (hc' k hlt).2
        have k0 : (0 : Int) ≤ (k : Int) := by omega
        have k1 : (k : Int) < (n : Int) := by omega
        clear hc hc'
        by_cases hK : S.getD k default = T.getD k default
        · have X := Lib.hid (show ∀ j, j < k + 1 → S.getD j default = T.getD j default from fun j hj => by
            by_cases h : j = k
            · rw [h]; exact hK
            · exact HE.out j (by omega))
          have z1 : ((S.getD k default).1.toList == (T.getD k default).1.toList) = true := by rw [hK]; simp
          have z2 : ((S.getD k default).2.toList == (T.getD k default).2.toList) = true := by rw [hK]; simp
          clear hK
          generalize (S.getD k default).1 = K1 at *
          generalize (T.getD k default).1 = V1 at *
          generalize (S.getD k default).2 = K2 at *
          generalize (T.getD k default).2 = V2 at *
          go_wp2
          go_quiet (fail)
          go_wp2
          go_roundw
          case rel => exact ⟨k + 1, by omega, by go_num, X.out, below_drewN BW.out _⟩
          case measure => simp [intOf]; omega
        · have hf : b = false := by
            rw [← HB.out]
            simp
            exact fun h => hK (by rw [h])
          have hz : ((S.getD k default).1.toList == (T.getD k default).1.toList && (S.getD k default).2.toList == (T.getD k default).2.toList) = false := by
            rw [tx_toList, tx_toList, tx_toList, tx_toList]
            simp only [Bool.and_eq_false_iff, beq_eq_false_iff_ne]
            by_cases h1 : (S.getD k default).1 = (T.getD k default).1
            · exact .inr (fun h => hK (Prod.ext h1 (tx_inj h)))
            · exact .inl (fun h => h1 (tx_inj h))
          subst hf
          clear hK
          generalize (S.getD k default).1 = K1 at *
          generalize (T.getD k default).1 = V1 at *
          generalize (S.getD k default).2 = K2 at *
          generalize (T.getD k default).2 = V2 at *
          go_wp2
          go_quiet (fail)
          go_wp2
          go_ret
          exact ⟨rfl, below_drewN BW.out _⟩
      · have hf : b = true := by
          rw [← HB.out]
          simp
          exact ext_getD (HA.out.len.trans HT.out.len.symm) (fun j hj => HE.out j (by rw [HA.out.len] at hj; omega))
        subst hf
        go_wp2
        go_ret
        exact ⟨rfl, BW.out⟩
  · have hf : b = false := by
      rw [← HB.out]
      simp
      intro h
      exact hnm (HA.out.len.symm.trans (by rw [h]; exact HT.out.len))
    subst hf
    have hz : ((n : Int) != (m : Int)) = true := by simp; omega
    go_enter Try.func15, Try.ntmps15
    go_wp2
    go_ret
    exact ⟨rfl, Below.refl _ _⟩

set_option maxHeartbeats 2000000 in
theorem only_any (A : Option Addr) (n c : Nat) (os : List Pr) (B : Option Addr) (m d : Nat) (T : List ByteArray) (b : Bool) (w : World) (hA : Opts w A n os) (hB : Strs w B m d T) (hn : n ≤ 1000000) (hm : m ≤ 1000000) (hb : only os T = b) :
    Calls Try.prog 20 #[.slice A n c, .slice B m d] w (BoolPost b w) := by
  have HA := Lib.hid hA; have HT := Lib.hid hB; have HB := Lib.hid hb
  clear hA hB hb
  go_enter Try.func20, Try.ntmps20
  go_wp2
  go_loopw [9] (fun i wr => ∃ (k : Nat), k ≤ n ∧ i = .int .i64 k ∧ Hid (∀ j, j < k → (T.any fun k => decide (k = (os.getD j default).1)) = true) ∧ Hid (Below w.heap.size w wr)) (fun i _ => n - (intOf i).toNat)
  case atStart => exact ⟨0, Nat.zero_le _, rfl, by unfold Hid; exact fun j h => absurd h (by omega), Below.refl _ _⟩
  case round =>
    obtain ⟨k, hk, rfl, HE, BW⟩ := hrel
    by_cases hlt : k < n
    · obtain ⟨g, o, rfl, hg, hc⟩ := HA.out.cells (by omega)
      have c0 := (BW.out.cell (p := ⟨g, o + k * 2, none⟩) hg).trans (hc k hlt).1
      have c1 := (BW.out.cell (p := ⟨g, o + k * 2 + 1, none⟩) hg).trans (hc k hlt).2
      have k0 : (0 : Int) ≤ (k : Int) := by omega
      have k1 : (k : Int) < (n : Int) := by omega
      clear hc
      obtain ⟨r, hr⟩ : ∃ r, (T.any fun k' => decide (k' = (os.getD k default).1)) = r := ⟨_, rfl⟩
      have NEXT := Lib.hid (show r = true → ∀ j, j < k + 1 → (T.any fun k => decide (k = (os.getD j default).1)) = true from fun h j hj => by
        by_cases he : j = k
        · rw [he, hr, h]
        · exact HE.out j (by omega))
      have STOP := Lib.hid (show r = false → b = false from fun h => by
        rw [← HB.out, only, List.all_eq_false]
        exact ⟨os.getD k default, getD_mem (by have := HA.out.len; omega), by rw [hr, h]; simp⟩)
      have HR := Lib.hid hr
      clear hr
      generalize (os.getD k default).1 = K at *
      generalize (os.getD k default).2 = V at *
      cases r with
      | true =>
        have X := Lib.hid (NEXT.out rfl)
        clear NEXT STOP
        go_wp2_with fail
        refine (among_any B m d T K true _ (HT.out.on (BW.out.alloc BW.out.size _)) hm HR.out).mono ?_
        rintro e w1 ⟨rfl, rfl⟩
        go_wp2
        go_roundw
        case rel => exact ⟨k + 1, by omega, by go_num, X.out, BW.out.alloc BW.out.size _⟩
        case measure => simp [intOf]; omega
      | false =>
        have hf := STOP.out rfl
        subst hf
        clear NEXT STOP
        go_wp2_with fail
        refine (among_any B m d T K false _ (HT.out.on (BW.out.alloc BW.out.size _)) hm HR.out).mono ?_
        rintro e w1 ⟨rfl, rfl⟩
        go_wp2
        go_ret
        exact ⟨rfl, BW.out.alloc BW.out.size _⟩
    · have hf : b = true := by
        rw [← HB.out, only, List.all_eq_true]
        exact all_getD (fun j hj => HE.out j (by rw [HA.out.len] at hj; omega))
      subst hf
      go_wp2
      go_ret
      exact ⟨rfl, BW.out⟩

theorem any_snoc (T : List ByteArray) (p : ByteArray → Bool) (k : Nat) (h : k < T.length) : (T.take (k + 1)).any p = ((T.take k).any p || p (T.getD k default)) := by
  rw [List.take_add_one, List.any_append, List.getD_eq_getElem?_getD, List.getElem?_eq_getElem h]
  simp

set_option maxHeartbeats 4000000 in
theorem ronly_any (A : Option Addr) (n c : Nat) (os : List Pr) (B : Option Addr) (m d : Nat) (T : List ByteArray) (b : Bool) (w : World) (hA : Opts w A n os) (hB : Strs w B m d T) (hn : n ≤ 1000000) (hm : m ≤ 1000000) (hb : only os T = b) :
    Calls Try.prog 21 #[.slice A n c, .slice B m d] w (BoolPost b w) := by
  have HA := Lib.hid hA; have HT := Lib.hid hB; have HB := Lib.hid hb
  clear hA hB hb
  go_enter Try.func21, Try.ntmps21
  go_wp2
  go_loopw [5] (fun i wr => ∃ (k : Nat), k ≤ n ∧ i = .int .i64 k ∧ Hid (∀ j, j < k → (T.any fun k => decide (k = (os.getD j default).1)) = true) ∧ Hid (Below w.heap.size w wr)) (fun i _ => n - (intOf i).toNat)
  case atStart => exact ⟨0, Nat.zero_le _, rfl, by unfold Hid; exact fun j h => absurd h (by omega), Below.refl _ _⟩
  case round =>
    obtain ⟨k, hk, rfl, HE, BW⟩ := hrel
    by_cases hlt : k < n
    · obtain ⟨g, o, rfl, hg, hc⟩ := HA.out.cells (by omega)
      have C0 := Lib.hid (hc k hlt).1
      have k0 : (0 : Int) ≤ (k : Int) := by omega
      have k1 : (k : Int) < (n : Int) := by omega
      clear hc
      have NEXT := Lib.hid (show (T.any fun k' => decide (k' = (os.getD k default).1)) = true → ∀ j, j < k + 1 → (T.any fun k => decide (k = (os.getD j default).1)) = true from fun h j hj => by
        by_cases he : j = k
        · rw [he]; exact h
        · exact HE.out j (by omega))
      have STOP := Lib.hid (show (T.any fun k' => decide (k' = (os.getD k default).1)) = false → b = false from fun h => by
        rw [← HB.out, only, List.all_eq_false]
        exact ⟨os.getD k default, getD_mem (by have := HA.out.len; omega), by rw [h]; simp⟩)
      generalize (os.getD k default).1 = K at *
      go_wp2
      go_loopw [6, 7] (fun vp i2 wr2 => ∃ (j : Nat) (p : Bool), j ≤ m ∧ i2 = .int .i64 j ∧ vp = .bool p ∧ Hid ((T.take j).any (fun k' => decide (k' = K)) = p) ∧ Hid (Below w.heap.size w wr2)) (fun _ i2 _ => m - (intOf i2).toNat)
      case atStart => exact ⟨0, false, Nat.zero_le _, rfl, rfl, by unfold Hid; simp, BW.out⟩
      case round =>
        obtain ⟨j, p, hj, rfl, rfl, HF, BV⟩ := hrel
        by_cases hjm : j < m
        · obtain ⟨g', o', rfl, hg', hc'⟩ := HT.out.cells (by omega)
          have c0 := (BV.out.cell (p := ⟨g, o + k * 2, none⟩) hg).trans C0.out
          have c1 := (BV.out.cell (p := ⟨g', o' + j, none⟩) hg').trans (hc' j hjm)
          have j0 : (0 : Int) ≤ (j : Int) := by omega
          have j1 : (j : Int) < (m : Int) := by omega
          have SN := Lib.hid (any_snoc T (fun k' => decide (k' = K)) j (by have := HT.out.len; omega))
          clear hc'
          cases p with
          | true =>
            have X := Lib.hid (show (T.take (j + 1)).any (fun k' => decide (k' = K)) = true by rw [SN.out, HF.out]; rfl)
            generalize T.getD j default = V at *
            go_wp2
            go_quiet (fail)
            go_wp2
            go_roundw
            case rel => exact ⟨j + 1, true, by omega, by go_num, rfl, X.out, below_drewN BV.out _⟩
            case measure => simp [intOf]; omega
          | false =>
            by_cases hK : T.getD j default = K
            · have X := Lib.hid (show (T.take (j + 1)).any (fun k' => decide (k' = K)) = true by rw [SN.out, HF.out, hK]; simp)
              have hz := eq_toList hK
              clear hK
              generalize T.getD j default = V at *
              go_wp2
              go_quiet (fail)
              go_wp2
              go_roundw
              case rel => exact ⟨j + 1, true, by omega, by go_num, rfl, X.out, below_drewN BV.out _⟩
              case measure => simp [intOf]; omega
            · have X := Lib.hid (show (T.take (j + 1)).any (fun k' => decide (k' = K)) = false by rw [SN.out, HF.out, decide_eq_false hK]; rfl)
              have hz := ne_toList hK
              clear hK
              generalize T.getD j default = V at *
              go_wp2
              go_quiet (fail)
              go_wp2
              go_roundw
              case rel => exact ⟨j + 1, false, by omega, by go_num, rfl, X.out, below_drewN BV.out _⟩
              case measure => simp [intOf]; omega
        · have hall : T.any (fun k' => decide (k' = K)) = p := by
            have := HF.out
            rwa [List.take_of_length_le (by have := HT.out.len; omega)] at this
          have HALL := Lib.hid hall
          clear hall
          cases p with
          | true =>
            have X := Lib.hid (NEXT.out HALL.out)
            clear NEXT STOP HALL
            go_wp2
            go_roundw
            case rel => exact ⟨k + 1, by omega, by go_num, X.out, BV.out⟩
            case measure => simp [intOf]; omega
          | false =>
            have hf := STOP.out HALL.out
            subst hf
            clear NEXT STOP HALL
            go_wp2
            go_ret
            exact ⟨rfl, BV.out⟩
    · have hf : b = true := by
        rw [← HB.out, only, List.all_eq_true]
        exact all_getD (fun j hj => HE.out j (by rw [HA.out.len] at hj; omega))
      subst hf
      go_wp2
      go_ret
      exact ⟨rfl, BW.out⟩

end Go.Proofs.Ytnmekmifdmlogaa
