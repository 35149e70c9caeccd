/- Contracts of keyed and operand. -/
import Derived.Test.YtnmekmifdmlogaaRows
import Derived.Test.YtnmekmifdmlogaaWalksB
import Derived.Test.YtnmekmifdmlogaaTexts
import Derived.WalkKit
import Derived.WalkSpells
import Derived.WalkLawsBesides
import Derived.Lib.Hide
import Derived.Deep.QuietTactic
import Derived.BigQuiet
import Derived.StillTailTactics
import Derived.Laws.ResultCell
import Derived.Laws.Rows
namespace Go.Proofs.Ytnmekmifdmlogaa
open Go.RowKit
open Plain

/-- The result lies in a box. -/
theorem res_box {fn : Func} {p u : Tmp} {ty : TypeId} (h : fn.results = #[.cell p ty, .tmp u]) {R : Ending → World → Prop} {a : Act} {w : World} (b : Nat) (c : Array Value)
    (hp : a.tmps.getD p undef = .pointer (some ⟨b, 0, none⟩)) (hl : (loadVar ty ⟨b, 0, none⟩).run Try.prog w = .ok (.agg c) w) (hdf : a.defers = []) (hR : R (.returned (.tuple #[.agg c, a.tmps.getD u undef])) w) : bodyPost Try.prog fn R .ret a w :=
  bodyPost_ret (by rw [results_cell_tmp h, hp]; simp [asAddr, Result.andThen, hl]) hdf hR
theorem load31 {w : World} {b : Nat} {x y : Value} (h : Row w b 31 #[x, y]) : (loadVar 31 ⟨b, 0, none⟩).run Try.prog w = .ok (.agg #[x, y]) w :=
  run_loadVar_row (P := Try.prog) w b 31 31 _ (0, 0) _ h Try.underlying31 rfl (by show _ = some 2; kernel_rfl)
theorem load25 {w : World} {b : Nat} {x y : Value} (h : Row w b 25 #[x, y]) : (loadVar 25 ⟨b, 0, none⟩).run Try.prog w = .ok (.agg #[x, y]) w :=
  run_loadVar_row (P := Try.prog) w b 25 25 _ (0, 0) _ h Try.underlying25 rfl (by show _ = some 2; kernel_rfl)

def prV (o : Option Pr) : Pr := o.getD (⟨#[]⟩, ⟨#[]⟩)
def PrPost (o : Option Pr) (w : World) (e : Ending) (w' : World) : Prop := e = .returned (.tuple #[.agg #[.string (prV o).1, .string (prV o).2], .bool o.isSome]) ∧ Below w.heap.size w w'
theorem below_box {w W : World} (h : Below w.heap.size w W) (b : Nat) (hb : w.heap.size ≤ b) (x y : Value) : Below w.heap.size w ((W.setCell ⟨b, 0, none⟩ x).setCell ⟨b, 1, none⟩ y) :=
  (h.setCell (p := ⟨b, 0, none⟩) hb x).setCell (p := ⟨b, 1, none⟩) hb y

set_option maxHeartbeats 2000000 in
theorem keyed_any (s : ByteArray) (o : Option Pr) (w : World) (hs : s.size ≤ 1000000) (ho : keyed s = o) :
    Calls Try.prog 39 #[.string s] w (PrPost o w) := by
  obtain ⟨n, hn⟩ : ∃ n, Plain.ahead s 61 = n := ⟨_, rfl⟩
  have hn1 : n ≤ s.size := by rw [← hn]; exact ahead_le _ _
  obtain ⟨t, ht⟩ : ∃ t, s.extract 0 n = t := ⟨_, rfl⟩
  obtain ⟨q, hq⟩ : ∃ q, isKey t = q := ⟨_, rfl⟩
  have hts : t.size ≤ 1000000 := by rw [← ht, ← tx_len, tx_extract, List.length_take, List.length_drop, tx_len]; omega
  rw [keyed, hn, ht, hq] at ho
  have HN := Lib.hid hn; have HQ := Lib.hid hq; have HT := Lib.hid ht
  have R0 := Lib.hid (Row.new w 31 #[.string ⟨#[]⟩, .string ⟨#[]⟩])
  have K0 := Lib.hid ((Below.refl w.heap.size w).alloc (Nat.le_refl _) (.cells #[.string ⟨#[]⟩, .string ⟨#[]⟩] 31))
  clear hn hq
  cases q with
  | false =>
    rw [if_neg (by simp)] at ho
    subst ho
    go_enter Try.func39, Try.ntmps39
    go_wp2_with fail
    refine (ahead_any s 61 61 n _ hs rfl HN.out).mono ?_
    rintro e w1 ⟨rfl, rfl⟩
    go_wp2_with fail
    refine (isKey_any t false _ hts HQ.out).mono ?_
    rintro e w1 ⟨rfl, rfl⟩
    generalize w.alloc (.cells #[.string ⟨#[]⟩, .string ⟨#[]⟩] 31) = W at *
    obtain ⟨c0, c1, f0, f1⟩ := R0.out.two
    go_wp2
    refine res_box rfl w.heap.size _ rfl (load31 ((R0.out.set0 _).set1 _)) rfl ?_
    exact ⟨rfl, below_box K0.out _ (Nat.le_refl _) _ _⟩
  | true =>
    rw [if_pos rfl] at ho
    by_cases hns : n = s.size
    · have ho2 : o = some (s, ⟨#[]⟩) := by rw [← ho, ← ht, hns, ext_all, ext_over s _ (by omega)]; rfl
      subst ho2
      have hz : ((n : Int) == (s.size : Int)) = true := by simp [hns]
      clear ho hns
      go_enter Try.func39, Try.ntmps39
      go_wp2_with fail
      refine (ahead_any s 61 61 n _ hs rfl HN.out).mono ?_
      rintro e w1 ⟨rfl, rfl⟩
      go_wp2_with fail
      refine (isKey_any t true _ hts HQ.out).mono ?_
      rintro e w1 ⟨rfl, rfl⟩
      generalize w.alloc (.cells #[.string ⟨#[]⟩, .string ⟨#[]⟩] 31) = W at *
      obtain ⟨c0, c1, f0, f1⟩ := R0.out.two
      clear ht
      go_wp2
      refine res_box rfl w.heap.size _ rfl (load31 ((R0.out.set0 _).set1 _)) rfl ?_
      exact ⟨rfl, below_box K0.out _ (Nat.le_refl _) _ _⟩
    · have hz : ((n : Int) == (s.size : Int)) = false := by simp; omega
      obtain ⟨r, hr⟩ : ∃ r, s.extract (n + 1) s.size = r := ⟨_, rfl⟩
      rw [hr] at ho
      subst ho
      have n0 : (0 : Int) ≤ (n : Int) := by omega
      have n1 : (n : Int) ≤ (s.size : Int) := by omega
      have n2 : (n : Int) + 1 ≤ (s.size : Int) := by omega
      have n3 : (0 : Int) ≤ (n : Int) + 1 := by omega
      have n4 : IntKind.i64.wrap ((n : Int) + 1) = (n : Int) + 1 := IntWalk.i64_in _ (by omega)
      go_enter Try.func39, Try.ntmps39
      go_wp2_with fail
      refine (ahead_any s 61 61 n _ hs rfl HN.out).mono ?_
      rintro e w1 ⟨rfl, rfl⟩
      go_wp2_with fail
      refine (isKey_any t true _ hts HQ.out).mono ?_
      rintro e w1 ⟨rfl, rfl⟩
      generalize w.alloc (.cells #[.string ⟨#[]⟩, .string ⟨#[]⟩] 31) = W at *
      obtain ⟨c0, c1, f0, f1⟩ := R0.out.two
      go_wp2
      go_still_tail 8, (by kernel_rfl)
      change wpList _ _ _ _ _ W.drew
      generalize hW2 : W.drew = W2 at *
      have R2 : Row W2 w.heap.size 31 #[.string ⟨#[]⟩, .string ⟨#[]⟩] := by rw [← hW2]; exact R0.out
      have K2 := Lib.hid (show Below w.heap.size w W2 by rw [← hW2]; exact K0.out.drew)
      have R3 := Lib.hid R2
      obtain ⟨c0, c1, f0, f1⟩ := R2.two
      clear R2 hW2
      go_wp2
      refine res_box rfl w.heap.size _ rfl (load31 ((R3.out.set0 _).set1 _)) rfl ?_
      exact ⟨rfl, below_box K2.out _ (Nat.le_refl _) _ _⟩

set_option maxHeartbeats 2000000 in
theorem operand_any (s : ByteArray) (o : Option Pr) (w : World) (hs : s.size ≤ 1000000) (ho : operand s = o) :
    Calls Try.prog 26 #[.string s] w (PrPost o w) := by
  obtain ⟨n, hn⟩ : ∃ n, Plain.ahead s 61 = n := ⟨_, rfl⟩
  have hn1 : n ≤ s.size := by rw [← hn]; exact ahead_le _ _
  rw [operand, hn] at ho
  have HN := Lib.hid hn
  have R0 := Lib.hid (Row.new w 31 #[.string ⟨#[]⟩, .string ⟨#[]⟩])
  have K0 := Lib.hid ((Below.refl w.heap.size w).alloc (Nat.le_refl _) (.cells #[.string ⟨#[]⟩, .string ⟨#[]⟩] 31))
  clear hn
  by_cases hns : n = s.size
  · rw [if_pos hns] at ho
    subst ho
    have hz : ((n : Int) == (s.size : Int)) = true := by simp [hns]
    clear hns
    go_enter Try.func26, Try.ntmps26
    go_wp2_with fail
    refine (ahead_any s 61 61 n _ hs rfl HN.out).mono ?_
    rintro e w1 ⟨rfl, rfl⟩
    generalize w.alloc (.cells #[.string ⟨#[]⟩, .string ⟨#[]⟩] 31) = W at *
    obtain ⟨c0, c1, f0, f1⟩ := R0.out.two
    go_wp2
    refine res_box rfl w.heap.size _ rfl (load31 ((R0.out.set0 _).set1 _)) rfl ?_
    exact ⟨rfl, below_box K0.out _ (Nat.le_refl _) _ _⟩
  · rw [if_neg hns] at ho
    have HO := Lib.hid ho
    clear ho
    have hz : ((n : Int) == (s.size : Int)) = false := by simp; omega
    go_enter Try.func26, Try.ntmps26
    go_wp2_with fail
    refine (ahead_any s 61 61 n _ hs rfl HN.out).mono ?_
    rintro e w1 ⟨rfl, rfl⟩
    go_wp2_with fail
    refine (keyed_any s o _ hs HO.out).mono ?_
    rintro e w1 ⟨rfl, k1⟩
    have R1 := Lib.hid (R0.out.on k1)
    have K1 := Lib.hid (K0.out.trans (k1.mono (by simp)))
    obtain ⟨c0, c1, f0, f1⟩ := R1.out.two
    clear k1
    go_wp2
    refine res_box rfl w.heap.size _ rfl (load31 ((R1.out.set0 _).set1 _)) rfl ?_
    exact ⟨rfl, below_box K1.out _ (Nat.le_refl _) _ _⟩

end Go.Proofs.Ytnmekmifdmlogaa
