/- The law ArgKeys, walked. -/
import Derived.Test.YtnmekmifdmlogaaRows
import Derived.Test.YtnmekmifdmlogaaLawO
import Derived.Test.YtnmekmifdmlogaaPlainJ
import Derived.Test.YtnmekmifdmlogaaLawW
import Derived.WalkKit
import Derived.WalkSpells
import Derived.WalkLawsBesides
import Derived.Lib.Hide
import Derived.Deep.QuietTactic
import Derived.BigQuiet
import Derived.StillTailTactics
import Derived.OpenShut
import Derived.Test.YtnmekmifdmlogaaRegionBy
import Derived.Deep.RegionHeld3
namespace Go.Proofs.Ytnmekmifdmlogaa
open Go.RowKit
open Plain

def ksK : List ByteArray := [⟨#[105, 102]⟩, ⟨#[111, 102]⟩, ⟨#[98, 115]⟩, ⟨#[99, 111, 110, 118]⟩, ⟨#[105, 102, 108, 97, 103]⟩, ⟨#[115, 107, 105, 112]⟩, ⟨#[97, 98, 99, 100, 101, 102, 103, 104, 105, 106]⟩, ⟨#[122]⟩]
def kK (j : Nat) : ByteArray := ksK.getD j default
theorem lt8 {P : Nat → Prop} (h : P 0 ∧ P 1 ∧ P 2 ∧ P 3 ∧ P 4 ∧ P 5 ∧ P 6 ∧ P 7) (j : Nat) (hj : j < 8) : P j := by
  obtain ⟨h0, h1, h2, h3, h4, h5, h6, h7⟩ := h
  match j, hj with
  | 0, _ => exact h0
  | 1, _ => exact h1
  | 2, _ => exact h2
  | 3, _ => exact h3
  | 4, _ => exact h4
  | 5, _ => exact h5
  | 6, _ => exact h6
  | 7, _ => exact h7
theorem kK_key (j : Nat) (h : j < 8) : isKey (kK j) = true ∧ 61 ∉ tx (kK j) ∧ (kK j).size ≤ 10 ∧ rep (kK j) = (j == 3 || j == 4) := lt8 (P := fun j => isKey (kK j) = true ∧ 61 ∉ tx (kK j) ∧ (kK j).size ≤ 10 ∧ rep (kK j) = (j == 3 || j == 4)) (by decide +kernel) j h
theorem kK_inj : ∀ i, i < 8 → ∀ j, j < 8 → kK i = kK j → i = j := by decide +kernel
def mkA (k v : ByteArray) : ByteArray := bs (tx k ++ 61 :: tx v)
theorem operand_mk (k v : ByteArray) (hk : isKey k = true) (h61 : 61 ∉ tx k) : operand (mkA k v) = some (k, v) := by
  have ha : Plain.ahead (mkA k v) 61 = k.size := by rw [Plain.ahead, mkA, tx_bs, aheadL_app _ _ _ h61, tx_len]
  have hsz : (mkA k v).size = k.size + 1 + v.size := by rw [← tx_len, mkA, tx_bs]; simp [tx_len]; omega
  have h1 : (mkA k v).extract 0 k.size = k := by
    apply tx_inj
    rw [tx_extract, mkA, tx_bs, List.drop_zero, Nat.sub_zero, ← tx_len k, List.take_left]
  have h2 : (mkA k v).extract (k.size + 1) (mkA k v).size = v := by
    apply tx_inj
    rw [ext_from, tx_bs, mkA, tx_bs, ← tx_len k, ← List.drop_drop, List.drop_left]; rfl
  rw [operand, ha, if_neg (by omega), keyed, ha, h1, h2, if_pos hk]
section
variable (V : Nat → ByteArray)
def tK (n : Nat) : List ByteArray := (List.range n).map fun j => mkA (kK j) (V j)
def oK (n : Nat) : List Pr := (List.range n).map fun j => (kK j, V j)
theorem tK_succ (n : Nat) : tK V (n + 1) = tK V n ++ [mkA (kK n) (V n)] := by simp [tK, List.range_succ]
theorem oK_succ (n : Nat) : oK V (n + 1) = oK V n ++ [(kK n, V n)] := by simp [oK, List.range_succ]
theorem tK_len (n : Nat) : (tK V n).length = n := by simp [tK]
theorem oK_len (n : Nat) : (oK V n).length = n := by simp [oK]
theorem tK_at (n j : Nat) (h : j < n) : (tK V n).getD j default = mkA (kK j) (V j) := by
  rw [tK, List.getD_eq_getElem?_getD, List.getElem?_map, List.getElem?_range h]; rfl
theorem oK_at (n j : Nat) (h : j < n) : (oK V n).getD j default = (kK j, V j) := by
  rw [oK, List.getD_eq_getElem?_getD, List.getElem?_map, List.getElem?_range h]; rfl
theorem findTo_none (os : List Pr) (key : ByteArray) : ∀ k, (∀ j, j < k → (os.getD j default).1 ≠ key) → findTo os key k = none
  | 0, _ => rfl
  | k + 1, h => by rw [findTo, if_neg (h k (by omega)), findTo_none os key k (fun j hj => h j (by omega))]
theorem findTo_at (os : List Pr) (key : ByteArray) (i : Nat) (hi : (os.getD i default).1 = key) : ∀ k, i < k → (∀ j, i < j → j < k → (os.getD j default).1 ≠ key) → findTo os key k = some (os.getD i default).2
  | 0, h, _ => by omega
  | k + 1, h, hn => by
    rw [findTo]
    by_cases he : i = k
    · rw [← he, if_pos hi]
    · rw [if_neg (hn k (by omega) (by omega)), findTo_at os key i hi k (by omega) (fun j h1 h2 => hn j h1 (by omega))]
theorem find_oK (n i : Nat) (hn : n ≤ 8) (hi : i < n) : find (oK V n) (kK i) = some (V i) := by
  rw [find, oK_len, findTo_at (oK V n) (kK i) i (by rw [oK_at V n i hi]) n hi (fun j h1 h2 => by
    rw [oK_at V n j h2]
    intro e
    have := kK_inj j (by omega) i (by omega) e
    omega), oK_at V n i hi]
theorem has_not (n : Nat) (hn : n < 8) : Plain.has (oK V n) (kK n) = false := by
  rw [Plain.has, find, oK_len, findTo_none (oK V n) (kK n) n (fun j h2 => by
    rw [oK_at V n j h2]
    intro e
    have := kK_inj j (by omega) n (by omega) e
    omega)]
  rfl
theorem has_oK (n i : Nat) (hn : n ≤ 8) (hi : i < n) : Plain.has (oK V n) (kK i) = true := by rw [Plain.has, find_oK V n i hn hi]; rfl
theorem opsGo_app (l2 : List ByteArray) : ∀ (l1 : List ByteArray) (out os : List Pr), opsGo out l1 = some os → opsGo out (l1 ++ l2) = opsGo os l2
  | [], out, os, h => by rw [opsGo] at h; injection h with h; rw [h]; rfl
  | s :: l1, out, os, h => by
    rw [List.cons_append]
    rw [opsGo] at h ⊢
    cases ho : operand s with
    | none => rw [ho] at h; cases h
    | some p =>
      rw [ho] at h
      simp only at h ⊢
      split at h
      · cases h
      · rename_i hc
        rw [if_neg hc]
        exact opsGo_app l2 l1 _ _ h
theorem opsGo_tK : ∀ n, n ≤ 8 → opsGo [] (tK V n) = some (oK V n)
  | 0, _ => rfl
  | n + 1, h => by
    obtain ⟨h1, h2, _, _⟩ := kK_key n (by omega)
    rw [tK_succ, opsGo_app _ _ _ _ (opsGo_tK n (by omega)), opsGo_new (operand_mk _ _ h1 h2) (has_not V n (by omega)), oK_succ, opsGo]
theorem operands_tK (n : Nat) (h : n ≤ 8) : operands (tK V n) = some (oK V n) := by
  rw [operands, if_neg (by rw [tK_len]; omega), opsGo_tK V n h]
theorem operands_more (n q : Nat) (h : n ≤ 8) (hq : q < n) : operands (tK V n ++ [mkA (kK q) (V q)]) = if (q == 3 || q == 4) = true then some (oK V n ++ [(kK q, V q)]) else none := by
  obtain ⟨h1, h2, _, h4⟩ := kK_key q (by omega)
  rw [operands, if_neg (by rw [List.length_append, tK_len]; simp; omega), opsGo_app _ _ _ _ (opsGo_tK V n h)]
  cases hr : (q == 3 || q == 4) with
  | true => rw [opsGo_rep (operand_mk _ _ h1 h2) (h4.trans hr), if_pos rfl, opsGo]
  | false => rw [opsGo_twice (operand_mk _ _ h1 h2) (h4.trans hr) (has_oK V n q h hq), if_neg (by simp)]
end

theorem find_one (A : Option Addr) (n c : Nat) (os : List Pr) (key v : ByteArray) (w : World) (hO : Opts w A n os) (hn : n ≤ 1000000) (ho : find os key = some v) :
    Calls Try.prog 18 #[.slice A n c, .string key] w fun e w' => e = .returned (.tuple #[.string v, .bool true]) ∧ w = w' := find_any A n c os key (some v) w hO hn ho
theorem operands_no (A : Option Addr) (n c : Nat) (T : List ByteArray) (w : World) (hT : Strs w A n c T) (hS : ∀ s ∈ T, s.size ≤ 1000000) (ho : operands T = none) :
    Calls Try.prog 11 #[.slice A n c] w fun e w' => ∃ A1 c1, e = .returned (.tuple #[.slice A1 0 c1, .bool false]) ∧ Below w.heap.size w w' :=
  (operands_any A n c T none w hT hS ho).mono fun _ _ ⟨v, h1, h2, h3⟩ => by
    obtain ⟨A1, c1, rfl, _, _⟩ := OwnO.opts h2
    exact ⟨A1, c1, h1, h3⟩

set_option maxRecDepth 100000 in
set_option maxHeartbeats 4000000 in
theorem keys_walk (A : Option Addr) (n c : Nat) (T : List ByteArray) (x : Int) (w : World) (hT : IsStrs w A n c T) (hx : (Lit.int .u8 x).wf = true) :
    Calls Try.prog 9 #[.slice A n c, .int .u8 x] w fun e w' => e = .returned (.bool true) ∧ Below w.heap.size w w' := by
  have HT := Lib.hid hT.1; have HS := Lib.hid hT.2
  have hn : n ≤ 9223372036854775807 := by have h1 := hT.1.le; have h2 := hT.1.mx; unfold maxLen at h2; omega
  obtain ⟨hx0, hx1⟩ := bounds_u8 hx
  clear hT hx
  by_cases hb1 : 20 < n
  · go_enter Try.func9, Try.ntmps9
    go_wp2_with fail
    refine (law_runs _).mono ?_
    rintro e w2 ⟨rfl, k2⟩
    go_wp2
    go_ret
    exact ⟨rfl, k2⟩
  · have hn20 : n ≤ 20 := by omega
    clear hb1
    go_enter Try.func9, Try.ntmps9
    go_wp2_with fail
    refine (few_any A n c T 20 _ HT.out HS.out (by decide)).mono ?_
    rintro e w1 ⟨b, rfl, rfl, hf⟩
    cases b with
    | false =>
      go_wp2_with fail
      refine (law_runs _).mono ?_
      rintro e w2 ⟨rfl, k2⟩
      go_wp2
      go_ret
      exact ⟨rfl, k2⟩
    | true =>
      have FW := Lib.hid (hf rfl)
      clear hf
      obtain ⟨V, hV⟩ : ∃ V : Nat → ByteArray, (fun j => T.getD j default) = V := ⟨_, rfl⟩
      have HV := Lib.hid (show ∀ j, T.getD j default = V j from fun j => by rw [← hV])
      have VS := Lib.hid (show ∀ j, j < n → (V j).size ≤ 100 from fun j hj => by rw [← HV.out]; exact FW.out.2 _ (getD_mem (by have := HT.out.len; omega)))
      clear hV
      have KS := Lib.hid (strs_new w #[.string ⟨#[105, 102]⟩, .string ⟨#[111, 102]⟩, .string ⟨#[98, 115]⟩, .string ⟨#[99, 111, 110, 118]⟩, .string ⟨#[105, 102, 108, 97, 103]⟩, .string ⟨#[115, 107, 105, 112]⟩, .string ⟨#[97, 98, 99, 100, 101, 102, 103, 104, 105, 106]⟩, .string ⟨#[122]⟩] ksK w.heap.size 8 rfl rfl rfl (by decide))
      have B0 := Lib.hid ((Below.refl w.heap.size w).alloc (Nat.le_refl _) (.cells #[.string ⟨#[105, 102]⟩, .string ⟨#[111, 102]⟩, .string ⟨#[98, 115]⟩, .string ⟨#[99, 111, 110, 118]⟩, .string ⟨#[105, 102, 108, 97, 103]⟩, .string ⟨#[115, 107, 105, 112]⟩, .string ⟨#[97, 98, 99, 100, 101, 102, 103, 104, 105, 106]⟩, .string ⟨#[122]⟩] 9))
      go_wp2
      generalize w.alloc (.cells #[.string ⟨#[105, 102]⟩, .string ⟨#[111, 102]⟩, .string ⟨#[98, 115]⟩, .string ⟨#[99, 111, 110, 118]⟩, .string ⟨#[105, 102, 108, 97, 103]⟩, .string ⟨#[115, 107, 105, 112]⟩, .string ⟨#[97, 98, 99, 100, 101, 102, 103, 104, 105, 106]⟩, .string ⟨#[122]⟩] 9) = W0 at *
      generalize hkb : w.heap.size = kb at *
      have HKB := Lib.hid hkb
      clear hkb
      obtain ⟨kb', ko', hke, hkl, hkc⟩ := KS.out.cells (by decide)
      injection hke with hke
      injection hke with e1 e2
      subst e1 e2
      have KC := Lib.hid (show ∀ j, j < 8 → W0.cell? ⟨kb, j, none⟩ = some (.string (kK j)) from fun j hj => by have := hkc j hj; rwa [Nat.zero_add] at this)
      have HKL := Lib.hid hkl
      clear hkc hkl
      have VC := Lib.hid (show 0 < n → ∃ b o, A = some ⟨b, o, none⟩ ∧ b < w.heap.size ∧ ∀ j, j < n → w.cell? ⟨b, o + j, none⟩ = some (.string (V j)) from fun h => by
        obtain ⟨b, o, h1, h2, h3⟩ := HT.out.cells h
        exact ⟨b, o, h1, h2, fun j hj => by rw [h3 j hj, HV.out j]⟩)
      have AS := Lib.hid (show ∀ j, j < 8 → j < n → (mkA (kK j) (V j)).size ≤ 200 from fun j h1 h2 => by
        have h3 := (kK_key j h1).2.2.1
        have h4 := VS.out j h2
        rw [← tx_len, mkA, tx_bs]
        simp [tx_len]
        omega)
      go_loopw [6, 7] (fun v6 vi wr => ∃ (k : Nat), k ≤ n ∧ k ≤ 8 ∧ vi = .int .i64 k ∧ Hid (OwnT wr W0.heap.size v6 (tK V k)) ∧ Hid (Below W0.heap.size W0 wr)) (fun _ vi _ => n - (intOf vi).toNat)
      case atStart => exact ⟨0, Nat.zero_le _, Nat.zero_le _, rfl, ownT_nil _ _, Below.refl _ _⟩
      case round =>
        obtain ⟨k, hkn, hk8, rfl, OT, BW⟩ := hrel
        have hbw := BW.out.size
        by_cases hlt : k < n ∧ k < 8
        · obtain ⟨hlt1, hlt2⟩ := hlt
          obtain ⟨b, o, rfl, hb, hc⟩ := VC.out (by omega)
          have BWW := Lib.hid (B0.out.trans (BW.out.mono (by have := B0.out.size; have := HKB.out; omega)))
          have c0 := (BW.out.cell (p := ⟨kb, k, none⟩) HKL.out).trans (KC.out k hlt2)
          have c1 := (BWW.out.cell (p := ⟨b, o + k, none⟩) (by rw [HKB.out] at hb; exact hb)).trans (hc k hlt1)
          obtain ⟨ke, hke⟩ : ∃ ke, kK k ++ ⟨#[61]⟩ = ke := ⟨_, rfl⟩
          obtain ⟨ar, har⟩ : ∃ ar, ke ++ V k = ar := ⟨_, rfl⟩
          have HAR := Lib.hid (show ar = mkA (kK k) (V k) by apply tx_inj; rw [← har, ← hke, tx_append, tx_append, mkA, tx_bs]; simp; rfl)
          have hars : ar.size ≤ 200 := by rw [HAR.out]; exact AS.out k hlt2 hlt1
          have sa := sum_is (kK k) ⟨#[61]⟩ ke hke (by have h3 := (kK_key k hlt2).2.2.1; rw [← hke, ← tx_len, tx_append, List.length_append, tx_len, tx_len]; have : (⟨#[61]⟩ : ByteArray).size = 1 := rfl; omega)
          have sb := sum_is ke (V k) ar har (by omega)
          have OL := Lib.hid (show (tK V k).length + 1 ≤ 1000000 by rw [tK_len]; omega)
          have HAR' := Lib.hid (show tK V k ++ [ar] = tK V k ++ [mkA (kK k) (V k)] by rw [HAR.out])
          have hbo : b < W0.heap.size := by have := B0.out.size; have := HKB.out; omega
          clear hc hke har HAR
          obtain ⟨K, hK'⟩ : ∃ K, kK k = K := ⟨_, rfl⟩
          obtain ⟨vv, hvv⟩ : ∃ vv, V k = vv := ⟨_, rfl⟩
          rw [hK'] at c0 sa
          rw [hvv] at c1 sb
          clear hK' hvv
          have k0 : (0 : Int) ≤ (k : Int) := by omega
          have k1 : (k : Int) < (n : Int) := by omega
          have k2 : (k : Int) < 8 := by omega
          have hS : (fun w' : World => w'.cell? ⟨kb, k, none⟩ = some (.string K) ∧ w'.cell? ⟨b, o + k, none⟩ = some (.string vv) ∧ Below W0.heap.size W0 w') wr.drew := ⟨c0, c1, BW.out.drew⟩
          have OT2 := Lib.hid (OT.out.on ((Below.refl wr.heap.size wr).drew))
          have hbw2 : W0.heap.size ≤ wr.drew.heap.size := hbw
          go_wp2
          refine wp_region_held_drew (S := (fun w' : World => w'.cell? ⟨kb, k, none⟩ = some (.string K) ∧ w'.cell? ⟨b, o + k, none⟩ = some (.string vv) ∧ Below W0.heap.size W0 w')) (by kernel_rfl) hS (fun hHeld => ?_)
          clear hS c0 c1
          show wpAnyH _ _ _ _ _ 14 _ _ _
          generalize wr.drew = W2 at *
          refine take_at 0 38 (v := ?vr0) (fuel := 13) rfl rfl (by kernel_rfl) (by kernel_rfl) (by kernel_rfl) (fun _ _ _ h => h) (by rfl) hHeld ?hyr0 ?restr0
          case hyr0 => (intro w' hSw; (try dsimp only at hSw); go_simp <;> with_reducible rfl)
          simp only [Act.put, List.setIfInBounds_toArray, List.set_cons_zero, List.set_cons_succ]
          refine take_at 1 39 (v := ?vr1) (fuel := 12) rfl rfl (by kernel_rfl) (by kernel_rfl) (by kernel_rfl) (fun _ _ _ h => h) (by rfl) hHeld ?hyr1 ?restr1
          case hyr1 => (intro w' hSw; (try dsimp only at hSw); go_simp <;> with_reducible rfl)
          simp only [Act.put, List.setIfInBounds_toArray, List.set_cons_zero, List.set_cons_succ]
          refine take_at 2 40 (v := ?vr2) (fuel := 11) rfl rfl (by kernel_rfl) (by kernel_rfl) (by kernel_rfl) (fun _ _ _ h => h) (by rfl) hHeld ?hyr2 ?restr2
          case hyr2 => (intro w' hSw; (try dsimp only at hSw); go_simp <;> with_reducible rfl)
          simp only [Act.put, List.setIfInBounds_toArray, List.set_cons_zero, List.set_cons_succ]
          refine take_at 3 41 (v := ?vr3) (fuel := 10) rfl rfl (by kernel_rfl) (by kernel_rfl) (by kernel_rfl) (fun _ _ _ h => h) (by rfl) hHeld ?hyr3 ?restr3
          case hyr3 => (intro w' hSw; (try dsimp only at hSw); go_simp <;> with_reducible rfl)
          simp only [Act.put, List.setIfInBounds_toArray, List.set_cons_zero, List.set_cons_succ]
          refine take_at 4 42 (v := ?vr4) (fuel := 9) rfl rfl (by kernel_rfl) (by kernel_rfl) (by kernel_rfl) (fun _ _ _ h => h) (by rfl) hHeld ?hyr4 ?restr4
          case hyr4 => (intro w' hSw; have cc := hSw.1; clear hSw; go_simp <;> with_reducible rfl)
          simp only [Act.put, List.setIfInBounds_toArray, List.set_cons_zero, List.set_cons_succ]
          refine take_at 5 43 (v := ?vr5) (fuel := 8) rfl rfl (by kernel_rfl) (by kernel_rfl) (by kernel_rfl) (fun _ _ _ h => h) (by rfl) hHeld ?hyr5 ?restr5
          case hyr5 => (intro w' hSw; (try dsimp only at hSw); go_simp <;> with_reducible rfl)
          simp only [Act.put, List.setIfInBounds_toArray, List.set_cons_zero, List.set_cons_succ]
          refine take_at 6 44 (v := ?vr6) (fuel := 7) rfl rfl (by kernel_rfl) (by kernel_rfl) (by kernel_rfl) (fun _ _ _ h => h) (by rfl) hHeld ?hyr6 ?restr6
          case hyr6 => (intro w' hSw; (try dsimp only at hSw); go_simp <;> with_reducible rfl)
          simp only [Act.put, List.setIfInBounds_toArray, List.set_cons_zero, List.set_cons_succ]
          refine take_at 7 45 (v := ?vr7) (fuel := 6) rfl rfl (by kernel_rfl) (by kernel_rfl) (by kernel_rfl) (fun _ _ _ h => h) (by rfl) hHeld ?hyr7 ?restr7
          case hyr7 => (intro w' hSw; (try dsimp only at hSw); go_simp <;> with_reducible rfl)
          simp only [Act.put, List.setIfInBounds_toArray, List.set_cons_zero, List.set_cons_succ]
          refine take_at 8 46 (v := ?vr8) (fuel := 5) rfl rfl (by kernel_rfl) (by kernel_rfl) (by kernel_rfl) (fun _ _ _ h => h) (by rfl) hHeld ?hyr8 ?restr8
          case hyr8 => (intro w' hSw; (try dsimp only at hSw); go_simp <;> with_reducible rfl)
          simp only [Act.put, List.setIfInBounds_toArray, List.set_cons_zero, List.set_cons_succ]
          refine take_at 9 47 (v := ?vr9) (fuel := 4) rfl rfl (by kernel_rfl) (by kernel_rfl) (by kernel_rfl) (fun _ _ _ h => h) (by rfl) hHeld ?hyr9 ?restr9
          case hyr9 => (intro w' hSw; have cc := hSw.2.1; clear hSw; go_simp <;> with_reducible rfl)
          simp only [Act.put, List.setIfInBounds_toArray, List.set_cons_zero, List.set_cons_succ]
          refine take_at 10 48 (v := ?vr10) (fuel := 3) rfl rfl (by kernel_rfl) (by kernel_rfl) (by kernel_rfl) (fun _ _ _ h => h) (by rfl) hHeld ?hyr10 ?restr10
          case hyr10 => (intro w' hSw; (try dsimp only at hSw); go_simp <;> with_reducible rfl)
          simp only [Act.put, List.setIfInBounds_toArray, List.set_cons_zero, List.set_cons_succ]
          refine wpAnyH_ready (rs := [11]) (fuel := 2) (by kernel_rfl) (by simp) ?_
          refine AllReadyH.cons rfl (fun K hK => ?_) AllReadyH.nil
          go_simp
          have KA := (Below.refl W0.heap.size W2).alloc hbw2 (.cells #[.string ar] 9)
          refine hK.out _ _ ⟨(KA.cell (p := ⟨kb, k, none⟩) HKL.out).trans hHeld.1, (KA.cell (p := ⟨b, o + k, none⟩) hbo).trans hHeld.2.1, hHeld.2.2.trans KA⟩ (fun hI11 => ?_)
          clear hK hHeld KA
          (try simp only [Act.put, List.setIfInBounds_toArray, List.set_cons_zero, List.set_cons_succ])
          refine wpAnyH_ready (rs := [12]) (fuel := 1) (by kernel_rfl) (by simp) ?_
          refine AllReadyH.cons rfl (fun K hK => ?_) AllReadyH.nil
          refine step_append_texts rfl _ _ rfl W0.heap.size _ (tK V k) rfl (OwnT.on OT2.out ((Below.refl _ _).alloc (Nat.le_refl _) _)) _ 1 1 [ar] rfl (strs_one _ _ _ (by simp)) OL.out (by simp; omega) ?_
          intro v3 w3 o3 g3 m3 b3
          have O3 := Lib.hid o3
          refine hK.out _ _ ⟨(b3.cell (p := ⟨kb, k, none⟩) HKL.out).trans hI11.1, (b3.cell (p := ⟨b, o + k, none⟩) hbo).trans hI11.2.1, hI11.2.2.trans b3⟩ (fun hI12 => ?_)
          clear hK hI11 o3 g3 m3 b3
          (try simp only [Act.put, List.setIfInBounds_toArray])
          refine take_at 13 6 (v := ?vr13) (fuel := 0) rfl rfl (by kernel_rfl) (by kernel_rfl) (by kernel_rfl) (fun _ _ _ h => h) (by rfl) hI12 ?hyr13 ?restr13
          case hyr13 => (intro w' hSw; (try dsimp only at hSw); go_simp <;> with_reducible rfl)
          simp only [Act.put]
          refine wpAnyH_done (by kernel_rfl) ?_ _
          have B3 := Lib.hid hI12.2.2
          clear hI12
          go_wp2
          go_roundw
          case rel => exact ⟨k + 1, by omega, by omega, by go_num, by unfold Hid; rw [tK_succ]; exact (HAR'.out ▸ O3.out), B3.out⟩
          case measure => simp [intOf]; omega
        · have ways : k = n ∨ (k < n ∧ k = 8) := by omega
          clear hlt
          obtain ⟨A2, c2, rfl, hs2⟩ := OT.out.strs
          simp only [tK_len] at OT hs2 ⊢
          have S2 := Lib.hid hs2
          clear hs2
          have SZ := Lib.hid (show ∀ s ∈ tK V k, s.size ≤ 1000000 from fun s hs => by
            obtain ⟨j, hj, rfl⟩ := List.mem_map.1 hs
            have hj := List.mem_range.1 hj
            have := AS.out j (by omega) (by omega)
            omega)
          have BWW := Lib.hid (B0.out.trans (BW.out.mono (by have := B0.out.size; have := HKB.out; omega)))
          rcases ways with hw | ⟨hw1, hw⟩
          · have hd1 : decide ((k : Int) < (n : Int)) = false := by simp; omega
            have hd2 : decide (k < n) = false := by simp; omega
            have hd3 : ¬ k < n := by omega
            clear hw
            go_wp2_with fail
            refine (operands_some A2 k c2 (tK V k) (oK V k) _ S2.out SZ.out (operands_tK V k hk8)).mono ?_
            rintro e w2 ⟨A3, c3, rfl, o3, k3⟩
            simp only [oK_len] at o3 ⊢
            have O3 := Lib.hid o3
            have B2 := Lib.hid (BW.out.trans (k3.mono BW.out.size))
            have OT2 := Lib.hid (OT.out.on k3)
            have hw2 := B2.out.size
            clear o3 k3
            go_wp2
            go_loopw [10] (fun vi wr2 => ∃ (j : Nat), j ≤ k ∧ vi = .int .i64 j ∧ Hid (Below w2.heap.size w2 wr2)) (fun vi _ => k - (intOf vi).toNat)
            case atStart => exact ⟨0, Nat.zero_le _, rfl, Below.refl _ _⟩
            case round =>
              obtain ⟨j, hj, rfl, BX⟩ := hrel
              have B4 := Lib.hid (B2.out.trans (BX.out.mono B2.out.size))
              have BV := Lib.hid (B0.out.trans (B4.out.mono (by have := B0.out.size; have := HKB.out; omega)))
              by_cases hjk : j < k
              · obtain ⟨b, o, rfl, hb, hc⟩ := VC.out (by omega)
                obtain ⟨g, p, rfl, hg, hgc⟩ := O3.out.cells (by omega)
                have c0 := (B4.out.cell (p := ⟨kb, j, none⟩) HKL.out).trans (KC.out j (by omega))
                have c1 := (BV.out.cell (p := ⟨b, o + j, none⟩) (by rw [← HKB.out]; exact hb)).trans (hc j (by omega))
                have c2' := (BX.out.cell (p := ⟨g, p + j * 2, none⟩) hg).trans (hgc j hjk).1
                rw [oK_at V k j hjk] at c2'
                have FD := Lib.hid (find_oK V k j hk8 hjk)
                have OX := Lib.hid (O3.out.on BX.out)
                have j0 : (0 : Int) ≤ (j : Int) := by omega
                have j1 : (j : Int) < (k : Int) := by omega
                have j2 : (j : Int) < (n : Int) := by omega
                have j3 : (j : Int) < 8 := by omega
                clear hc hgc
                generalize kK j = K at *
                generalize V j = vv at *
                go_wp2_with fail
                refine (find_one _ k c3 (oK V k) K vv _ OX.out (by omega) FD.out).mono ?_
                rintro e w5 ⟨rfl, rfl⟩
                have hz1 := eq_toList (rfl : vv = vv)
                have hz2 := eq_toList (rfl : K = K)
                go_wp2
                go_quiet (fail)
                go_wp2
                go_roundw
                case rel => exact ⟨j + 1, by omega, by go_num, below_drewN BX.out _⟩
                case measure => simp [intOf]; omega
              · have hjd : decide ((j : Int) < (k : Int)) = false := by simp; omega
                have hjd2 : decide (j < k) = false := by simp; omega
                have OT4 := Lib.hid (OT2.out.on BX.out)
                clear OT2 OT S2
                by_cases hk0 : k = 0
                · have hz : ((k : Int) == 0) = true := by simp [hk0]
                  have hz2 : (k : Int) = 0 := by omega
                  clear hk0
                  go_wp2_with fail
                  refine (law_runs _).mono ?_
                  rintro e w6 ⟨rfl, k6⟩
                  go_wp2
                  go_ret
                  exact ⟨rfl, (HKB.out ▸ BV.out).trans (k6.mono (by have := BV.out.size; have := HKB.out; omega))⟩
                · have hz : ((k : Int) == 0) = false := by simp; omega
                  have hz2 : ¬ (k : Int) = 0 := by omega
                  obtain ⟨q, hq, hqk⟩ : ∃ q : Nat, x.tmod (k : Int) = (q : Int) ∧ q < k := by
                    have h1 := Int.emod_nonneg x (show (k : Int) ≠ 0 by omega)
                    have h2 := Int.emod_lt_of_pos x (show (0 : Int) < (k : Int) by omega)
                    refine ⟨(x.tmod (k : Int)).toNat, ?_, ?_⟩ <;> rw [Int.tmod_eq_emod_of_nonneg hx0] <;> omega
                  obtain ⟨g2, p2, hA2, hg2, hgc2⟩ := OT4.out.as.cells (by omega)
                  subst hA2
                  have c0 := hgc2 q hqk
                  rw [tK_at V k q hqk] at c0
                  have OPM := Lib.hid (operands_more V k q hk8 hqk)
                  have ASQ := Lib.hid (AS.out q (by omega) (by omega))
                  have SZ2 := Lib.hid (show ∀ s ∈ tK V k ++ [mkA (kK q) (V q)], s.size ≤ 1000000 from fun s hs => by
                    rcases List.mem_append.1 hs with h | h
                    · exact SZ.out s h
                    · simp at h
                      rw [h]
                      have := ASQ.out
                      omega)
                  have OL := Lib.hid (show (tK V k).length + 1 ≤ 1000000 by rw [tK_len]; omega)
                  have q0 : (0 : Int) ≤ (q : Int) := by omega
                  have q1 : (q : Int) < (k : Int) := by omega
                  have hb4 := B4.out.size
                  clear hgc2 ASQ SZ
                  obtain ⟨ar, har⟩ : ∃ ar, mkA (kK q) (V q) = ar := ⟨_, rfl⟩
                  rw [har] at c0 OPM SZ2
                  clear har
                  go_wp2_with (at_builtin; refine append_texts rfl _ _ rfl W0.heap.size _ (tK V k) rfl (OwnT.on OT4.out ((Below.refl _ _).alloc (Nat.le_refl _) _)) _ 1 1 [ar] rfl (strs_one _ _ _ (by simp)) OL.out (by simp; omega) ?_; intro v7 w7 o7 g7 m7 b7; obtain ⟨A7, c7, hv7, s7⟩ := OwnT.strs o7; generalize (tK V k ++ [ar]).length = n7 at hv7 s7; subst hv7; have S7 := Lib.hid s7; have B7 := Lib.hid ((B4.out.alloc B4.out.size _).trans b7); clear o7 g7 m7 b7 s7)
                  have BF := Lib.hid (show Below w.heap.size w w7 by rw [HKB.out]; exact B0.out.trans (B7.out.mono (by have := B0.out.size; have := HKB.out; omega)))
                  have cases3 : ((q : Int) == 3) = true ∨ (((q : Int) == 3) = false ∧ ((q : Int) == 4) = true) ∨ (((q : Int) == 3) = false ∧ ((q : Int) == 4) = false) := by
                    cases (q : Int) == 3 <;> cases (q : Int) == 4 <;> simp
                  rcases cases3 with h3 | ⟨h3, h4⟩ | ⟨h3, h4⟩
                  · have OPS := Lib.hid (OPM.out.trans (if_pos (by simp at h3 ⊢; omega)))
                    refine (operands_some A7 n7 c7 (tK V k ++ [ar]) (oK V k ++ [(kK q, V q)]) _ S7.out SZ2.out OPS.out).mono ?_
                    rw [List.length_append, oK_len, show [(kK q, V q)].length = 1 from rfl]
                    rintro e w8 ⟨A8, c8, rfl, _, k8⟩
                    have BF8 := Lib.hid (BF.out.trans (k8.mono BF.out.size))
                    clear k8
                    go_wp2_with fail
                    refine (law_runs _).mono ?_
                    rintro e w9 ⟨rfl, k9⟩
                    go_wp2
                    go_ret
                    exact ⟨rfl, BF8.out.trans (k9.mono BF8.out.size)⟩
                  · have OPS := Lib.hid (OPM.out.trans (if_pos (by simp at h3 h4 ⊢; omega)))
                    refine (operands_some A7 n7 c7 (tK V k ++ [ar]) (oK V k ++ [(kK q, V q)]) _ S7.out SZ2.out OPS.out).mono ?_
                    rw [List.length_append, oK_len, show [(kK q, V q)].length = 1 from rfl]
                    rintro e w8 ⟨A8, c8, rfl, _, k8⟩
                    have BF8 := Lib.hid (BF.out.trans (k8.mono BF.out.size))
                    clear k8
                    go_wp2_with fail
                    refine (law_runs _).mono ?_
                    rintro e w9 ⟨rfl, k9⟩
                    go_wp2
                    go_ret
                    exact ⟨rfl, BF8.out.trans (k9.mono BF8.out.size)⟩
                  · have OPN := Lib.hid (OPM.out.trans (if_neg (by simp at h3 h4 ⊢; omega)))
                    refine (operands_no A7 n7 c7 (tK V k ++ [ar]) _ S7.out SZ2.out OPN.out).mono ?_
                    rintro e w8 ⟨A8, c8, rfl, k8⟩
                    have BF8 := Lib.hid (BF.out.trans (k8.mono BF.out.size))
                    clear k8
                    go_wp2_with fail
                    refine (law_runs _).mono ?_
                    rintro e w9 ⟨rfl, k9⟩
                    go_wp2
                    go_ret
                    exact ⟨rfl, BF8.out.trans (k9.mono BF8.out.size)⟩
          · have hd1 : decide ((k : Int) < 8) = false := by simp; omega
            have hd2 : ¬ (k : Int) < 8 := by omega
            clear hw
            go_wp2_with fail
            refine (operands_some A2 k c2 (tK V k) (oK V k) _ S2.out SZ.out (operands_tK V k hk8)).mono ?_
            rintro e w2 ⟨A3, c3, rfl, o3, k3⟩
            simp only [oK_len] at o3 ⊢
            have O3 := Lib.hid o3
            have B2 := Lib.hid (BW.out.trans (k3.mono BW.out.size))
            have OT2 := Lib.hid (OT.out.on k3)
            have hw2 := B2.out.size
            clear o3 k3
            go_wp2
            go_loopw [10] (fun vi wr2 => ∃ (j : Nat), j ≤ k ∧ vi = .int .i64 j ∧ Hid (Below w2.heap.size w2 wr2)) (fun vi _ => k - (intOf vi).toNat)
            case atStart => exact ⟨0, Nat.zero_le _, rfl, Below.refl _ _⟩
            case round =>
              obtain ⟨j, hj, rfl, BX⟩ := hrel
              have B4 := Lib.hid (B2.out.trans (BX.out.mono B2.out.size))
              have BV := Lib.hid (B0.out.trans (B4.out.mono (by have := B0.out.size; have := HKB.out; omega)))
              by_cases hjk : j < k
              · obtain ⟨b, o, rfl, hb, hc⟩ := VC.out (by omega)
                obtain ⟨g, p, rfl, hg, hgc⟩ := O3.out.cells (by omega)
                have c0 := (B4.out.cell (p := ⟨kb, j, none⟩) HKL.out).trans (KC.out j (by omega))
                have c1 := (BV.out.cell (p := ⟨b, o + j, none⟩) (by rw [← HKB.out]; exact hb)).trans (hc j (by omega))
                have c2' := (BX.out.cell (p := ⟨g, p + j * 2, none⟩) hg).trans (hgc j hjk).1
                rw [oK_at V k j hjk] at c2'
                have FD := Lib.hid (find_oK V k j hk8 hjk)
                have OX := Lib.hid (O3.out.on BX.out)
                have j0 : (0 : Int) ≤ (j : Int) := by omega
                have j1 : (j : Int) < (k : Int) := by omega
                have j2 : (j : Int) < (n : Int) := by omega
                have j3 : (j : Int) < 8 := by omega
                clear hc hgc
                generalize kK j = K at *
                generalize V j = vv at *
                go_wp2_with fail
                refine (find_one _ k c3 (oK V k) K vv _ OX.out (by omega) FD.out).mono ?_
                rintro e w5 ⟨rfl, rfl⟩
                have hz1 := eq_toList (rfl : vv = vv)
                have hz2 := eq_toList (rfl : K = K)
                go_wp2
                go_quiet (fail)
                go_wp2
                go_roundw
                case rel => exact ⟨j + 1, by omega, by go_num, below_drewN BX.out _⟩
                case measure => simp [intOf]; omega
              · have hjd : decide ((j : Int) < (k : Int)) = false := by simp; omega
                have hjd2 : decide (j < k) = false := by simp; omega
                have OT4 := Lib.hid (OT2.out.on BX.out)
                clear OT2 OT S2
                by_cases hk0 : k = 0
                · omega
                · have hz : ((k : Int) == 0) = false := by simp; omega
                  have hz2 : ¬ (k : Int) = 0 := by omega
                  obtain ⟨q, hq, hqk⟩ : ∃ q : Nat, x.tmod (k : Int) = (q : Int) ∧ q < k := by
                    have h1 := Int.emod_nonneg x (show (k : Int) ≠ 0 by omega)
                    have h2 := Int.emod_lt_of_pos x (show (0 : Int) < (k : Int) by omega)
                    refine ⟨(x.tmod (k : Int)).toNat, ?_, ?_⟩ <;> rw [Int.tmod_eq_emod_of_nonneg hx0] <;> omega
                  obtain ⟨g2, p2, hA2, hg2, hgc2⟩ := OT4.out.as.cells (by omega)
                  subst hA2
                  have c0 := hgc2 q hqk
                  rw [tK_at V k q hqk] at c0
                  have OPM := Lib.hid (operands_more V k q hk8 hqk)
                  have ASQ := Lib.hid (AS.out q (by omega) (by omega))
                  have SZ2 := Lib.hid (show ∀ s ∈ tK V k ++ [mkA (kK q) (V q)], s.size ≤ 1000000 from fun s hs => by
                    rcases List.mem_append.1 hs with h | h
                    · exact SZ.out s h
                    · simp at h
                      rw [h]
                      have := ASQ.out
                      omega)
                  have OL := Lib.hid (show (tK V k).length + 1 ≤ 1000000 by rw [tK_len]; omega)
                  have q0 : (0 : Int) ≤ (q : Int) := by omega
                  have q1 : (q : Int) < (k : Int) := by omega
                  have hb4 := B4.out.size
                  clear hgc2 ASQ SZ
                  obtain ⟨ar, har⟩ : ∃ ar, mkA (kK q) (V q) = ar := ⟨_, rfl⟩
                  rw [har] at c0 OPM SZ2
                  clear har
                  go_wp2_with (at_builtin; refine append_texts rfl _ _ rfl W0.heap.size _ (tK V k) rfl (OwnT.on OT4.out ((Below.refl _ _).alloc (Nat.le_refl _) _)) _ 1 1 [ar] rfl (strs_one _ _ _ (by simp)) OL.out (by simp; omega) ?_; intro v7 w7 o7 g7 m7 b7; obtain ⟨A7, c7, hv7, s7⟩ := OwnT.strs o7; generalize (tK V k ++ [ar]).length = n7 at hv7 s7; subst hv7; have S7 := Lib.hid s7; have B7 := Lib.hid ((B4.out.alloc B4.out.size _).trans b7); clear o7 g7 m7 b7 s7)
                  have BF := Lib.hid (show Below w.heap.size w w7 by rw [HKB.out]; exact B0.out.trans (B7.out.mono (by have := B0.out.size; have := HKB.out; omega)))
                  have cases3 : ((q : Int) == 3) = true ∨ (((q : Int) == 3) = false ∧ ((q : Int) == 4) = true) ∨ (((q : Int) == 3) = false ∧ ((q : Int) == 4) = false) := by
                    cases (q : Int) == 3 <;> cases (q : Int) == 4 <;> simp
                  rcases cases3 with h3 | ⟨h3, h4⟩ | ⟨h3, h4⟩
                  · have OPS := Lib.hid (OPM.out.trans (if_pos (by simp at h3 ⊢; omega)))
                    refine (operands_some A7 n7 c7 (tK V k ++ [ar]) (oK V k ++ [(kK q, V q)]) _ S7.out SZ2.out OPS.out).mono ?_
                    rw [List.length_append, oK_len, show [(kK q, V q)].length = 1 from rfl]
                    rintro e w8 ⟨A8, c8, rfl, _, k8⟩
                    have BF8 := Lib.hid (BF.out.trans (k8.mono BF.out.size))
                    clear k8
                    go_wp2_with fail
                    refine (law_runs _).mono ?_
                    rintro e w9 ⟨rfl, k9⟩
                    go_wp2
                    go_ret
                    exact ⟨rfl, BF8.out.trans (k9.mono BF8.out.size)⟩
                  · have OPS := Lib.hid (OPM.out.trans (if_pos (by simp at h3 h4 ⊢; omega)))
                    refine (operands_some A7 n7 c7 (tK V k ++ [ar]) (oK V k ++ [(kK q, V q)]) _ S7.out SZ2.out OPS.out).mono ?_
                    rw [List.length_append, oK_len, show [(kK q, V q)].length = 1 from rfl]
                    rintro e w8 ⟨A8, c8, rfl, _, k8⟩
                    have BF8 := Lib.hid (BF.out.trans (k8.mono BF.out.size))
                    clear k8
                    go_wp2_with fail
                    refine (law_runs _).mono ?_
                    rintro e w9 ⟨rfl, k9⟩
                    go_wp2
                    go_ret
                    exact ⟨rfl, BF8.out.trans (k9.mono BF8.out.size)⟩
                  · have OPN := Lib.hid (OPM.out.trans (if_neg (by simp at h3 h4 ⊢; omega)))
                    refine (operands_no A7 n7 c7 (tK V k ++ [ar]) _ S7.out SZ2.out OPN.out).mono ?_
                    rintro e w8 ⟨A8, c8, rfl, k8⟩
                    have BF8 := Lib.hid (BF.out.trans (k8.mono BF.out.size))
                    clear k8
                    go_wp2_with fail
                    refine (law_runs _).mono ?_
                    rintro e w9 ⟨rfl, k9⟩
                    go_wp2
                    go_ret
                    exact ⟨rfl, BF8.out.trans (k9.mono BF8.out.size)⟩

end Go.Proofs.Ytnmekmifdmlogaa
