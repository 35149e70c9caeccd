/- Contracts of the reference's Operands, of Words, of arg and of the reference. -/
import Derived.Test.YtnmekmifdmlogaaRows
import Derived.Test.YtnmekmifdmlogaaWalksG
import Derived.WalkKit
import Derived.WalkSpells
import Derived.WalkLawsBesides
import Derived.Lib.Hide
import Derived.Deep.QuietTactic
import Derived.BigQuiet
namespace Go.Proofs.Ytnmekmifdmlogaa
open Go.RowKit
open Plain

theorem operand_of {s t r : ByteArray} {n : Nat} {q : Bool} (hn : Plain.ahead s 61 = n) (ht : s.extract 0 n = t) (hr : s.extract (n + 1) s.size = r) (hq : isKey t = q) : operand s = if n = s.size then none else if q = true then some (t, r) else none := by
  rw [operand, keyed, hn, ht, hr, hq]
theorem rep_of {t : ByteArray} {p q : Bool} (h1 : (t.toList == [99, 111, 110, 118]) = p) (h2 : (t.toList == [105, 102, 108, 97, 103]) = q) : rep t = (p || q) := by
  rw [rep, ← tx_toList, h1, h2]
theorem cut_at (s : ByteArray) (x : Int) (c : UInt8) (n : Nat) (t r : ByteArray) (b : Bool) (w : World) (hs : s.size ≤ 1000000) (hx : x = (c.toNat : Int)) (hn : Plain.ahead s c = n) (ht : s.extract 0 n = t) (hr : s.extract (n + 1) s.size = r) (hb : decide (n < s.size) = b) :
    Calls Try.prog 30 #[.string s, .int .u8 x] w fun e w' => e = .returned (.tuple #[.string t, .string r, .bool b]) ∧ Below w.heap.size w w' := by
  subst ht hr hb
  exact cutAt_any s x c n w hs hx hn

set_option maxHeartbeats 8000000 in
theorem roperands_any (A : Option Addr) (n c : Nat) (T : List ByteArray) (o : Option (List Pr)) (w : World) (hT : Strs w A n c T) (hS : ∀ s ∈ T, s.size ≤ 1000000) (ho : operands T = o) :
    Calls Try.prog 14 #[.slice A n c] w (OpsPost o w) := by
  have HT := Lib.hid hT; have HS := Lib.hid hS
  have hlen := hT.len
  have hmx : n ≤ 9223372036854775807 := by have h1 := hT.le; have h2 := hT.mx; unfold maxLen at h2; omega
  clear hT hS
  by_cases hbig : 40 < n
  · rw [operands, if_pos (by omega)] at ho
    subst ho
    go_enter Try.func14, Try.ntmps14
    go_wp2
    go_ret2
    exact opsPost_none (Below.refl _ _)
  · rw [operands, if_neg (by omega)] at ho
    have HP := Lib.hid ho; have HLEN := Lib.hid hlen
    clear ho hlen
    go_enter Try.func14, Try.ntmps14
    go_wp2
    go_loopw [4, 5] (fun v i wr => ∃ (k : Nat) (out : List Pr), k ≤ n ∧ i = .int .i64 k ∧ out.length ≤ k ∧ Hid (OwnO wr w.heap.size v out) ∧ Hid (Below w.heap.size w wr) ∧ Hid (opsGo out (T.drop k) = o)) (fun _ i _ => n - (intOf i).toNat)
    case atStart => exact ⟨0, [], Nat.zero_le _, rfl, by simp, ownO_nil _ _, Below.refl _ _, HP.out⟩
    case round =>
      obtain ⟨k, out, hk, rfl, hol, OWN, BW, HE⟩ := hrel
      by_cases hlt : k < n
      · obtain ⟨g, of, rfl, hg, hc⟩ := HT.out.cells (by omega)
        have c0 := (BW.out.cell (p := ⟨g, of + k, none⟩) hg).trans (hc k hlt)
        have k0 : (0 : Int) ≤ (k : Int) := by omega
        have k1 : (k : Int) < (n : Int) := by omega
        have hss := HS.out _ (getD_mem (l := T) (k := k) (by have := HLEN.out; omega))
        have HD := Lib.hid (drop_at (T := T) (k := k) (by have := HLEN.out; omega))
        clear hc
        generalize T.getD k default = s at *
        have he := HE.out
        rw [HD.out] at he
        obtain ⟨j, hj⟩ : ∃ j, Plain.ahead s 61 = j := ⟨_, rfl⟩
        have hj1 : j ≤ s.size := by rw [← hj]; exact ahead_le _ _
        obtain ⟨t, ht⟩ : ∃ t, s.extract 0 j = t := ⟨_, rfl⟩
        obtain ⟨r, hr⟩ : ∃ r, s.extract (j + 1) s.size = r := ⟨_, rfl⟩
        obtain ⟨q, hq⟩ : ∃ q, isKey t = q := ⟨_, rfl⟩
        have hts : t.size ≤ 1000000 := by rw [← ht, ← tx_len, tx_extract, List.length_take, List.length_drop, tx_len]; omega
        have hop := operand_of hj ht hr hq
        have HJ := Lib.hid hj; have HTT := Lib.hid ht; have HRR := Lib.hid hr; have HQ := Lib.hid hq
        clear hj ht hr hq
        by_cases hjs : j = s.size
        · rw [if_pos hjs] at hop
          rw [opsGo_none hop] at he
          subst he
          have HB := Lib.hid (show decide (j < s.size) = false by simp; omega)
          clear hop hjs hj1
          go_wp2_with fail
          refine (cut_at s 61 61 j t r false _ hss rfl HJ.out HTT.out HRR.out HB.out).mono ?_
          rintro e w1 ⟨rfl, q1⟩
          have B1 := Lib.hid (BW.out.trans (q1.mono BW.out.size))
          clear q1
          go_wp2
          go_ret2
          exact opsPost_none B1.out
        · rw [if_neg hjs] at hop
          have HB := Lib.hid (show decide (j < s.size) = true by simp; omega)
          clear hjs hj1
          cases q with
          | false =>
            rw [if_neg (by simp)] at hop
            rw [opsGo_none hop] at he
            subst he
            clear hop
            go_wp2_with fail
            refine (cut_at s 61 61 j t r true _ hss rfl HJ.out HTT.out HRR.out HB.out).mono ?_
            rintro e w1 ⟨rfl, q1⟩
            have B1 := Lib.hid (BW.out.trans (q1.mono BW.out.size))
            clear q1
            go_wp2_with fail
            refine (rletters_any t false _ hts HQ.out).mono ?_
            rintro e w2 ⟨rfl, rfl⟩
            go_wp2
            go_ret2
            exact opsPost_none B1.out
          | true =>
            rw [if_pos rfl] at hop
            have HOP := Lib.hid hop
            have E1 := Lib.hid he
            clear hop he HE
            obtain ⟨p1, hp1⟩ : ∃ p, (t.toList == [99, 111, 110, 118]) = p := ⟨_, rfl⟩
            obtain ⟨p2, hp2⟩ : ∃ p, (t.toList == [105, 102, 108, 97, 103]) = p := ⟨_, rfl⟩
            have RP := Lib.hid (rep_of hp1 hp2)
            obtain ⟨h, hh⟩ : ∃ h, Plain.has out t = h := ⟨_, rfl⟩
            have HH := Lib.hid hh
            clear hh
            obtain ⟨m, hm⟩ : ∃ m, out.length = m := ⟨_, rfl⟩
            have HM := Lib.hid hm
            rw [hm] at hol
            clear hm
            go_wp2_with fail
            refine (cut_at s 61 61 j t r true _ hss rfl HJ.out HTT.out HRR.out HB.out).mono ?_
            rintro e w1 ⟨rfl, q1⟩
            have B1 := Lib.hid (BW.out.trans (q1.mono BW.out.size))
            have O1 := Lib.hid (OWN.out.on q1)
            clear q1 OWN BW
            obtain ⟨A2, c2, rfl, hO, hA⟩ := O1.out.opts
            rw [HM.out] at hO O1 ⊢
            have HO := Lib.hid hO
            have hbase := B1.out.size
            clear hO hA
            go_wp2_with fail
            refine (rletters_any t true _ hts HQ.out).mono ?_
            rintro e w2 ⟨rfl, rfl⟩
            cases h with
            | false =>
              have X := Lib.hid ((opsGo_new HOP.out HH.out).symm.trans E1.out)
              clear hp1 hp2
              go_wp2_with fail
              refine (rhas_any A2 m c2 out t false _ HO.out (by omega) HH.out).mono ?_
              rintro e w2 ⟨rfl, rfl⟩
              go_wp2_with (at_builtin; refine append_opts rfl _ _ rfl w.heap.size _ out rfl (OwnO.on O1.out ((Below.refl _ _).alloc (Nat.le_refl _) _)) _ 1 1 [(t, r)] rfl (opts_one _ _ _ _ (by simp)) (fun h => by cases h) (by have := HM.out; omega) (by simp; omega) ?_; intro v3 w3 o3 _ _ b3; have O3 := Lib.hid o3; have B3 := Lib.hid ((B1.out.alloc B1.out.size _).trans b3); clear o3 b3)
              go_roundw
              case rel => exact ⟨k + 1, out ++ [(t, r)], by omega, by go_num, by have := HM.out; simp; omega, O3.out, B3.out, X.out⟩
              case measure => simp [intOf]; omega
            | true =>
              cases p1 with
              | true =>
                have X := Lib.hid ((opsGo_rep HOP.out (by rw [RP.out]; rfl)).symm.trans E1.out)
                clear hp2
                go_wp2_with fail
                refine (rhas_any A2 m c2 out t true _ HO.out (by omega) HH.out).mono ?_
                rintro e w2 ⟨rfl, rfl⟩
                go_wp2_with (at_builtin; refine append_opts rfl _ _ rfl w.heap.size _ out rfl (OwnO.on O1.out ((Below.refl _ _).alloc (Nat.le_refl _) _)) _ 1 1 [(t, r)] rfl (opts_one _ _ _ _ (by simp)) (fun h => by cases h) (by have := HM.out; omega) (by simp; omega) ?_; intro v3 w3 o3 _ _ b3; have O3 := Lib.hid o3; have B3 := Lib.hid ((B1.out.alloc B1.out.size _).trans b3); clear o3 b3)
                go_roundw
                case rel => exact ⟨k + 1, out ++ [(t, r)], by omega, by go_num, by have := HM.out; simp; omega, O3.out, B3.out, X.out⟩
                case measure => simp [intOf]; omega
              | false =>
                cases p2 with
                | true =>
                  have X := Lib.hid ((opsGo_rep HOP.out (by rw [RP.out]; rfl)).symm.trans E1.out)
                  go_wp2_with fail
                  refine (rhas_any A2 m c2 out t true _ HO.out (by omega) HH.out).mono ?_
                  rintro e w2 ⟨rfl, rfl⟩
                  go_wp2_with (at_builtin; refine append_opts rfl _ _ rfl w.heap.size _ out rfl (OwnO.on O1.out ((Below.refl _ _).alloc (Nat.le_refl _) _)) _ 1 1 [(t, r)] rfl (opts_one _ _ _ _ (by simp)) (fun h => by cases h) (by have := HM.out; omega) (by simp; omega) ?_; intro v3 w3 o3 _ _ b3; have O3 := Lib.hid o3; have B3 := Lib.hid ((B1.out.alloc B1.out.size _).trans b3); clear o3 b3)
                  go_roundw
                  case rel => exact ⟨k + 1, out ++ [(t, r)], by omega, by go_num, by have := HM.out; simp; omega, O3.out, B3.out, X.out⟩
                  case measure => simp [intOf]; omega
                | false =>
                  have hf := (opsGo_twice HOP.out (by rw [RP.out]; rfl) HH.out).symm.trans E1.out
                  subst hf
                  go_wp2_with fail
                  refine (rhas_any A2 m c2 out t true _ HO.out (by omega) HH.out).mono ?_
                  rintro e w2 ⟨rfl, rfl⟩
                  go_wp2
                  go_ret2
                  exact opsPost_none B1.out
      · have hf : o = some out := by
          have := HE.out
          rw [List.drop_of_length_le (by have := HLEN.out; omega), opsGo] at this
          exact this.symm
        subst hf
        go_wp2
        go_ret2
        exact ⟨_, rfl, OWN.out, BW.out⟩

def strLen : Value → Nat
  | .string s => s.size
  | _ => 0
def WordsPost (l : List ByteArray) (w : World) (e : Ending) (w' : World) : Prop := ∃ v, e = .returned v ∧ OwnT w' w.heap.size v l ∧ Below w.heap.size w w'
theorem wordsF_end {c : UInt8} {f : Nat} {s t : ByteArray} {n : Nat} (hn : Plain.ahead s c = n) (ht : s.extract 0 n = t) (hs : n = s.size) : wordsF c f s = [t] := by
  cases f with
  | zero => rw [wordsF, hn, ht]
  | succ f => rw [wordsF, hn, if_pos hs, ht]
theorem wordsF_on {c : UInt8} {f : Nat} {s t r : ByteArray} {n : Nat} (hn : Plain.ahead s c = n) (ht : s.extract 0 n = t) (hr : s.extract (n + 1) s.size = r) (hs : n ≠ s.size) (hf : s.size ≤ f) (hle : n ≤ s.size) : ∃ f', wordsF c f s = t :: wordsF c f' r ∧ r.size ≤ f' ∧ r.size + n + 1 = s.size := by
  have hsz : r.size + n + 1 = s.size := by rw [← hr, ← tx_len, tx_extract, List.length_take, List.length_drop, tx_len]; omega
  cases f with
  | zero => omega
  | succ f => exact ⟨f, by rw [wordsF, hn, if_neg hs, ht, hr], by omega, hsz⟩

set_option maxHeartbeats 4000000 in
theorem words_any (s : ByteArray) (x : Int) (c : UInt8) (l : List ByteArray) (w : World) (hs : s.size ≤ 100000) (hx : x = (c.toNat : Int)) (hl : words s c = l) :
    Calls Try.prog 12 #[.string s, .int .u8 x] w (WordsPost l w) := by
  have HX := Lib.hid hx; have HL := Lib.hid hl
  clear hx hl
  go_enter Try.func12, Try.ntmps12
  go_wp2
  go_loopw [0, 5] (fun vs v wr => ∃ (s' : ByteArray) (out : List ByteArray) (f : Nat), vs = .string s' ∧ s'.size ≤ s.size ∧ out.length + s'.size ≤ s.size ∧ s'.size ≤ f ∧ Hid (OwnT wr w.heap.size v out) ∧ Hid (Below w.heap.size w wr) ∧ Hid (out ++ wordsF c f s' = l)) (fun vs _ _ => strLen vs)
  case atStart => exact ⟨s, [], s.size, rfl, Nat.le_refl _, by simp, Nat.le_refl _, ownT_nil _ _, Below.refl _ _, HL.out⟩
  case round =>
    obtain ⟨s', out, f, rfl, hs1, hs2, hs3, OWN, BW, HE⟩ := hrel
    obtain ⟨n, hn⟩ : ∃ n, Plain.ahead s' c = n := ⟨_, rfl⟩
    have hn1 : n ≤ s'.size := by rw [← hn]; exact ahead_le _ _
    obtain ⟨t, ht⟩ : ∃ t, s'.extract 0 n = t := ⟨_, rfl⟩
    obtain ⟨r, hr⟩ : ∃ r, s'.extract (n + 1) s'.size = r := ⟨_, rfl⟩
    have HN := Lib.hid hn; have HT := Lib.hid ht; have HR := Lib.hid hr
    have hbase := BW.out.size
    by_cases hns : n = s'.size
    · have he := HE.out
      rw [wordsF_end hn ht hns] at he
      subst he
      have hz : ((n : Int) == (s'.size : Int)) = true := by simp [hns]
      have hz2 := Lib.hid (show decide (n < s'.size) = false by simp; omega)
      clear hns hr hn HE
      go_wp2_with fail
      refine (ahead_any s' x c n _ (by omega) HX.out HN.out).mono ?_
      rintro e w1 ⟨rfl, rfl⟩
      go_wp2_with (at_builtin; refine append_texts rfl _ _ rfl w.heap.size _ out rfl (OwnT.on OWN.out ((Below.refl _ _).alloc (Nat.le_refl _) _)) _ 1 1 [t] rfl (strs_one _ _ _ (by simp)) (by omega) (by simp; omega) ?_; intro v3 w3 o3 _ _ b3; have O3 := Lib.hid o3; have B3 := Lib.hid ((BW.out.alloc BW.out.size _).trans b3); clear o3 b3)
      go_ret
      exact ⟨_, rfl, O3.out, B3.out⟩
    · obtain ⟨f', h1, h2, h3⟩ := wordsF_on hn ht hr hns hs3 hn1
      have he := HE.out
      rw [h1] at he
      have X := Lib.hid (show (out ++ [t]) ++ wordsF c f' r = l by rw [← he]; simp)
      have hz : ((n : Int) == (s'.size : Int)) = false := by simp; omega
      have hz2 := Lib.hid (show decide (n < s'.size) = true by simp; omega)
      clear hns hn h1 he HE
      go_wp2_with fail
      refine (ahead_any s' x c n _ (by omega) HX.out HN.out).mono ?_
      rintro e w1 ⟨rfl, rfl⟩
      go_wp2_with (at_builtin; refine append_texts rfl _ _ rfl w.heap.size _ out rfl (OwnT.on OWN.out ((Below.refl _ _).alloc (Nat.le_refl _) _)) _ 1 1 [t] rfl (strs_one _ _ _ (by simp)) (by omega) (by simp; omega) ?_; intro v3 w3 o3 _ _ b3; have O3 := Lib.hid o3; have B3 := Lib.hid ((BW.out.alloc BW.out.size _).trans b3); clear o3 b3)
      go_roundw
      case rel => exact ⟨r, out ++ [t], f', rfl, by omega, by simp; omega, h2, O3.out, B3.out, X.out⟩
      case measure => simp [strLen]; omega

set_option maxHeartbeats 4000000 in
theorem rwords_any (s : ByteArray) (x : Int) (c : UInt8) (l : List ByteArray) (w : World) (hs : s.size ≤ 100000) (hx : x = (c.toNat : Int)) (hl : words s c = l) :
    Calls Try.prog 22 #[.string s, .int .u8 x] w (WordsPost l w) := by
  have HX := Lib.hid hx; have HL := Lib.hid hl
  clear hx hl
  go_enter Try.func22, Try.ntmps22
  go_wp2
  go_loopw [0, 5] (fun vs v wr => ∃ (s' : ByteArray) (out : List ByteArray) (f : Nat), vs = .string s' ∧ s'.size ≤ s.size ∧ out.length + s'.size ≤ s.size ∧ s'.size ≤ f ∧ Hid (OwnT wr w.heap.size v out) ∧ Hid (Below w.heap.size w wr) ∧ Hid (out ++ wordsF c f s' = l)) (fun vs _ _ => strLen vs)
  case atStart => exact ⟨s, [], s.size, rfl, Nat.le_refl _, by simp, Nat.le_refl _, ownT_nil _ _, Below.refl _ _, HL.out⟩
  case round =>
    obtain ⟨s', out, f, rfl, hs1, hs2, hs3, OWN, BW, HE⟩ := hrel
    obtain ⟨n, hn⟩ : ∃ n, Plain.ahead s' c = n := ⟨_, rfl⟩
    have hn1 : n ≤ s'.size := by rw [← hn]; exact ahead_le _ _
    obtain ⟨t, ht⟩ : ∃ t, s'.extract 0 n = t := ⟨_, rfl⟩
    obtain ⟨r, hr⟩ : ∃ r, s'.extract (n + 1) s'.size = r := ⟨_, rfl⟩
    have HN := Lib.hid hn; have HT := Lib.hid ht; have HR := Lib.hid hr
    have hbase := BW.out.size
    by_cases hns : n = s'.size
    · have he := HE.out
      rw [wordsF_end hn ht hns] at he
      subst he
      have hz : ((n : Int) == (s'.size : Int)) = true := by simp [hns]
      have hz2 := Lib.hid (show decide (n < s'.size) = false by simp; omega)
      clear hns hr hn HE
      go_wp2_with fail
      refine (cut_at s' x c n t r false _ (by omega) HX.out HN.out HT.out HR.out hz2.out).mono ?_
      rintro e w1 ⟨rfl, q1⟩
      have B1 := Lib.hid (BW.out.trans (q1.mono BW.out.size))
      have O1 := Lib.hid (OWN.out.on q1)
      have hbase1 := B1.out.size
      clear q1 OWN BW
      go_wp2_with (at_builtin; refine append_texts rfl _ _ rfl w.heap.size _ out rfl (OwnT.on O1.out ((Below.refl _ _).alloc (Nat.le_refl _) _)) _ 1 1 [t] rfl (strs_one _ _ _ (by simp)) (by omega) (by simp; omega) ?_; intro v3 w3 o3 _ _ b3; have O3 := Lib.hid o3; have B3 := Lib.hid ((B1.out.alloc B1.out.size _).trans b3); clear o3 b3)
      go_ret
      exact ⟨_, rfl, O3.out, B3.out⟩
    · obtain ⟨f', h1, h2, h3⟩ := wordsF_on hn ht hr hns hs3 hn1
      have he := HE.out
      rw [h1] at he
      have X := Lib.hid (show (out ++ [t]) ++ wordsF c f' r = l by rw [← he]; simp)
      have hz : ((n : Int) == (s'.size : Int)) = false := by simp; omega
      have hz2 := Lib.hid (show decide (n < s'.size) = true by simp; omega)
      clear hns hn h1 he HE
      go_wp2_with fail
      refine (cut_at s' x c n t r true _ (by omega) HX.out HN.out HT.out HR.out hz2.out).mono ?_
      rintro e w1 ⟨rfl, q1⟩
      have B1 := Lib.hid (BW.out.trans (q1.mono BW.out.size))
      have O1 := Lib.hid (OWN.out.on q1)
      have hbase1 := B1.out.size
      clear q1 OWN BW
      go_wp2_with (at_builtin; refine append_texts rfl _ _ rfl w.heap.size _ out rfl (OwnT.on O1.out ((Below.refl _ _).alloc (Nat.le_refl _) _)) _ 1 1 [t] rfl (strs_one _ _ _ (by simp)) (by omega) (by simp; omega) ?_; intro v3 w3 o3 _ _ b3; have O3 := Lib.hid o3; have B3 := Lib.hid ((B1.out.alloc B1.out.size _).trans b3); clear o3 b3)
      go_roundw
      case rel => exact ⟨r, out ++ [t], f', rfl, by omega, by simp; omega, h2, O3.out, B3.out, X.out⟩
      case measure => simp [strLen]; omega

end Go.Proofs.Ytnmekmifdmlogaa
