/- Contracts of Operands, of arg and of the reference. -/
import Derived.Test.YtnmekmifdmlogaaRows
import Derived.Test.YtnmekmifdmlogaaWalksE
import Derived.Test.YtnmekmifdmlogaaWalksF
import Derived.WalkKit
import Derived.WalkSpells
import Derived.WalkLawsBesides
import Derived.Lib.Hide
import Derived.Deep.QuietTactic
import Derived.BigQuiet
namespace Go.Proofs.Ytnmekmifdmlogaa
open Go.RowKit
open Plain

theorem operand_none (s : ByteArray) (w : World) (hs : s.size ≤ 1000000) (ho : operand s = none) :
    Calls Try.prog 26 #[.string s] w fun e w' => e = .returned (.tuple #[.agg #[.string ⟨#[]⟩, .string ⟨#[]⟩], .bool false]) ∧ Below w.heap.size w w' := operand_any s none w hs ho
theorem operand_some (s K V : ByteArray) (w : World) (hs : s.size ≤ 1000000) (ho : operand s = some (K, V)) :
    Calls Try.prog 26 #[.string s] w fun e w' => e = .returned (.tuple #[.agg #[.string K, .string V], .bool true]) ∧ Below w.heap.size w w' := operand_any s (some (K, V)) w hs ho

def OpsPost (o : Option (List Pr)) (w : World) (e : Ending) (w' : World) : Prop :=
  ∃ v, e = .returned (.tuple #[v, .bool o.isSome]) ∧ OwnO w' w.heap.size v (o.getD []) ∧ Below w.heap.size w w'
theorem opsPost_none {w w' : World} (k : Below w.heap.size w w') : OpsPost none w (.returned (.tuple #[.slice none 0 0, .bool false])) w' := ⟨_, rfl, ownO_nil _ _, k⟩

theorem opsGo_none {out : List Pr} {s : ByteArray} {l : List ByteArray} (h : operand s = none) : opsGo out (s :: l) = none := by rw [opsGo, h]
theorem opsGo_twice {out : List Pr} {s K V : ByteArray} {l : List ByteArray} (h : operand s = some (K, V)) (h1 : rep K = false) (h2 : Plain.has out K = true) : opsGo out (s :: l) = none := by rw [opsGo, h]; simp [h1, h2]
theorem opsGo_rep {out : List Pr} {s K V : ByteArray} {l : List ByteArray} (h : operand s = some (K, V)) (h1 : rep K = true) : opsGo out (s :: l) = opsGo (out ++ [(K, V)]) l := by rw [opsGo, h]; simp [h1]
theorem opsGo_new {out : List Pr} {s K V : ByteArray} {l : List ByteArray} (h : operand s = some (K, V)) (h2 : Plain.has out K = false) : opsGo out (s :: l) = opsGo (out ++ [(K, V)]) l := by rw [opsGo, h]; simp [h2]
theorem drop_at {T : List ByteArray} {k : Nat} (h : k < T.length) : T.drop k = T.getD k default :: T.drop (k + 1) := by
  rw [List.drop_eq_getElem_cons h, List.getD_eq_getElem?_getD, List.getElem?_eq_getElem h]; rfl

set_option maxHeartbeats 8000000 in
theorem operands_any (A : Option Addr) (n c : Nat) (T : List ByteArray) (o : Option (List Pr)) (w : World) (hT : Strs w A n c T) (hS : ∀ s ∈ T, s.size ≤ 1000000) (ho : operands T = o) :
    Calls Try.prog 11 #[.slice A n c] w (OpsPost o w) := by
  have HT := Lib.hid hT; have HS := Lib.hid hS
  have hlen := hT.len
  have hmx : n ≤ 9223372036854775807 := by have h1 := hT.le; have h2 := hT.mx; unfold maxLen at h2; omega
  clear hT hS
  by_cases hbig : 40 < n
  · rw [operands, if_pos (by omega)] at ho
    subst ho
    go_enter Try.func11, Try.ntmps11
    go_wp2
    go_ret2
    exact opsPost_none (Below.refl _ _)
  · rw [operands, if_neg (by omega)] at ho
    have HP := Lib.hid ho; have HLEN := Lib.hid hlen
    clear ho hlen
    go_enter Try.func11, Try.ntmps11
    go_wp2
    go_loopw [4, 14] (fun v i wr => ∃ (k : Nat) (out : List Pr), k ≤ n ∧ i = .int .i64 k ∧ out.length ≤ k ∧ Hid (OwnO wr w.heap.size v out) ∧ Hid (Below w.heap.size w wr) ∧ Hid (opsGo out (T.drop k) = o)) (fun _ i _ => n - (intOf i).toNat)
    case atStart => exact ⟨0, [], Nat.zero_le _, rfl, by simp, ownO_nil _ _, Below.refl _ _, HP.out⟩
    case round =>
      obtain ⟨k, out, hk, rfl, hol, OWN, BW, HE⟩ := hrel
      by_cases hlt : k < n
      · obtain ⟨g, of, rfl, hg, hc⟩ := HT.out.cells (by omega)
        have c0 := (BW.out.cell (p := ⟨g, of + k, none⟩) hg).trans (hc k hlt)
        have k0 : (0 : Int) ≤ (k : Int) := by omega
        have k1 : (k : Int) < (n : Int) := by omega
        have hss := HS.out _ (getD_mem (l := T) (k := k) (by have := HLEN.out; omega))
        have HD := Lib.hid (drop_at (T := T) (k := k) (by have := HLEN.out; omega))
        clear hc
        generalize T.getD k default = s at *
        have he := HE.out
        rw [HD.out] at he
        cases hop : operand s with
        | none =>
          rw [opsGo_none hop] at he
          subst he
          have HOP := Lib.hid hop
          clear hop
          go_wp2_with fail
          refine (operand_none s _ hss HOP.out).mono ?_
          rintro e w1 ⟨rfl, q1⟩
          have B1 := Lib.hid (BW.out.trans (q1.mono BW.out.size))
          clear q1
          go_wp2
          go_ret2
          exact opsPost_none (B1.out.alloc B1.out.size _)
        | some p =>
          obtain ⟨K, V⟩ := p
          have HOP := Lib.hid hop
          have E1 := Lib.hid he
          clear hop he HE
          go_wp2_with fail
          refine (operand_some s K V _ hss HOP.out).mono ?_
          rintro e w1 ⟨rfl, q1⟩
          have B1 := Lib.hid (BW.out.trans (q1.mono BW.out.size))
          have O1 := Lib.hid (OWN.out.on q1)
          clear q1 OWN BW
          obtain ⟨r, hr⟩ : ∃ r, rep K = r := ⟨_, rfl⟩
          have HR := Lib.hid hr
          clear hr
          go_wp2_with fail
          obtain ⟨b, hb⟩ : ∃ b, b = w1.heap.size := ⟨_, rfl⟩
          have R2 := Lib.hid (Row.new w1 31 #[.string K, .string V])
          have O2 := Lib.hid (O1.out.on ((Below.refl w1.heap.size w1).alloc (Nat.le_refl _) (.cells #[.string K, .string V] 31)))
          have B2 := Lib.hid (B1.out.alloc B1.out.size (.cells #[.string K, .string V] 31))
          generalize w1.alloc (.cells #[.string K, .string V] 31) = W at *
          generalize w1.heap.size = b1 at *
          clear hb b O1 B1
          obtain ⟨d0, d1, f0, f1⟩ := R2.out.two
          have hbase := B2.out.size
          refine (repeats_any K r _ HR.out).mono ?_
          rintro e w2 ⟨rfl, rfl⟩
          cases r with
          | true =>
            have X := Lib.hid ((opsGo_rep HOP.out HR.out).symm.trans E1.out)
            go_wp2_with (at_builtin; refine append_opts rfl _ _ rfl w.heap.size _ out rfl (OwnO.on O2.out ((Below.refl _ _).alloc (Nat.le_refl _) _)) _ 1 1 [(K, V)] rfl (opts_one _ _ _ _ (by simp)) (fun h => by cases h) (by omega) (by simp; omega) ?_; intro v3 w3 o3 _ _ b3; have O3 := Lib.hid o3; have B3 := Lib.hid ((B2.out.alloc B2.out.size _).trans b3); clear o3 b3)
            go_roundw
            case rel => exact ⟨k + 1, out ++ [(K, V)], by omega, by go_num, by simp; omega, O3.out, B3.out, X.out⟩
            case measure => simp [intOf]; omega
          | false =>
            obtain ⟨q, hq⟩ : ∃ q, Plain.has out K = q := ⟨_, rfl⟩
            have HQ := Lib.hid hq
            clear hq
            obtain ⟨A2, c2, rfl, hO, hA⟩ := O2.out.opts
            have HO := Lib.hid hO
            clear hO hA
            have HOL := Lib.hid (show out.length ≤ 1000000 by omega)
            cases q with
            | true =>
              have hf := (opsGo_twice HOP.out HR.out HQ.out).symm.trans E1.out
              subst hf
              clear O2
              generalize out.length = m at *
              go_wp2_with fail
              refine (has_any A2 m c2 out K true _ HO.out HOL.out HQ.out).mono ?_
              rintro e w2 ⟨rfl, rfl⟩
              go_wp2
              go_ret2
              exact opsPost_none B2.out
            | false =>
              have X := Lib.hid ((opsGo_new HOP.out HQ.out).symm.trans E1.out)
              obtain ⟨m, hm⟩ : ∃ m, out.length = m := ⟨_, rfl⟩
              have HM := Lib.hid hm
              rw [hm] at O2 HO HOL hol ⊢
              clear hm
              go_wp2_with fail
              refine (has_any A2 m c2 out K false _ HO.out HOL.out HQ.out).mono ?_
              rintro e w2 ⟨rfl, rfl⟩
              go_wp2_with (at_builtin; refine append_opts rfl _ _ rfl w.heap.size _ out rfl (OwnO.on O2.out ((Below.refl _ _).alloc (Nat.le_refl _) _)) _ 1 1 [(K, V)] rfl (opts_one _ _ _ _ (by simp)) (fun h => by cases h) (by have := HM.out; omega) (by simp; omega) ?_; intro v3 w3 o3 _ _ b3; have O3 := Lib.hid o3; have B3 := Lib.hid ((B2.out.alloc B2.out.size _).trans b3); clear o3 b3)
              go_roundw
              case rel => exact ⟨k + 1, out ++ [(K, V)], by omega, by go_num, by have := HM.out; simp; omega, O3.out, B3.out, X.out⟩
              case measure => simp [intOf]; omega
      · have hf : o = some out := by
          have := HE.out
          rw [List.drop_of_length_le (by have := HLEN.out; omega), opsGo] at this
          exact this.symm
        subst hf
        go_wp2
        go_ret2
        exact ⟨_, rfl, OWN.out, BW.out⟩

end Go.Proofs.Ytnmekmifdmlogaa
