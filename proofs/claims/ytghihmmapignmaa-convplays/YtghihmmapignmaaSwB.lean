/- Contract of swab's Put. -/
import Derived.Test.YtghihmmapignmaaSwA
import Derived.WalkKit
import Derived.WalkSpells
import Derived.WalkLawsBesides
import Derived.Lib.Hide
import Derived.OwnWalk
namespace Go.Proofs.Ytghihmmapignmaa
open Go.RowKit

/-- make([]byte, 0, N): room for bytes that may be written. -/
theorem make_buf {w : World} {ops : Array Oper} {rest : List Oper} {o : Oper} {a : Act} {Q : Exit → Act → World → Prop} (hgd : o.guard = none) (l c : Operand) (ho : o.op = .makeSlice 24 l c) (C : Int) (N : Nat) (hl : a.eval l = .int .i64 0) (hc : a.eval c = .int .i64 C) (hC : C = (N : Int)) (hN : N ≤ 1000000)
    (hn : ∀ w', Buf w' (some ⟨w.heap.size, 0, none⟩) 0 N [] → Below w.heap.size w w' → wpList Try.prog ops Q rest (a.put o.dst (.slice (some ⟨w.heap.size, 0, none⟩) 0 N)) w') :
    wpList Try.prog ops Q (o :: rest) a w := by
  obtain ⟨i0, hi, hz0, hz1, hz2⟩ := info_parts info5
  subst hC
  have hrun := run_make (P := Try.prog) w 24 5 i0 (.int .u8 0) Try.underlying24 hi hz0 .i64 .i64 0 (N : Int) (Int.le_refl _) (by omega) (by rw [hz2]; omega) (by omega)
  simp only [Int.toNat_zero, Int.toNat_natCast, hz1, Nat.mul_one] at hrun
  refine wpList_plain hgd fun K hK => ?_
  unfold Oper.wp
  simp [execOp, ho, hl, hc, hrun, Result.andThen]
  refine hK _ _ (hn _ ?_ ((Below.refl _ _).alloc (Nat.le_refl _) _))
  have := buf_new w [] (madeCells (Value.cells (.int .u8 0)) N) 0 N rfl (Nat.zero_le _) (by unfold maxLen; omega) (by rw [size_madeCells]; rfl)
  simpa using this

def SPutPost (b : Nat) (on : Bool) (os ks : List Int) (w : World) (e : Ending) (w' : World) : Prop :=
  ∃ A m c, e = .returned (.slice A m c) ∧ Buf w' A m c os ∧ (∀ g o s, A = some ⟨g, o, s⟩ → w.heap.size ≤ g) ∧ Sw w' b on ks ∧ Only (fun d => d = b) w w'

set_option maxHeartbeats 400000 in
theorem sput_off (b : Nat) (ks : List Int) (A : Option Addr) (n c : Nat) (zs : List Int) (w : World) (h : Sw w b false ks) (hB : Bytes w A n c zs) (hA : A = none → n = 0 ∧ c = 0) (hn : n ≤ 100000) :
    Calls Try.prog 42 #[.pointer (some ⟨b, 0, none⟩), .slice A n c] w (SPutPost b false zs [] w) := by
  have X := Lib.hid h; have HB := Lib.hid hB; have HA := Lib.hid hA
  have c0 := h.isOn
  have hk := Lib.hid (h.off rfl)
  clear h hB hA
  have hn0 : 0 + n ≤ 1000000 := by omega
  go_enter Try.func42, Try.ntmps42
  go_wp2_with (at_builtin; refine append_buf rfl _ _ rfl (Buf.nil w) rfl HB.out HA.out rfl hn0 ?_; intro A' c' w1 q1 q2 q3; have Q1 := Lib.hid q1; have Q2 := Lib.hid q2; have Q3 := Lib.hid q3; clear q1 q2 q3)
  go_ret
  have K := Q2.out.below (Nat.le_refl _) (fun d ⟨o, s, h⟩ => by cases h)
  refine ⟨A', n, c', by simp, by simpa using Q1.out, ?_, ?_, Only.of_below K⟩
  · intro g o s he
    rcases Q3.out with rfl | rfl
    · cases he
    · injection he with he; injection he with he; omega
  · have := X.out.on' K
    rwa [hk.out] at this

theorem Bytes.apart {S : Nat → Prop} {w w' : World} {g o n c : Nat} {zs : List Int} (h : Bytes w (some ⟨g, o, none⟩) n c zs) (hb : Only S w w') (hS : ¬ S g) (j : Nat) (hj : j < n) : w'.cell? ⟨g, o + j, none⟩ = some (.int .u8 (zs.getD j 0)) := by
  obtain ⟨b, o', he, hl, hc⟩ := h.2.2.2 (by omega)
  injection he with he
  injection he with e1 e2
  subst e1 e2
  exact (hb.cell (p := ⟨g, o + j, none⟩) hl hS).trans (hc j hj)

set_option maxHeartbeats 1000000 in
theorem sput_on (b : Nat) (ks : List Int) (A : Option Addr) (n c : Nat) (zs : List Int) (w : World) (h : Sw w b true ks) (hB : Bytes w A n c zs) (hA : ∀ g o, A = some ⟨g, o, none⟩ → 0 < n → g ≠ b) (hn : n ≤ 100000) :
    Calls Try.prog 42 #[.pointer (some ⟨b, 0, none⟩), .slice A n c] w (SPutPost b true (turn (ks ++ zs)) (odd (ks ++ zs)) w) := by
  have X := Lib.hid h; have HB := Lib.hid hB; have HA := Lib.hid hA
  have c0 := h.isOn
  clear h hB hA
  go_enter Try.func42, Try.ntmps42
  go_wp2_with (at_make; refine make_buf rfl _ _ rfl ((n : Int) + 1) (n + 1) rfl rfl (by omega) (by omega) ?_; intro w1 q1 q2; have Q1 := Lib.hid q1; have Q2 := Lib.hid q2; clear q1 q2)
  go_loopw [5, 21] (fun vo i wr => ∃ (j : Nat) (O : Option Addr) (m oc : Nat) (os js : List Int), j ≤ n ∧ i = .int .i64 j ∧ vo = .slice O m oc ∧ Hid (Buf wr O m oc os) ∧ Hid (∀ g o s, O = some ⟨g, o, s⟩ → w.heap.size ≤ g) ∧ Hid (Sw wr b true js) ∧ Hid (Only (fun d => d = b) w wr) ∧ Hid (os = turn (ks ++ zs.take j) ∧ js = odd (ks ++ zs.take j))) (fun _ i _ => n - (intOf i).toNat)
  case atStart =>
    refine ⟨0, some ⟨w.heap.size, 0, none⟩, 0, n + 1, [], ks, Nat.zero_le _, rfl, rfl, Q1.out, (fun g o s he => by injection he with he; injection he with he; omega), X.out.on' Q2.out, Only.of_below Q2.out, ?_⟩
    have hk := X.out.one
    match ks, hk with
    | [], _ => exact ⟨rfl, rfl⟩
    | [a], _ => exact ⟨rfl, rfl⟩
  case round =>
    clear Q1 Q2 c0
    obtain ⟨j, O, m, oc, os, js, hj, rfl, rfl, BO, NO, SJ, OW, EE⟩ := hrel
    by_cases hlt : j < n
    · obtain ⟨g, o, rfl, hg, hc⟩ := HB.out.2.2.2 (by omega)
      have hgb := HA.out g o rfl (by omega)
      have c0 := HB.out.apart OW.out hgb j hlt
      have ET := Lib.hid (turn_take ks j (by rw [HB.out.1]; exact hlt))
      clear hc hg hgb
      generalize zs.getD j 0 = z at *
      have c1 := SJ.out.held; have c2 := SJ.out.first; have f1 := SJ.out.f1; have f2 := SJ.out.f2
      have ho := SJ.out.one
      match js, ho with
      | [], _ =>
        have ST := Lib.hid (SJ.out.stored (js := [z]) (by simp) (fun h => by cases h) true z rfl rfl)
        simp only [List.isEmpty_nil, Bool.not_true, List.getD_nil] at c1 c2
        go_wp2
        go_roundw
        case rel =>
          have hne := turn_none EE.out.2.symm z
          refine ⟨j + 1, O, m, oc, os, [z], by omega, by go_num, rfl, BO.out.only (S := fun d => d = b) ST.out.2 (fun g o s he hg => by have := NO.out g o s he; have := X.out.lt; omega), NO.out, ST.out.1, OW.out.trans ST.out.2 (fun d h _ => h), ?_⟩
          unfold Hid
          rw [ET.out, hne.1, hne.2, ← EE.out.1]
          exact ⟨rfl, rfl⟩
        case measure => simp [intOf]; omega
      | [a], _ =>
        simp only [List.isEmpty_cons, Bool.not_false, List.getD_cons_zero] at c1 c2
        have hml : m = os.length := BO.out.1.symm
        have hle : os.length ≤ 100001 := by
          have h1 := turn_le (ks ++ zs.take j)
          have h2 := X.out.one
          rw [← EE.out.1] at h1
          simp at h1
          omega
        have hm2 : m + 2 ≤ 1000000 := by omega
        clear hml hle
        go_wp2_with fail
        refine (release_any b true a wr SJ.out).mono ?_
        rintro e w2 ⟨rfl, q1, q2⟩
        have S2 := Lib.hid (q1.on' ((Below.refl _ _).alloc (Nat.le_refl _) (.cells #[.int .u8 z, .int .u8 a] 5)))
        have K2 := Lib.hid ((Only.alloc q2 (.cells #[.int .u8 z, .int .u8 a] 5)))
        have B2 := Lib.hid (buf_new w2 [z, a] #[] 2 2 rfl (Nat.le_refl _) (by decide) rfl).bytes.1
        have P2 := Lib.hid (BO.out.only (S := fun d => d = b) K2.out (fun g o s he hg => by have := NO.out g o s he; have := X.out.lt; omega))
        clear q1 q2 c1 c2 f1 f2 c0
        go_wp2_with (at_builtin; refine append_buf rfl _ _ rfl P2.out rfl (by simpa using B2.out) (fun h => by cases h) rfl hm2 ?_; intro A' c' w3 q1 q2 q3; have Q1 := Lib.hid q1; have Q2 := Lib.hid q2; have Q3 := Lib.hid q3; clear q1 q2 q3)
        go_roundw
        case rel =>
          have hne := turn_some EE.out.2.symm z
          have hnb : ¬ ∃ o s, O = some ⟨b, o, s⟩ := fun ⟨o, s, he⟩ => by have := NO.out b o s he; have := X.out.lt; omega
          have OW2 := OW.out.trans K2.out (fun d h _ => h)
          refine ⟨j + 1, A', m + 2, c', os ++ [z, a], [], by omega, by go_num, rfl, Q1.out, ?_, S2.out.only Q2.out hnb, OW2.trans Q2.out (fun d ⟨o, s, he⟩ hd => absurd hd (by have := NO.out d o s he; omega)), ?_⟩
          · intro g o s he
            rcases Q3.out with rfl | rfl
            · exact NO.out g o s he
            · injection he with he; injection he with he
              have := OW2.size
              omega
          · unfold Hid
            rw [ET.out, hne.1, hne.2, ← EE.out.1]
            exact ⟨rfl, rfl⟩
        case measure => simp [intOf]; omega
    · have hjn : j = n := by omega
      have HT := Lib.hid (show zs.take j = zs by rw [hjn, ← HB.out.1]; exact List.take_length)
      go_wp2
      go_ret
      have h1 := EE.out
      rw [HT.out] at h1
      rw [← h1.1, ← h1.2]
      exact ⟨O, m, oc, rfl, BO.out, NO.out, SJ.out, OW.out⟩

theorem sput_any (b : Nat) (on : Bool) (ks : List Int) (A : Option Addr) (n c : Nat) (zs os js : List Int) (w : World) (h : Sw w b on ks) (hB : Bytes w A n c zs) (hN : A = none → n = 0 ∧ c = 0) (hA : ∀ g o, A = some ⟨g, o, none⟩ → 0 < n → g ≠ b) (hn : n ≤ 100000) (ho : tn on (ks ++ zs) = os) (hj : od on (ks ++ zs) = js) :
    Calls Try.prog 42 #[.pointer (some ⟨b, 0, none⟩), .slice A n c] w (SPutPost b on os js w) := by
  subst ho hj
  cases on with
  | true => exact sput_on b ks A n c zs w h hB hA hn
  | false =>
    have hk := h.off rfl
    subst hk
    exact sput_off b [] A n c zs w h hB hN hn

end Go.Proofs.Ytghihmmapignmaa
