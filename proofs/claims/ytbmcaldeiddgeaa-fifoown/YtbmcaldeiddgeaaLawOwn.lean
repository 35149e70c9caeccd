/- The law FifoOwn, walked. -/
import Derived.Test.YtbmcaldeiddgeaaWalksF
import Derived.WalkKit
import Derived.WalkSpells
import Derived.WalkLawsBesides
import Derived.Lib.Hide
import Derived.Deep.RegionHeld3
namespace Go.Proofs.Ytbmcaldeiddgeaa
open Go.RowKit

theorem held20 {A R : Option Addr} {n c rn rc : Nat} {zs ds : List Int} {W w' : World} (hx : Bytes w' A n c zs) (nx : A = none → n = 0 ∧ c = 0) (hy : Bytes w' R rn rc ds) (ny : R = none → rn = 0 ∧ rc = 0) (k : Below W.heap.size W w') :
    (convert 25 9 (.slice A n c)).run Try.prog w' = .ok (.string (strOfNums zs)) w' ∧ (convert 25 9 (.slice R rn rc)).run Try.prog w' = .ok (.string (strOfNums ds)) w' ∧ Below W.heap.size W w' := ⟨text_of hx nx, text_of hy ny, k⟩

theorem own_k0 {W w : World} {b n c rn rc : Nat} {S : Nat → Prop} {k : Int} {A R : Option Addr} {zs ds : List Int} (M : Mine W w b S k ds) (HB : Bytes W A n c zs) (HA : A = none → n = 0 ∧ c = 0) (RB : Buf w R rn rc ds) :
    (convert 25 9 (.slice A n c)).run Try.prog w = .ok (.string (strOfNums zs)) w ∧ (convert 25 9 (.slice R rn rc)).run Try.prog w = .ok (.string (strOfNums ds)) w ∧ Below W.heap.size W w :=
  held20 (HB.on M.below) HA RB.bytes.1 RB.bytes.2 M.below
theorem own_k9 {W w w9 : World} {b n c rn rc : Nat} {S : Nat → Prop} {k : Int} {A R : Option Addr} {zs ds : List Int} (M : Mine W w b S k ds) (HB : Bytes W A n c zs) (HA : A = none → n = 0 ∧ c = 0) (RB : Buf w R rn rc ds) (RS : ∀ g o s, R = some ⟨g, o, s⟩ → S g ∧ g ≠ b) (O9 : Only (fun d => d = b) w w9) :
    (convert 25 9 (.slice A n c)).run Try.prog w9 = .ok (.string (strOfNums zs)) w9 ∧ (convert 25 9 (.slice R rn rc)).run Try.prog w9 = .ok (.string (strOfNums ds)) w9 ∧ Below W.heap.size W w9 :=
  have k := M.below.trans (O9.below M.below.size (fun d hd => by rw [hd]; exact M.new b M.fi.mine))
  held20 (HB.on k) HA (RB.bytes.1.only O9 (fun g o he _ hb => (RS g o none he).2 hb)) RB.bytes.2 k
theorem own_k10 {W w w9 w10 : World} {b n c rn rc : Nat} {S : Nat → Prop} {k : Int} {A R : Option Addr} {zs ds : List Int} (M : Mine W w b S k ds) (HB : Bytes W A n c zs) (HA : A = none → n = 0 ∧ c = 0) (RB : Buf w R rn rc ds) (RS : ∀ g o s, R = some ⟨g, o, s⟩ → S g ∧ g ≠ b) (O9 : Only (fun d => d = b) w w9)
    (k10 : Below w9.heap.size w9 w10) : (convert 25 9 (.slice A n c)).run Try.prog w10 = .ok (.string (strOfNums zs)) w10 ∧ (convert 25 9 (.slice R rn rc)).run Try.prog w10 = .ok (.string (strOfNums ds)) w10 ∧ Below W.heap.size W w10 :=
  have k := M.below.trans (O9.below M.below.size (fun d hd => by rw [hd]; exact M.new b M.fi.mine))
  have k2 := k.trans (k10.mono k.size)
  held20 (HB.on k2) HA ((RB.bytes.1.only O9 (fun g o he _ hb => (RS g o none he).2 hb)).on k10) RB.bytes.2 k2

theorem Mine.drew {W w : World} {b : Nat} {S : Nat → Prop} {k : Int} {zs : List Int} (h : Mine W w b S k zs) : Mine W w.drew b S k zs := h.on (Below.refl _ _).drew

set_option maxHeartbeats 4000000 in
theorem own_walk (A : Option Addr) (len cap : Nat) (zs0 : List Int) (N : Int) (w : World) (h : IsRow .u8 w A len cap zs0) (hN : (Lit.int .u8 N).wf = true) :
    Calls Try.prog 6 #[.slice A len cap, .int .u8 N] w fun e w' => e = .returned (.bool true) ∧ Below w.heap.size w w' := by
  obtain ⟨hB, hA⟩ := h.bytes
  have HB := Lib.hid hB; have HA := Lib.hid hA
  have hm : len ≤ 9223372036854775807 := by have := hB.2.1; have := hB.2.2.1; unfold maxLen at this; omega
  clear hB hA h
  generalize zs0.take len = zs at *
  obtain ⟨hN0, hN1⟩ := bounds_u8 hN
  clear hN
  by_cases hbig : 500 < len
  · go_enter Try.func6, Try.ntmps6
    go_wp2_with fail
    refine (law_runs _).mono ?_
    rintro e w1 ⟨rfl, k1⟩
    go_wp2
    go_ret
    exact ⟨rfl, k1⟩
  go_enter Try.func6, Try.ntmps6
  go_wp2_with fail
  refine (new_any N w (by omega) (by omega)).mono ?_
  rintro e w1 ⟨b, S, rfl, F1, s1, k1⟩
  have hkb := blocks_pos N
  generalize sizeOfBlocks N = k at *
  obtain ⟨hk1, hk2⟩ := hkb
  have M1 := Lib.hid (show Mine w w1 b S k [] from ⟨F1, s1, k1⟩)
  have HB1 := Lib.hid (HB.out.on k1)
  clear F1 s1 k1
  have hl0 : 0 + len ≤ 1000000 := by omega
  go_wp2_with (at_builtin; refine append_buf rfl _ _ rfl (Buf.nil _) rfl HB1.out HA.out rfl hl0 ?_; intro X cx w2 q1 q2 q3; have Q1 := Lib.hid q1; have Q2 := Lib.hid q2; have Q3 := Lib.hid q3; clear q1 q2 q3)
  rw [Nat.zero_add] at *
  rw [List.nil_append] at Q1
  have k2 : Below w1.heap.size w1 w2 := Q2.out.below (Nat.le_refl _) (fun d ⟨_, _, he⟩ => by cases he)
  have M2 := Lib.hid (M1.out.on k2)
  have XA := Lib.hid (show ∀ g o s, X = some ⟨g, o, s⟩ → ¬ S g ∧ g < w2.heap.size ∧ w.heap.size ≤ g from fun g o s he => by
    rcases Q3.out with hx | hx
    · rw [hx] at he; cases he
    · obtain ⟨_, _, _, ⟨h4, _⟩ | ⟨g', o', he', hl, _⟩⟩ := Q1.out
      · rw [h4] at he; cases he
      · rw [hx] at he he'
        injection he with he; injection he with he; injection he' with he'; injection he' with he'
        refine ⟨fun hs => ?_, by omega, ?_⟩
        · have := M1.out.lt g hs; omega
        · have := M1.out.below.size; omega)
  have HN := Lib.hid (HB.out.1)
  have k2a : Below w2.heap.size w2 (w2.alloc (.cells #[.slice X len cx, .slice X len cx] 25)) := (Below.refl _ _).alloc (Nat.le_refl _) _
  have M2a := Lib.hid (M2.out.on k2a)
  refine (put_any b S k [] _ 2 2 [⟨X, len, cx, zs⟩, ⟨X, len, cx, zs⟩] _ M2a.out.fi (lists_new w2 S _ _ _ _ _ (by simp) rfl rfl ?hL M2.out.lt) (by omega) (by have := HN.out; simp [cat]; omega)).mono ?_
  case hL =>
    intro x hx
    simp at hx
    subst hx
    exact ⟨⟨Q1.out.bytes.1, Q1.out.bytes.2⟩, fun g o he _ => (XA.out g o none he).1⟩
  rintro e w3 ⟨v, S3, rfl, F3, O3, s3⟩
  rw [show ([] ++ cat [⟨X, len, cx, zs⟩, ⟨X, len, cx, zs⟩] : List Int) = zs ++ zs by simp [cat]] at F3
  have M3 := Lib.hid (M2a.out.next F3 O3 s3)
  have XB := Lib.hid ((Q1.out.only (S := fun _ => False) (Only.of_below k2a) (fun _ _ _ _ h => h)).only O3 (fun g o s he => (XA.out g o s he).1))
  have XS := Lib.hid (show ∀ g o s, X = some ⟨g, o, s⟩ → ¬ S3 g ∧ w.heap.size ≤ g from fun g o s he => ⟨fun hs => by
    rcases s3 g hs with h | h
    · exact (XA.out g o s he).1 h
    · have := (XA.out g o s he).2.1; simp at h; omega, (XA.out g o s he).2.2⟩)
  have k03 := M3.out.below
  have HB3 := Lib.hid (HB.out.on k03)
  clear F3 O3 s3 k2 k2a M2 M2a Q1 Q2 Q3 XA M1 HB1 hl0 k03
  go_wp2
  go_loopw [7] (fun i wr => ∃ (j : Nat) (ys : List Int), j ≤ len ∧ i = .int .i64 j ∧ Hid (Buf wr X len cx ys) ∧ Hid (Mine w wr b S3 k (zs ++ zs))) (fun i _ => len - (intOf i).toNat)
  case atStart => exact ⟨0, zs, Nat.zero_le _, rfl, XB.out, M3.out⟩
  case round =>
    obtain ⟨j, ys, hj, rfl, UB, MR⟩ := hrel
    by_cases hlt : j < len
    · obtain ⟨g, o, rfl⟩ : ∃ g o, X = some ⟨g, o, none⟩ := by
        rcases UB.out.2.2.2 with ⟨_, h0⟩ | ⟨g, o, he, _⟩
        · have := UB.out.2.1; omega
        · exact ⟨g, o, he⟩
      obtain ⟨c0, f0⟩ : wr.cell? ⟨g, o + j, none⟩ = some (.int .u8 (ys.getD j 0)) ∧ wr.frozen? ⟨g, o + j, none⟩ = false := by
        rcases UB.out.2.2.2 with ⟨h0, _⟩ | ⟨g', o', he, _, _, hf, hc⟩
        · cases h0
        · injection he with he; injection he with e1 e2; subst e1 e2
          exact ⟨hc j hlt, hf j (by have := UB.out.2.1; omega)⟩
      generalize ys.getD j 0 = y at *
      have hji : (j : Int) < (len : Int) := by omega
      have hj0 : (0 : Int) ≤ (j : Int) := by omega
      go_wp2
      go_roundw
      case rel =>
        refine ⟨j + 1, ys.set j _, by omega, by go_num, UB.out.set j hlt _, ?_⟩
        exact MR.out.on2 ((Only.refl (fun d => d = g) wr).setCell ⟨g, o + j, none⟩ (fun _ => rfl) _) (fun d hd hs => (XS.out g o none rfl).1 (by rw [← hd]; exact hs)) (fun d hd => by rw [hd]; exact (XS.out g o none rfl).2)
      case measure => simp [intOf]; omega
    · have MX := MR
      clear UB XB XS M3
      have hjn : j = len := by omega
      by_cases hkk : k ≤ len + len
      · obtain ⟨ts, hts⟩ : ∃ ts, (zs ++ zs).take k = ts := ⟨_, rfl⟩
        obtain ⟨ds, hds⟩ : ∃ ds, (zs ++ zs).drop k = ds := ⟨_, rfl⟩
        have HC := Lib.hid (show ts ++ ds = zs ++ zs by rw [← hts, ← hds, List.take_append_drop])
        go_wp2_with fail
        refine (take_yes_at b S3 k (zs ++ zs) ts ds wr MX.out.fi hts hds (by have := HN.out; simp; omega) hk1 hk2).mono ?_
        rintro e w4 ⟨A4, c4, S4, rfl, u4, a4, F4, O4, s4⟩
        have M4 := Lib.hid (MX.out.next F4 O4 s4); have U4 := Lib.hid u4
        have A4S := Lib.hid (show ∀ g o s, A4 = some ⟨g, o, s⟩ → ¬ S4 g ∧ w.heap.size ≤ g from fun g o s he => ⟨(a4 g o s he).2, Nat.le_trans MX.out.below.size (a4 g o s he).1⟩)
        have t1 : (convert 25 9 (.slice A4 k c4)).run Try.prog w4 = .ok (.string (strOfNums ts)) w4 := text_of u4.bytes.1 u4.bytes.2
        clear u4 a4 F4 O4 s4 hts hds MR MX
        go_wp2
        clear t1
        go_loopw [11] (fun i wq => ∃ (j : Nat) (ys : List Int), j ≤ k ∧ i = .int .i64 j ∧ Hid (Buf wq A4 k c4 ys) ∧ Hid (Mine w wq b S4 k ds)) (fun i _ => k - (intOf i).toNat)
        case atStart => exact ⟨0, ts, Nat.zero_le _, rfl, U4.out, M4.out⟩
        case round =>
          obtain ⟨i, ys, hi, rfl, UB, MQ⟩ := hrel
          by_cases hlt2 : i < k
          · obtain ⟨g, o, rfl⟩ : ∃ g o, A4 = some ⟨g, o, none⟩ := by
              rcases UB.out.2.2.2 with ⟨_, h0⟩ | ⟨g, o, he, _⟩
              · have := UB.out.2.1; omega
              · exact ⟨g, o, he⟩
            obtain ⟨c0, f0⟩ : wr.cell? ⟨g, o + i, none⟩ = some (.int .u8 (ys.getD i 0)) ∧ wr.frozen? ⟨g, o + i, none⟩ = false := by
              rcases UB.out.2.2.2 with ⟨h0, _⟩ | ⟨g', o', he, _, _, hf, hc⟩
              · cases h0
              · injection he with he; injection he with e1 e2; subst e1 e2
                exact ⟨hc i hlt2, hf i (by have := UB.out.2.1; omega)⟩
            generalize ys.getD i 0 = y at *
            have hji : (i : Int) < (k : Int) := by omega
            have hj0 : (0 : Int) ≤ (i : Int) := by omega
            go_wp2
            go_roundw
            case rel =>
              refine ⟨i + 1, ys.set i _, by omega, by go_num, UB.out.set i hlt2 _, ?_⟩
              exact MQ.out.on2 ((Only.refl (fun d => d = g) wr).setCell ⟨g, o + i, none⟩ (fun _ => rfl) _) (fun d hd hs => (A4S.out g o none rfl).1 (by rw [← hd]; exact hs)) (fun d hd => by rw [hd]; exact (A4S.out g o none rfl).2)
            case measure => simp [intOf]; omega
          · obtain ⟨R, rn, rc, c1, hb, hR⟩ := MQ.out.fi.held
            have MD := Lib.hid MQ.out.drew
            have RD := Lib.hid (hb.only (S := fun _ => False) (Only.of_below (Below.refl _ _).drew) (fun _ _ _ _ h => h))
            have RS := Lib.hid hR
            have K0 := own_k0 MD.out HB.out HA.out RD.out
            have cD : wr.drew.cell? ⟨b, 1, none⟩ = some (.slice R rn rc) := c1
            have sa1 : ∀ w' : World, (Op.stringOp .add (strOfNums ts) (strOfNums ds)).run Try.prog w' = .ok (.string (strOfNums (zs ++ zs))) w' := str_add _ _ _ HC.out (by have := HN.out; simp; omega)
            have sa2 : ∀ w' : World, (Op.stringOp .add (strOfNums zs) (strOfNums zs)).run Try.prog w' = .ok (.string (strOfNums (zs ++ zs))) w' := str_add _ _ _ rfl (by have := HN.out; simp; omega)
            clear hb hR c1
            go_wp2
            go_region_held3 (fun w' => (convert 25 9 (.slice A len cap)).run Try.prog w' = .ok (.string (strOfNums zs)) w' ∧ (convert 25 9 (.slice R rn rc)).run Try.prog w' = .ok (.string (strOfNums ds)) w' ∧ Below w.heap.size w w')
              (first | assumption | exact K0 | exact K9 | exact K10)
              (first | (go_at_call 11; refine (rest_at b S4 k ds R rn rc _ MD.out.fi cD).mono ?_; rintro e w9 ⟨rfl, F9, O9⟩; have K9 := own_k9 MD.out HB.out HA.out RD.out RS.out O9) | (go_at_call 3; refine (law_runs _).mono ?_; rintro e w10 ⟨rfl, k10⟩; have K10 := own_k10 MD.out HB.out HA.out RD.out RS.out O9 k10))
            go_wp2
            go_ret
            exact ⟨rfl, K10.2.2⟩
      · go_wp2_with fail
        refine (take_no b S3 k (zs ++ zs) wr MX.out.fi (by have := HN.out; simp; omega)).mono ?_
        rintro e w4 ⟨rfl, F4, k4⟩
        have M4 := Lib.hid (MX.out.on k4)
        have t1 : (convert 25 9 (.slice none 0 0)).run Try.prog w4 = .ok (.string ⟨#[]⟩) w4 := text_of (Buf.nil w4).bytes.1 (fun _ => ⟨rfl, rfl⟩)
        clear F4 k4 MR MX
        go_wp2
        clear t1
        go_loopw [11] (fun i wq => i = .int .i64 0 ∧ Hid (Mine w wq b S3 k (zs ++ zs))) (fun _ _ => 0)
        case atStart => exact ⟨rfl, M4.out⟩
        case round =>
          obtain ⟨rfl, MQ⟩ := hrel
          obtain ⟨R, rn, rc, c1, hb, hR⟩ := MQ.out.fi.held
          have MD := Lib.hid MQ.out.drew
          have RD := Lib.hid (hb.only (S := fun _ => False) (Only.of_below (Below.refl _ _).drew) (fun _ _ _ _ h => h))
          have RS := Lib.hid hR
          have K0 := own_k0 MD.out HB.out HA.out RD.out
          have cD : wr.drew.cell? ⟨b, 1, none⟩ = some (.slice R rn rc) := c1
          have sa1 : ∀ w' : World, (Op.stringOp .add ⟨#[]⟩ (strOfNums (zs ++ zs))).run Try.prog w' = .ok (.string (strOfNums (zs ++ zs))) w' := str_add [] _ _ rfl (by have := HN.out; simp; omega)
          have sa2 : ∀ w' : World, (Op.stringOp .add (strOfNums zs) (strOfNums zs)).run Try.prog w' = .ok (.string (strOfNums (zs ++ zs))) w' := str_add _ _ _ rfl (by have := HN.out; simp; omega)
          clear hb hR c1
          go_wp2
          go_region_held3 (fun w' => (convert 25 9 (.slice A len cap)).run Try.prog w' = .ok (.string (strOfNums zs)) w' ∧ (convert 25 9 (.slice R rn rc)).run Try.prog w' = .ok (.string (strOfNums (zs ++ zs))) w' ∧ Below w.heap.size w w')
            (first | assumption | exact K0 | exact K9 | exact K10)
            (first | (go_at_call 11; refine (rest_at b S3 k (zs ++ zs) R rn rc _ MD.out.fi cD).mono ?_; rintro e w9 ⟨rfl, F9, O9⟩; have K9 := own_k9 MD.out HB.out HA.out RD.out RS.out O9) | (go_at_call 3; refine (law_runs _).mono ?_; rintro e w10 ⟨rfl, k10⟩; have K10 := own_k10 MD.out HB.out HA.out RD.out RS.out O9 k10))
          go_wp2
          go_ret
          exact ⟨rfl, K10.2.2⟩

end Go.Proofs.Ytbmcaldeiddgeaa
