/- Contracts of few, pack and unpack. -/
import Derived.Test.YtemehobohgcpdaaWalksR
import Derived.Test.YtemehobohgcpdaaReadR
import Derived.WalkKit
import Derived.WalkSpells
import Derived.WalkLawsBesides
import Derived.Lib.Hide
import Derived.Laws.Concat
namespace Go.Proofs.Ytemehobohgcpdaa
open Go.RowKit

def FewPost (s : Int) (L : List El) (w : World) (e : Ending) (w' : World) : Prop :=
  ∃ x : Bool, e = .returned (.bool x) ∧ (x = true → L.length ≤ 30 ∧ (cat L).length ≤ 400 ∧ (s ≤ 600 ∨ (cat L).length ≤ 40)) ∧ w = w'

set_option maxHeartbeats 2000000 in
theorem few_any (s : Int) (A : Option Addr) (n c : Nat) (L : List El) (w : World) (h : Lists w A n L) (hm : n ≤ 9223372036854775807) : Calls Try.prog 17 #[.int .i64 s, .slice A n c] w (FewPost s L w) := by
  have H := Lib.hid h
  clear h
  go_enter Try.func17, Try.ntmps17
  go_wp2
  go_loopw [5, 6] (fun sm i wr => ∃ (j t : Nat), j ≤ n ∧ j ≤ 60 ∧ i = .int .i64 j ∧ sm = .int .i64 t ∧ Hid (t = (cat (L.take j)).length) ∧ t ≤ j * 400 ∧ w = wr) (fun _ i _ => n - (intOf i).toNat)
  case atStart => exact ⟨0, 0, Nat.zero_le _, Nat.zero_le _, rfl, rfl, rfl, Nat.zero_le _, rfl⟩
  case round =>
    obtain ⟨j, t, hj, hj1, rfl, rfl, HT, ht, rfl⟩ := hrel
    by_cases hlt : j < n
    · by_cases hlt2 : j < 60
      · obtain ⟨b, o, rfl, hb, hc⟩ := H.out.cells (by omega)
        have c1 := hc j hlt
        have HS := Lib.hid (cat_snoc L j (by have := H.out.len; omega))
        have HX := Lib.hid (H.out.ok j hlt)
        clear hc hb
        generalize L.getD j default = x at *
        obtain ⟨xa, xn, xc, xz⟩ := x
        simp only at c1 HS
        have m1 : xn ≤ 9223372036854775807 := by have := HX.out.bytes.2.1; have := HX.out.bytes.2.2.1; unfold maxLen at this; simp only at *; omega
        have HN := Lib.hid (show xz.length = xn from HX.out.bytes.1)
        by_cases hx : 400 < xn
        · go_wp2
          go_ret
          exact ⟨false, rfl, (fun h => by cases h), by simp⟩
        · go_wp2
          go_roundw
          case rel => exact ⟨j + 1, t + xn, by omega, by omega, by go_num, by go_num, by unfold Hid; rw [HS.out, List.length_append, ← HT.out, HN.out], by omega, by simp⟩
          case measure => simp [intOf]; omega
      · have hj3 : j = 60 := by omega
        have hd : decide ((n : Int) ≤ 30) = false := by simp; omega
        go_wp2
        go_ret
        exact ⟨false, rfl, (fun h => by cases h), by simp⟩
    · have hjn : j = n := by omega
      have HL := Lib.hid (show t = (cat L).length by rw [HT.out, hjn, ← H.out.len, List.take_length])
      have HN := Lib.hid H.out.len
      clear H HT
      by_cases h1 : n ≤ 30
      · by_cases h2 : t ≤ 400
        · have hd : decide ((t : Int) ≤ 400) = true := by simp; omega
          by_cases h3 : s ≤ 600
          · have hd3 : decide (s ≤ 600) = true := by simp; omega
            go_wp2
            go_ret
            exact ⟨true, rfl, fun _ => ⟨by rw [HN.out]; exact h1, by rw [← HL.out]; exact h2, .inl h3⟩, by simp⟩
          · have hd3 : decide (s ≤ 600) = false := by simp; omega
            by_cases h4 : t ≤ 40
            · have hd4 : decide ((t : Int) ≤ 40) = true := by simp; omega
              go_wp2
              go_ret
              exact ⟨true, rfl, fun _ => ⟨by rw [HN.out]; exact h1, by rw [← HL.out]; exact h2, .inr (by rw [← HL.out]; exact h4)⟩, by simp⟩
            · have hd4 : decide ((t : Int) ≤ 40) = false := by simp; omega
              go_wp2
              go_ret
              exact ⟨false, rfl, (fun h => by cases h), by simp⟩
        · have hd : decide ((t : Int) ≤ 400) = false := by simp; omega
          go_wp2
          go_ret
          exact ⟨false, rfl, (fun h => by cases h), by simp⟩
      · have hd : decide ((n : Int) ≤ 30) = false := by simp; omega
        go_wp2
        go_ret
        exact ⟨false, rfl, (fun h => by cases h), by simp⟩

theorem str_append (a b : List Int) : strOfNums a ++ strOfNums b = strOfNums (a ++ b) := by
  apply ByteArray.ext
  simp [strOfNums, ByteArray.data_append]
theorem str_size (a : List Int) : (strOfNums a).size = a.length := by simp [strOfNums, ByteArray.size]
theorem str_add (a b c : List Int) (h : a ++ b = c) (hl : c.length ≤ 1000000) (w : World) : (Op.stringOp .add (strOfNums a) (strOfNums b)).run Try.prog w = .ok (.string (strOfNums c)) w := by
  rw [run_string_add_sum w _ _ (by rw [str_size, str_size]; have : c.length = a.length + b.length := by rw [← h]; simp
                                   omega), str_append, h]

/-- A list that was there lies in none of an object's blocks. -/
theorem El_away {W w : World} {P : World → (Nat → Prop) → Prop} {S : Nat → Prop} (h : Mine W w P S) {x : El} (hx : ElOk W x) : ElOk w x ∧ ∀ g o, x.a = some ⟨g, o, none⟩ → 0 < x.n → ¬ S g := by
  refine ⟨hx.on h.below, fun g o he hn hs => ?_⟩
  have h1 := hx.bytes.at g o he hn
  have := h.new g hs
  omega

/-- All of it, packed: the records, and how many were cut. -/
def pAll (K : Nat) (zs : List Int) : List Int := pOut K [] zs ++ pEnd K (pLine [] zs)
def cAll (K : Nat) (zs : List Int) : Nat := pCut K [] zs + over K (pLine [] zs)
def uAll (K : Nat) (zs : List Int) : List Int := uOut K [] zs ++ uEnd (uRest K [] zs)
theorem pAll_le (K : Nat) (zs : List Int) : (pAll K zs).length ≤ K * zs.length + K := by
  have h1 := pOut_le K zs []
  have h2 := pEnd_le K (pLine [] zs)
  simp [pAll]; omega
theorem uAll_le (K : Nat) (zs : List Int) : (uAll K zs).length ≤ 2 * zs.length + 1 := by
  have h1 := u_le K zs []
  have h2 := uEnd_le (uRest K [] zs)
  simp only [uAll, List.length_append, List.length_nil] at *
  omega

def PackPost (os : List Int) (cut : Nat) (w : World) (e : Ending) (w' : World) : Prop := e = .returned (.tuple #[.string (strOfNums os), .int .i64 cut]) ∧ Below w.heap.size w w'

set_option maxHeartbeats 4000000 in
theorem pack_any (s : Int) (K : Nat) (A : Option Addr) (n c : Nat) (L : List El) (zs os : List Int) (cut : Nat) (w : World) (h1 : -9223372036854775808 ≤ s) (h2 : s ≤ 9223372036854775807) (hK : kOf s = K) (h : Lists w A n L) (hn : n ≤ 100) (hz : cat L = zs) (hc : K * zs.length ≤ 900000) (hzl : zs.length ≤ 100000) (ho : pAll K zs = os) (hcut : cAll K zs = cut) :
    Calls Try.prog 24 #[.int .i64 s, .slice A n c] w (PackPost os cut w) := by
  have H := Lib.hid h; have HC := Lib.hid hc; have HZ := Lib.hid hz; have HZL := Lib.hid hzl; have HO := Lib.hid ho; have HU := Lib.hid hcut; have HK := Lib.hid hK
  clear h hc hz hzl ho hcut hK
  go_enter Try.func24, Try.ntmps24
  go_wp2_with fail
  refine (newp_any s w h1 h2).mono ?_
  rintro e w1 ⟨b, rfl, F1, s1, k1⟩
  rw [HK.out] at F1
  have M1 := Lib.hid (show Mine w w1 (Rc b K [] (some (.int .i64 ((0 : Nat) : Int)))) (fun d => d = b) from ⟨F1, fun d hd => by omega, k1⟩)
  have hp := F1.pos
  clear k1 F1 s1
  go_wp2
  go_loopw [7, 8] (fun vo i wr => ∃ (j : Nat) (os1 l1 : List Int) (cr : Nat) (S : Nat → Prop), j ≤ n ∧ i = .int .i64 j ∧ vo = .string (strOfNums os1) ∧ Hid (Mine w wr (Rc b K l1 (some (.int .i64 cr))) S) ∧ Hid (os1 = pOut K [] (cat (L.take j)) ∧ l1 = pLine [] (cat (L.take j)) ∧ cr = pCut K [] (cat (L.take j)))) (fun _ i _ => n - (intOf i).toNat)
  case atStart => exact ⟨0, [], [], 0, _, Nat.zero_le _, rfl, rfl, M1.out, by unfold Hid; exact ⟨rfl, rfl, rfl⟩⟩
  case round =>
    clear M1
    obtain ⟨j, os1, l1, cr, S, hj, rfl, rfl, M, EE⟩ := hrel
    have HT1 := Lib.hid (cat_take L j)
    have hl1 : l1.length ≤ 100000 := by have e := EE.out.2.1; have := pLine_le (cat (L.take j)) []; rw [← e] at this; have := HT1.out; have := HZL.out; rw [← HZ.out] at this; simp at *; omega
    have hcr : cr ≤ 100000 := by have e := EE.out.2.2; have := pCut_le K (cat (L.take j)) []; rw [← e] at this; have := HT1.out; have := HZL.out; rw [← HZ.out] at this; omega
    by_cases hlt : j < n
    · obtain ⟨lb, o, rfl, hb, hc⟩ := H.out.cells (by omega)
      have c0 := (M.out.below.cell (p := ⟨lb, o + j, none⟩) hb).trans (hc j hlt)
      have hjl : j < L.length := by have := H.out.len; omega
      have HS := Lib.hid (cat_snoc L j hjl)
      have HX := Lib.hid (H.out.ok j hlt)
      have HL := Lib.hid (cat_le L j hjl)
      clear hc hb hjl
      generalize L.getD j default = x at *
      obtain ⟨xa, xn, xc, xz⟩ := x
      simp only at c0 HS HL
      have HE := Lib.hid (El_away M.out HX.out)
      have hxz : xz.length ≤ zs.length := by have := HL.out; rw [HZ.out] at this; omega
      have hxn : xn ≤ zs.length := by have := HX.out.bytes.1; simp only at *; omega
      have hxK : K * xn ≤ 900000 := Nat.le_trans (Nat.mul_le_mul_left K hxn) HC.out
      have hxs : xn ≤ 100000 := Nat.le_trans hxn HZL.out
      obtain ⟨o2, ho2⟩ : ∃ o2, pOut K l1 xz = o2 := ⟨_, rfl⟩
      obtain ⟨l2, hl2⟩ : ∃ l2, pLine l1 xz = l2 := ⟨_, rfl⟩
      obtain ⟨c2, hc2⟩ : ∃ c2, cr + pCut K l1 xz = c2 := ⟨_, rfl⟩
      obtain ⟨o3, ho3⟩ : ∃ o3, os1 ++ o2 = o3 := ⟨_, rfl⟩
      have E2 := Lib.hid (show o3 = pOut K [] (cat (L.take (j + 1))) ∧ l2 = pLine [] (cat (L.take (j + 1))) ∧ c2 = pCut K [] (cat (L.take (j + 1))) by
        rw [HS.out, pOut_app, pLine_app, pCut_app, ← EE.out.1, ← EE.out.2.1, ← EE.out.2.2, ← ho3, ← ho2, ← hl2, ← hc2]; exact ⟨rfl, rfl, rfl⟩)
      have h3 : o3.length ≤ 1000000 := by
        have e1 := E2.out.1
        have e2 := pOut_le K (cat (L.take (j + 1))) []
        have e3 := Nat.mul_le_mul_left K (cat_take L (j + 1))
        have e4 := HC.out
        rw [← e1] at e2
        rw [HZ.out] at e3
        omega
      have sa1 : ∀ w' : World, (Op.stringOp .add (strOfNums os1) (strOfNums o2)).run Try.prog w' = .ok (.string (strOfNums o3)) w' := str_add _ _ _ ho3 h3
      clear ho3 h3
      go_wp2_with fail
      refine (putp_any b K l1 cr S xa xn xc xz o2 l2 c2 wr M.out.obj HE.out.1.bytes HX.out.nil HE.out.2 HX.out.are (by omega) hxK (by omega) ho2 hl2 hc2).mono ?_
      rintro e w2 ⟨A2, m2, cc2, S2, rfl, q1, q2, q3, q4, q5⟩
      have M2 := Lib.hid (M.out.next q3 q4 q5)
      have t1 : (convert 26 9 (.slice A2 m2 cc2)).run Try.prog w2 = .ok (.string (strOfNums o2)) w2 := text_of q1.bytes.1 q1.bytes.2
      clear q1 q2 q3 q4 q5 M HE HX ho2 hl2 hc2
      go_wp2
      go_roundw
      case rel => exact ⟨j + 1, o3, l2, c2, S2, by omega, by go_num, rfl, M2.out, E2.out⟩
      case measure => simp [intOf]; omega
    · have hjn : j = n := by omega
      have HT := Lib.hid (show L.take j = L by rw [hjn, ← H.out.len]; exact List.take_length)
      obtain ⟨o2, ho2⟩ : ∃ o2, pEnd K l1 = o2 := ⟨_, rfl⟩
      have HE := Lib.hid (show os1 ++ o2 = os by have e := EE.out; rw [HT.out, HZ.out] at e; rw [e.1, ← ho2, e.2.1, ← HO.out]; rfl)
      have HE2 := Lib.hid (show cr + over K l1 = cut by have e := EE.out; rw [HT.out, HZ.out] at e; rw [e.2.2, e.2.1, ← HU.out]; rfl)
      have hz3 : os.length ≤ 1000000 := by have e := pAll_le K zs; have := HC.out; rw [HO.out] at e; omega
      have sa1 : ∀ w' : World, (Op.stringOp .add (strOfNums os1) (strOfNums o2)).run Try.prog w' = .ok (.string (strOfNums os)) w' := str_add _ _ _ HE.out hz3
      clear hz3
      go_wp2_with fail
      refine (endp_any b K l1 cr cut S o2 wr M.out.obj (by omega) (by omega) HE2.out ho2).mono ?_
      rintro e w2 ⟨A2, m2, cc2, S2, rfl, q1, q2, q3, q4, q5⟩
      have M2 := Lib.hid (M.out.next q3 q4 q5)
      have t1 : (convert 26 9 (.slice A2 m2 cc2)).run Try.prog w2 = .ok (.string (strOfNums o2)) w2 := text_of q1.bytes.1 q1.bytes.2
      clear q1 q2 q3 q4 q5 M
      go_wp2_with fail
      refine (cut_any w2 M2.out.obj).mono ?_
      rintro e w3 ⟨rfl, rfl⟩
      go_wp2
      go_ret2
      exact ⟨rfl, M2.out.below⟩

def UnpackPost (os : List Int) (w : World) (e : Ending) (w' : World) : Prop := e = .returned (.string (strOfNums os)) ∧ Below w.heap.size w w'

set_option maxHeartbeats 4000000 in
theorem unpack_any (s : Int) (K : Nat) (A : Option Addr) (n c : Nat) (L : List El) (zs os : List Int) (w : World) (h1 : -9223372036854775808 ≤ s) (h2 : s ≤ 9223372036854775807) (hK : kOf s = K) (h : Lists w A n L) (hn : n ≤ 100) (hz : cat L = zs) (hzl : zs.length ≤ 300000) (ho : uAll K zs = os) :
    Calls Try.prog 25 #[.int .i64 s, .slice A n c] w (UnpackPost os w) := by
  have H := Lib.hid h; have HZ := Lib.hid hz; have HZL := Lib.hid hzl; have HO := Lib.hid ho; have HK := Lib.hid hK
  clear h hz hzl ho hK
  go_enter Try.func25, Try.ntmps25
  go_wp2_with fail
  refine (newu_any s w h1 h2).mono ?_
  rintro e w1 ⟨b, rfl, F1, s1, k1⟩
  rw [HK.out] at F1
  have M1 := Lib.hid (show Mine w w1 (Rc b K [] none) (fun d => d = b) from ⟨F1, fun d hd => by omega, k1⟩)
  have hp := F1.pos
  clear k1 F1 s1
  go_wp2
  go_loopw [6, 7] (fun vo i wr => ∃ (j : Nat) (os1 l1 : List Int) (S : Nat → Prop), j ≤ n ∧ i = .int .i64 j ∧ vo = .string (strOfNums os1) ∧ Hid (Mine w wr (Rc b K l1 none) S) ∧ Hid (os1 = uOut K [] (cat (L.take j)) ∧ l1 = uRest K [] (cat (L.take j)))) (fun _ i _ => n - (intOf i).toNat)
  case atStart => exact ⟨0, [], [], _, Nat.zero_le _, rfl, rfl, M1.out, by unfold Hid; exact ⟨rfl, rfl⟩⟩
  case round =>
    clear M1
    obtain ⟨j, os1, l1, S, hj, rfl, rfl, M, EE⟩ := hrel
    have hl1 : l1.length < K := by rw [EE.out.2]; exact uRest_lt K hp.1 _ _ (by simp; omega)
    by_cases hlt : j < n
    · obtain ⟨lb, o, rfl, hb, hc⟩ := H.out.cells (by omega)
      have c0 := (M.out.below.cell (p := ⟨lb, o + j, none⟩) hb).trans (hc j hlt)
      have hjl : j < L.length := by have := H.out.len; omega
      have HS := Lib.hid (cat_snoc L j hjl)
      have HX := Lib.hid (H.out.ok j hlt)
      have HL := Lib.hid (cat_le L j hjl)
      clear hc hb hjl
      generalize L.getD j default = x at *
      obtain ⟨xa, xn, xc, xz⟩ := x
      simp only at c0 HS HL
      have HE := Lib.hid (El_away M.out HX.out)
      have hxz : xz.length ≤ zs.length := by have := HL.out; rw [HZ.out] at this; omega
      have hxn : xn ≤ zs.length := by have := HX.out.bytes.1; simp only at *; omega
      have hxs : xn ≤ 300000 := Nat.le_trans hxn HZL.out
      obtain ⟨o2, ho2⟩ : ∃ o2, uOut K l1 xz = o2 := ⟨_, rfl⟩
      obtain ⟨l2, hl2⟩ : ∃ l2, uRest K l1 xz = l2 := ⟨_, rfl⟩
      obtain ⟨o3, ho3⟩ : ∃ o3, os1 ++ o2 = o3 := ⟨_, rfl⟩
      have E2 := Lib.hid (show o3 = uOut K [] (cat (L.take (j + 1))) ∧ l2 = uRest K [] (cat (L.take (j + 1))) by
        rw [HS.out, uOut_app, uRest_app, ← EE.out.1, ← EE.out.2, ← ho3, ← ho2, ← hl2]; exact ⟨rfl, rfl⟩)
      have h3 : o3.length ≤ 1000000 := by
        have e1 := E2.out.1
        have e2 := u_le K (cat (L.take (j + 1))) []
        have e3 := cat_take L (j + 1)
        have e4 := HZL.out
        rw [← e1] at e2
        rw [HZ.out] at e3
        simp at e2
        omega
      have sa1 : ∀ w' : World, (Op.stringOp .add (strOfNums os1) (strOfNums o2)).run Try.prog w' = .ok (.string (strOfNums o3)) w' := str_add _ _ _ ho3 h3
      clear ho3 h3
      go_wp2_with fail
      refine (putu_any b K l1 none S xa xn xc xz o2 l2 wr M.out.obj HE.out.1.bytes HE.out.2 hl1 hxs ho2 hl2).mono ?_
      rintro e w2 ⟨A2, m2, cc2, S2, rfl, q1, q2, q3, q4, q5⟩
      have M2 := Lib.hid (M.out.next q3 q4 q5)
      have t1 : (convert 26 9 (.slice A2 m2 cc2)).run Try.prog w2 = .ok (.string (strOfNums o2)) w2 := text_of q1.bytes.1 q1.bytes.2
      clear q1 q2 q3 q4 q5 M HE HX ho2 hl2
      go_wp2
      go_roundw
      case rel => exact ⟨j + 1, o3, l2, S2, by omega, by go_num, rfl, M2.out, E2.out⟩
      case measure => simp [intOf]; omega
    · have hjn : j = n := by omega
      have HT := Lib.hid (show L.take j = L by rw [hjn, ← H.out.len]; exact List.take_length)
      obtain ⟨o2, ho2⟩ : ∃ o2, uEnd l1 = o2 := ⟨_, rfl⟩
      have HE := Lib.hid (show os1 ++ o2 = os by have e := EE.out; rw [HT.out, HZ.out] at e; rw [e.1, ← ho2, e.2, ← HO.out]; rfl)
      have hz3 : os.length ≤ 1000000 := by have e := uAll_le K zs; have := HZL.out; rw [HO.out] at e; omega
      have sa1 : ∀ w' : World, (Op.stringOp .add (strOfNums os1) (strOfNums o2)).run Try.prog w' = .ok (.string (strOfNums os)) w' := str_add _ _ _ HE.out hz3
      clear hz3
      go_wp2_with fail
      refine (endu_any b K l1 none S o2 wr M.out.obj (by omega) ho2).mono ?_
      rintro e w2 ⟨A2, m2, cc2, S2, rfl, q1, q2, q3, q4, q5⟩
      have M2 := Lib.hid (M.out.next q3 q4 q5)
      have t1 : (convert 26 9 (.slice A2 m2 cc2)).run Try.prog w2 = .ok (.string (strOfNums o2)) w2 := text_of q1.bytes.1 q1.bytes.2
      clear q1 q2 q3 q4 q5 M
      go_wp2
      go_ret
      exact ⟨rfl, M2.out.below⟩

end Go.Proofs.Ytemehobohgcpdaa
