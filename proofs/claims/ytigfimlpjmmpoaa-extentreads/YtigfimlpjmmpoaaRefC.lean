/- Contract of the reference's ReadContent. -/
import Derived.Test.YtigfimlpjmmpoaaRefA
import Derived.Test.YtigfimlpjmmpoaaWalksI
import Derived.WalkKit
import Derived.WalkSpells
import Derived.WalkLawsBesides
import Derived.Lib.Hide
import Derived.BigQuiet
namespace Go.Proofs.Ytigfimlpjmmpoaa
open Go.RowKit

theorem own_bytes {B : Nat} {w : World} {v : Value} {zs : List Int} (h : w.ownsRow B 5 1 v zs.length (by8 zs)) : ∃ A c, v = .slice A zs.length c ∧ Nums .u8 w A zs.length c zs := by
  obtain ⟨hl, ⟨rfl, h0⟩ | ⟨g, cap, cur, rfl, hB, hb, hn, hm, hs, ht⟩⟩ := h
  · obtain rfl : zs = [] := List.eq_nil_of_length_eq_zero h0
    exact ⟨none, 0, rfl, nums_nil _ w⟩
  · refine ⟨some ⟨g, 0, none⟩, cap, rfl, rfl, hn, hm, (fun h => by cases h), fun hp => ⟨g, 0, rfl, (Array.getElem?_eq_some_iff.1 hb).1, fun j hj => ?_⟩⟩
    have h1 : (by8 zs)[j]? = some (.int .u8 (zs.getD j 0)) := by simp [by8, List.getD_eq_getElem?_getD, hj]
    rw [← ht, List.getElem?_take_of_lt (by omega)] at h1
    rw [cell_of_row _ _ _ _ 5 (0, 0) hb, Nat.zero_add]
    simpa using h1
theorem st_pushb {w : World} {ops : Array Oper} {rest : List Oper} {o : Oper} {a : Act} {Q : Exit → Act → World → Prop} (hgd : o.guard = none) (s x : Operand) (ho : o.op = .call { callee := .builtin .append, args := #[s, x], argTypes := #[27, 27] })
    (B : Nat) (v : Value) (zs : List Int) (hs : a.eval s = v) (hown : w.ownsRow B 5 1 v zs.length (by8 zs)) (z : Int) (b : Nat) (hx : a.eval x = .slice (some ⟨b, 0, none⟩) 1 1) (hr : w.cell? ⟨b, 0, none⟩ = some (.int .u8 z)) (hl : zs.length ≤ 1000000) (hB : B ≤ w.heap.size)
    (h : ∀ v' w', w'.ownsRow B 5 1 v' (zs ++ [z]).length (by8 (zs ++ [z])) → Below B w w' → wpList Try.prog ops Q rest (a.put o.dst v') w') : wpList Try.prog ops Q (o :: rest) a w := by
  obtain ⟨i0, hi, hz0, hz1, hz2⟩ := info_parts info5
  refine wpList_append_own (w := w) hgd s x 27 ho B 5 i0 _ 1 1 Try.underlying27 hi hz0 hz1 hz2 rfl (by decide) v zs.length (by8 zs) hs hown ⟨b, 0, none⟩ 1 1 (by8 [z]) hx rfl ?_ (by8_one _) (by unfold maxLen; omega) (by omega) hB ?_
  · intro j u hu
    have hj : j = 0 := by have := (List.getElem?_eq_some_iff.1 hu).1; simp [by8] at this; omega
    subst hj
    rw [Addr.add_mid, hr, ← hu]; rfl
  · intro v' w' h1 h2 _
    refine h v' w' ?_ (Own.size h2 hB hown.lt rfl)
    rw [List.length_append, show by8 (zs ++ [z]) = by8 zs ++ by8 [z] by simp [by8]]
    exact h1

set_option maxRecDepth 100000 in
set_option maxHeartbeats 4000000 in
theorem rread_any (s : Int) (A : Option Addr) (n c : Nat) (L : List Ex) (p k : Int) (w : World) (h : Exts w A n c L) (p0 : -9223372036854775808 ≤ p) (p1 : p ≤ 9223372036854775807) (zs : List Int) (hz : rd s L p k = zs) :
    Calls Try.prog 23 #[ct s A n c, .int .i64 p, .int .i64 k] w (BytesPost zs w) := by
  have HZ := Lib.hid hz
  have K0 := Lib.hid (show Below w.heap.size w (w.alloc (.cells #[.int .i64 s, .slice A n c] 24)) from (Below.refl _ _).alloc (Nat.le_refl _) _)
  have B0 := Lib.hid (box_new w s A n c)
  have H := Lib.hid h
  clear h hz
  show Calls Try.prog 23 #[.agg #[.int .i64 s, .slice A n c], .int .i64 p, .int .i64 k] w _
  go_enter Try.func23, Try.ntmps23
  go_wp2_with fail
  obtain ⟨y, hy⟩ : ∃ y, may s L = y := ⟨_, rfl⟩
  have HM := Lib.hid hy
  clear hy
  refine (rmay_any s A n c L _ (H.out.on K0.out) y HM.out).mono ?_
  rintro e w1 ⟨rfl, k1⟩
  have K1 := Lib.hid (K0.out.trans (k1.mono K0.out.size)); have B1 := Lib.hid (B0.out.on k1)
  clear k1 K0 B0
  have c0 := B1.out.c0; have c1 := B1.out.c1
  have HN := Lib.hid (show rlen s L p k = 0 → zs = [] from fun h => by rw [← HZ.out, rd, h]; rfl)
  cases y with
  | false =>
    have HF := Lib.hid (HN.out (by rw [rlen, if_neg (by rw [HM.out]; simp)]))
    go_wp2
    go_ret
    exact ⟨none, 0, by rw [HF.out]; rfl, by rw [HF.out]; exact nums_nil _ _, K1.out⟩
  | true =>
    have HG := Lib.hid ((may_iff s L).1 HM.out)
    by_cases q0 : 0 ≤ p
    · by_cases q1 : 0 ≤ k
      · by_cases q2 : k ≤ 4096
        · have hs0 := HG.out.s0
          have hs1 := HG.out.s1
          obtain ⟨m, hm⟩ : ∃ m, (min k (s - p)).toNat = m := ⟨_, rfl⟩
          have HL := Lib.hid (show zs = red L p m by rw [← HZ.out, rd, rlen, if_pos ⟨HM.out, q0, q1, q2⟩, hm])
          go_wp2
          go_loopw [7, 8] (fun v i wr => ∃ j : Nat, j ≤ m ∧ i = .int .i64 j ∧ Hid (wr.ownsRow (w.heap.size + 1) 5 1 v (red L p j).length (by8 (red L p j))) ∧ Hid (Below w.heap.size w wr) ∧ Hid (Box wr w.heap.size s A n c)) (fun _ i _ => m - (intOf i).toNat)
          case atStart => exact ⟨0, Nat.zero_le _, rfl, World.ownsRow_nil _ _ _ _, K1.out, B1.out⟩
          case round =>
            clear K1 B1 c0 c1
            obtain ⟨j, hj, rfl, HO, K2, B2⟩ := hrel
            have c0 := B2.out.c0; have c1 := B2.out.c1
            by_cases hlt : j < m
            · have hjk : (j : Int) < k := by omega
              have hjp : p < s - (j : Int) := by omega
              obtain ⟨x, hx⟩ : ∃ x, at_ L (p + (j : Int)) = x := ⟨_, rfl⟩
              have HX := Lib.hid hx
              have HR := Lib.hid (show red L p (j + 1) = red L p j ++ [x] by rw [red_succ, hx])
              have HLe := Lib.hid (red_len L p j)
              have hpj0 : 0 ≤ p + (j : Int) := by omega
              have hpj1 : p + (j : Int) ≤ 9223372036854775807 := by omega
              clear hx
              go_wp2_with fail
              refine (rat_any s A n c L (p + (j : Int)) _ (H.out.on K2.out) HG.out.up hpj0 hpj1 x HX.out).mono ?_
              rintro e w3 ⟨rfl, k3⟩
              have K3 := Lib.hid (K2.out.trans (k3.mono K2.out.size)); have B3 := Lib.hid (B2.out.on k3)
              have O3 := Lib.hid (own_below HO.out k3)
              have hbl := B3.out.lt
              have KA := Lib.hid (show Below w3.heap.size w3 (w3.alloc (.cells #[.int .u8 x] 5)) from (Below.refl _ _).alloc (Nat.le_refl _) _)
              have cx := (Row.new w3 5 #[.int .u8 x]).at 0
              simp only [List.getElem?_toArray, List.getElem?_cons_zero] at cx
              have HCX := Lib.hid cx
              have hsz := K3.out.size
              have HSZ := Lib.hid (show w.heap.size + 1 ≤ (w3.alloc (.cells #[.int .u8 x] 5)).heap.size from Nat.le_trans hbl KA.out.size)
              clear k3 cx c0 c1
              go_wp2_with (at_builtin; refine st_pushb rfl _ _ rfl (w.heap.size + 1) u7 (red L p j) rfl (own_below O3.out KA.out) x w3.heap.size rfl HCX.out (by rw [HLe.out]; omega) HSZ.out ?_; intro v' w4 q4 k4; have Q4 := Lib.hid q4; have K4 := Lib.hid ((K3.out.trans (KA.out.mono K3.out.size)).trans (k4.mono (Nat.le_succ _))); have B4 := Lib.hid (show Box w4 w.heap.size s A n c from (k4.block w.heap.size (Nat.lt_succ_self _)).trans (B3.out.on KA.out)); clear q4 k4)
              go_roundw
              case rel => exact ⟨j + 1, by omega, by go_num, by unfold Hid; rw [HR.out]; exact Q4.out, K4.out, B4.out⟩
              case measure => simp [intOf]; omega
            · obtain rfl : j = m := by omega
              have hO := HO.out
              rw [← HL.out] at hO
              have HOo := Lib.hid hO
              clear hO HO
              by_cases g1 : (j : Int) < k
              · have g2 : ¬ p < s - (j : Int) := by omega
                go_wp2
                go_ret
                obtain ⟨A', c', rfl, hn⟩ := own_bytes HOo.out
                exact ⟨A', c', rfl, hn, K2.out⟩
              · go_wp2
                go_ret
                obtain ⟨A', c', rfl, hn⟩ := own_bytes HOo.out
                exact ⟨A', c', rfl, hn, K2.out⟩
        · have HF := Lib.hid (HN.out (by rw [rlen, if_neg (fun h => q2 h.2.2.2)]))
          go_wp2
          go_ret
          exact ⟨none, 0, by rw [HF.out]; rfl, by rw [HF.out]; exact nums_nil _ _, K1.out⟩
      · have HF := Lib.hid (HN.out (by rw [rlen, if_neg (fun h => q1 h.2.2.1)]))
        go_wp2
        go_ret
        exact ⟨none, 0, by rw [HF.out]; rfl, by rw [HF.out]; exact nums_nil _ _, K1.out⟩
    · have HF := Lib.hid (HN.out (by rw [rlen, if_neg (fun h => q0 h.2.1)]))
      go_wp2
      go_ret
      exact ⟨none, 0, by rw [HF.out]; rfl, by rw [HF.out]; exact nums_nil _ _, K1.out⟩

theorem at_ok {L : List Ex} (h : ∀ e ∈ L, e.ok) (p : Int) : 0 ≤ at_ L p ∧ at_ L p ≤ 255 := by
  unfold at_
  cases hl : look L (p / 8) with
  | none => exact ⟨Int.le_refl 0, by show (0 : Int) ≤ 255; decide⟩
  | some bs => exact Ex.at_ok (h _ (look_some hl)) _
end Go.Proofs.Ytigfimlpjmmpoaa
