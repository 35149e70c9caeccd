/- Contracts of few and whole. -/
import Derived.Test.YtjmbnjlicjicbaaWalksR
import Derived.Test.YtjmbnjlicjicbaaReadR
import Derived.WalkKit
import Derived.WalkSpells
import Derived.WalkLawsBesides
import Derived.Lib.Hide
import Derived.Laws.Concat
namespace Go.Proofs.Ytjmbnjlicjicbaa
open Go.RowKit

def FewPost (L : List El) (w : World) (e : Ending) (w' : World) : Prop :=
  ∃ x : Bool, e = .returned (.bool x) ∧ (x = true → L.length ≤ 60 ∧ (cat L).length ≤ 3000) ∧ w = w'

set_option maxHeartbeats 1000000 in
theorem few_any (A : Option Addr) (n c : Nat) (L : List El) (w : World) (h : Lists w A n L) (hm : n ≤ 9223372036854775807) : Calls Try.prog 10 #[.slice A n c] w (FewPost L w) := by
  have H := Lib.hid h
  clear h
  go_enter Try.func10, Try.ntmps10
  go_wp2
  go_loopw [3, 4] (fun s i wr => ∃ (j t : Nat), j ≤ n ∧ j ≤ 100 ∧ i = .int .i64 j ∧ s = .int .i64 t ∧ Hid (t = (cat (L.take j)).length) ∧ t ≤ j * 3000 ∧ w = wr) (fun _ i _ => n - (intOf i).toNat)
  case atStart => exact ⟨0, 0, Nat.zero_le _, Nat.zero_le _, rfl, rfl, rfl, Nat.zero_le _, rfl⟩
  case round =>
    obtain ⟨j, t, hj, hj1, rfl, rfl, HT, ht, rfl⟩ := hrel
    by_cases hlt : j < n
    · by_cases hlt2 : j < 100
      · obtain ⟨b, o, rfl, hb, hc⟩ := H.out.cells (by omega)
        have c1 := hc j hlt
        have HS := Lib.hid (cat_snoc L j (by have := H.out.len; omega))
        have HX := Lib.hid (H.out.ok j hlt)
        clear hc hb
        generalize L.getD j default = x at *
        obtain ⟨xa, xn, xc, xz⟩ := x
        simp only at c1 HS
        have m1 : xn ≤ 9223372036854775807 := by have := HX.out.bytes.2.1; have := HX.out.bytes.2.2.1; unfold maxLen at this; simp only at *; omega
        have HN := Lib.hid (show xz.length = xn from HX.out.bytes.1)
        by_cases hx : 3000 < xn
        · go_wp2
          go_ret
          exact ⟨false, rfl, (fun h => by cases h), by simp⟩
        · go_wp2
          go_roundw
          case rel => exact ⟨j + 1, t + xn, by omega, by omega, by go_num, by go_num, by unfold Hid; rw [HS.out, List.length_append, ← HT.out, HN.out], by omega, by simp⟩
          case measure => simp [intOf]; omega
      · have hj3 : j = 100 := by omega
        have hd : decide ((n : Int) ≤ 60) = false := by simp; omega
        go_wp2
        go_ret
        exact ⟨false, rfl, (fun h => by cases h), by simp⟩
    · have hjn : j = n := by omega
      have HL := Lib.hid (show t = (cat L).length by rw [HT.out, hjn, ← H.out.len, List.take_length])
      have HN := Lib.hid H.out.len
      clear H HT
      by_cases h1 : n ≤ 60
      · by_cases h2 : t ≤ 3000
        · have hd : decide ((t : Int) ≤ 3000) = true := by simp; omega
          go_wp2
          go_ret
          exact ⟨true, rfl, fun _ => ⟨by rw [HN.out]; exact h1, by rw [← HL.out]; exact h2⟩, by simp⟩
        · have hd : decide ((t : Int) ≤ 3000) = false := by simp; omega
          go_wp2
          go_ret
          exact ⟨false, rfl, (fun h => by cases h), by simp⟩
      · have hd : decide ((n : Int) ≤ 60) = false := by simp; omega
        go_wp2
        go_ret
        exact ⟨false, rfl, (fun h => by cases h), by simp⟩

theorem str_append (a b : List Int) : strOfNums a ++ strOfNums b = strOfNums (a ++ b) := by
  apply ByteArray.ext
  simp [strOfNums, ByteArray.data_append]
theorem str_size (a : List Int) : (strOfNums a).size = a.length := by simp [strOfNums, ByteArray.size]
theorem str_add (a b c : List Int) (h : a ++ b = c) (hl : c.length ≤ 1000000) (w : World) : (Op.stringOp .add (strOfNums a) (strOfNums b)).run Try.prog w = .ok (.string (strOfNums c)) w := by
  rw [run_string_add_sum w _ _ (by rw [str_size, str_size]; have : c.length = a.length + b.length := by rw [← h]; simp
                                   omega), str_append, h]

def WholePost (zs : List Int) (w : World) (e : Ending) (w' : World) : Prop := e = .returned (.string (strOfNums zs)) ∧ Below w.heap.size w w'

/-- A list that was there lies in none of the Swab's cells. -/
theorem El_away {W w : World} {b : Nat} {on : Bool} {ks : List Int} (h : Mine W w b on ks) {x : El} (hx : ElOk W x) : ElOk w x ∧ ∀ g o, x.a = some ⟨g, o, none⟩ → 0 < x.n → g ≠ b := by
  refine ⟨hx.on h.below, fun g o he hn hs => ?_⟩
  obtain ⟨b', o', he', hl, _⟩ := hx.bytes.2.2.2 hn
  rw [he] at he'
  injection he' with he'
  injection he' with e1
  have := h.new
  omega

set_option maxHeartbeats 1000000 in
theorem whole_any (on : Bool) (A : Option Addr) (n c : Nat) (L : List El) (zs : List Int) (w : World) (h : Lists w A n L) (hn : n ≤ 60) (hc : (cat L).length ≤ 3000) (hz : sn on (cat L) = zs) : Calls Try.prog 13 #[.bool on, .slice A n c] w (WholePost zs w) := by
  have H := Lib.hid h; have HC := Lib.hid hc; have HZ := Lib.hid hz
  clear h hc hz
  go_enter Try.func13, Try.ntmps13
  go_wp2_with fail
  refine (new_any on _).mono ?_
  rintro e w1 ⟨b, rfl, F1, s1, k1⟩
  have M1 := Lib.hid (show Mine w w1 b on [] from ⟨F1, s1, k1⟩)
  clear k1 F1 s1
  go_wp2
  go_loopw [6, 7] (fun vo i wr => ∃ (j : Nat) (os ks : List Int), j ≤ n ∧ i = .int .i64 j ∧ vo = .string (strOfNums os) ∧ Hid (Mine w wr b on ks) ∧ Hid (os = tn on (cat (L.take j)) ∧ ks = od on (cat (L.take j)))) (fun _ i _ => n - (intOf i).toNat)
  case atStart => exact ⟨0, [], [], Nat.zero_le _, rfl, rfl, M1.out, by cases on <;> exact ⟨rfl, rfl⟩⟩
  case round =>
    clear M1
    obtain ⟨j, os, ks, hj, rfl, rfl, M, EE⟩ := hrel
    by_cases hlt : j < n
    · obtain ⟨lb, o, rfl, hb, hc⟩ := H.out.cells (by omega)
      have c0 := (M.out.below.cell (p := ⟨lb, o + j, none⟩) hb).trans (hc j hlt)
      have hjl : j < L.length := by have := H.out.len; omega
      have HS := Lib.hid (cat_snoc L j hjl)
      have HX := Lib.hid (H.out.ok j hlt)
      have HL := Lib.hid (cat_le L j hjl)
      clear hc hb hjl
      generalize L.getD j default = x at *
      obtain ⟨xa, xn, xc, xz⟩ := x
      simp only at c0 HS HL
      have HE := Lib.hid (El_away M.out HX.out)
      have hxn : xn ≤ 3000 := by have := HX.out.bytes.1; have := HL.out; have := HC.out; simp only at *; omega
      obtain ⟨o2, ho2⟩ : ∃ o2, tn on (ks ++ xz) = o2 := ⟨_, rfl⟩
      obtain ⟨k2, hk2⟩ : ∃ k2, od on (ks ++ xz) = k2 := ⟨_, rfl⟩
      obtain ⟨o3, ho3⟩ : ∃ o3, os ++ o2 = o3 := ⟨_, rfl⟩
      have E2 := Lib.hid (show o3 = tn on (cat (L.take (j + 1))) ∧ k2 = od on (cat (L.take (j + 1))) by
        rw [HS.out, tn_app, od_app, ← EE.out.1, ← EE.out.2, ← ho3, ← ho2, ← hk2]; exact ⟨rfl, rfl⟩)
      have h3 : o3.length ≤ 1000000 := by
        have e1 := E2.out.1
        have e2 := tn_le on (cat (L.take (j + 1)))
        have e3 := cat_take L (j + 1)
        have e4 := HC.out
        rw [← e1] at e2
        omega
      have sa1 : ∀ w' : World, (Op.stringOp .add (strOfNums os) (strOfNums o2)).run Try.prog w' = .ok (.string (strOfNums o3)) w' := str_add _ _ _ ho3 h3
      clear ho3 h3
      go_wp2_with fail
      refine (put_any b on ks xa xn xc xz o2 k2 wr M.out.sw HE.out.1.bytes HX.out.nil HE.out.2 (by omega) ho2 hk2).mono ?_
      rintro e w2 ⟨A2, m2, c2, rfl, q1, q2, q3, q4⟩
      have M2 := Lib.hid (M.out.next q3 q4)
      have t1 : (convert 24 9 (.slice A2 m2 c2)).run Try.prog w2 = .ok (.string (strOfNums o2)) w2 := text_of q1.bytes.1 q1.bytes.2
      clear q1 q2 q3 q4 M HE HX ho2 hk2
      go_wp2
      go_roundw
      case rel => exact ⟨j + 1, o3, k2, by omega, by go_num, rfl, M2.out, E2.out⟩
      case measure => simp [intOf]; omega
    · have hjn : j = n := by omega
      have HT := Lib.hid (show L.take j = L by rw [hjn, ← H.out.len]; exact List.take_length)
      have HE := Lib.hid (show os ++ ks = zs by have e := EE.out; rw [HT.out] at e; rw [e.1, e.2, tn_od, HZ.out])
      have hz3 : zs.length ≤ 1000000 := by have e := HC.out; rw [← HZ.out, sn_len]; omega
      have sa1 : ∀ w' : World, (Op.stringOp .add (strOfNums os) (strOfNums ks)).run Try.prog w' = .ok (.string (strOfNums zs)) w' := str_add _ _ _ HE.out hz3
      clear hz3
      go_wp2_with fail
      refine (end_any b on ks wr M.out.sw).mono ?_
      rintro e w2 ⟨A2, m2, c2, rfl, q1, q2, q3, q4⟩
      have M2 := Lib.hid (M.out.next q3 q4)
      have t1 : (convert 24 9 (.slice A2 m2 c2)).run Try.prog w2 = .ok (.string (strOfNums ks)) w2 := text_of q1.bytes.1 q1.bytes.2
      clear q1 q2 q3 q4 M
      go_wp2
      go_ret
      exact ⟨rfl, M2.out.below⟩

end Go.Proofs.Ytjmbnjlicjicbaa
