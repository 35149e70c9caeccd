/- The law SwabPieces, walked. -/
import Derived.Test.YtjmbnjlicjicbaaWalksE
import Derived.WalkKit
import Derived.WalkSpells
import Derived.WalkLawsBesides
import Derived.Lib.Hide
namespace Go.Proofs.Ytjmbnjlicjicbaa
open Go.RowKit

theorem buf_step {w wr w1 : World} {O O' : Option Addr} (B : Below w.heap.size w wr) (N : ∀ g o s, O = some ⟨g, o, s⟩ → w.heap.size ≤ g)
    (q2 : Only (fun d => ∃ o s, O = some ⟨d, o, s⟩) wr w1) (q3 : O' = O ∨ O' = some ⟨wr.heap.size, 0, none⟩) : (∀ g o s, O' = some ⟨g, o, s⟩ → w.heap.size ≤ g) ∧ Below w.heap.size w w1 := by
  refine ⟨fun g o s he => ?_, B.trans (q2.below B.size (fun d ⟨o, s, he⟩ => N d o s he))⟩
  rcases q3 with rfl | rfl
  · exact N g o s he
  · injection he with he; injection he with he
    have := B.size
    omega

set_option maxHeartbeats 4000000 in
theorem pieces_walk (on : Bool) (A : Option Addr) (n c : Nat) (L : List El) (w : World) (hL : IsRows w A n L) :
    Calls Try.prog 5 #[.bool on, .slice A n c] w fun e w' => e = .returned (.bool true) ∧ Below w.heap.size w w' := by
  obtain ⟨hm, hL⟩ := hL
  have HL := Lib.hid hL
  clear hL
  have hm : n ≤ 9223372036854775807 := by unfold maxLen at hm; omega
  go_enter Try.func5, Try.ntmps5
  go_wp2_with fail
  refine (few_any A n c L w HL.out hm).mono ?_
  rintro e w1 ⟨x, rfl, hx, rfl⟩
  cases x with
  | false =>
    go_wp2_with fail
    refine (law_runs _).mono ?_
    rintro e w2 ⟨rfl, k2⟩
    go_wp2
    go_ret
    exact ⟨rfl, k2⟩
  | true =>
    obtain ⟨hn60, htot⟩ := hx rfl
    rw [HL.out.len] at hn60
    have HT := Lib.hid htot
    clear hx htot
    go_wp2
    go_loopw [5, 6] (fun va i wr => ∃ (j : Nat) (O : Option Addr) (m oc : Nat), j ≤ n ∧ i = .int .i64 j ∧ va = .slice O m oc ∧ Hid (Buf wr O m oc (cat (L.take j))) ∧ Hid (∀ g o s, O = some ⟨g, o, s⟩ → w.heap.size ≤ g) ∧ Hid (Below w.heap.size w wr)) (fun _ i _ => n - (intOf i).toNat)
    case atStart => exact ⟨0, none, 0, 0, Nat.zero_le _, rfl, rfl, Buf.nil _, (fun g o s he => by cases he), Below.refl _ _⟩
    case round =>
      obtain ⟨j, O, m, oc, hj, rfl, rfl, BO, NO, BW⟩ := hrel
      by_cases hlt : j < n
      · obtain ⟨lb, o, rfl, hb, hc⟩ := HL.out.cells (by omega)
        have c0 := (BW.out.cell (p := ⟨lb, o + j, none⟩) hb).trans (hc j hlt)
        have hjl : j < L.length := by have := HL.out.len; omega
        have HS := Lib.hid (cat_snoc L j hjl)
        have HX := Lib.hid ((HL.out.ok j hlt).on BW.out)
        have HC := Lib.hid (cat_le L j hjl)
        clear hc hb hjl
        generalize L.getD j default = x at *
        obtain ⟨xa, xn, xc, xz⟩ := x
        simp only at c0 HS HC
        have hml : m + xn ≤ 1000000 := by
          have e1 := HX.out.bytes.1; have e2 := HC.out; have e3 := HT.out; have e4 := BO.out.1
          simp only at e1
          omega
        go_wp2_with (at_builtin; refine append_buf rfl _ _ rfl BO.out rfl HX.out.bytes HX.out.nil rfl hml ?_; intro O' oc' w3 q1 q2 q3; obtain ⟨r1, r2⟩ := buf_step BW.out NO.out q2 q3; have Q1 := Lib.hid q1; have R1 := Lib.hid r1; have R2 := Lib.hid r2; clear q1 q2 q3 r1 r2)
        go_roundw
        case rel => exact ⟨j + 1, O', m + xn, oc', by omega, by go_num, rfl, by unfold Hid; rw [HS.out]; exact Q1.out, R1.out, R2.out⟩
        case measure => simp [intOf]; omega
      · have hjn : j = n := by omega
        have HB := Lib.hid (show Buf wr O m oc (cat L) by have := BO.out; rwa [hjn, ← HL.out.len, List.take_length] at this)
        clear BO NO
        have hml : m ≤ 3000 := by have e1 := HB.out.1; have e2 := HT.out; omega
        obtain ⟨zs, hzs⟩ : ∃ zs, sn on (cat L) = zs := ⟨_, rfl⟩
        have hsz : ((strOfNums zs).size : Int) = (m : Int) := by rw [str_size, ← hzs, sn_len, HB.out.1]
        have HZ := Lib.hid hzs
        clear hzs
        have L1 := Lib.hid (HL.out.on BW.out)
        go_wp2_with fail
        refine (whole_any on A n c L zs wr L1.out hn60 HT.out HZ.out).mono ?_
        rintro e w4 ⟨rfl, k4⟩
        have HB4 := Lib.hid (HB.out.only (S := fun _ => False) (Only.of_below k4) (fun _ _ _ _ h => h))
        have B4 := Lib.hid (BW.out.trans (k4.mono BW.out.size))
        clear k4 HB BW L1
        have L5 := Lib.hid (lists_one w4 ⟨O, m, oc, cat L⟩ 24 _ rfl ⟨HB4.out.bytes.1, HB4.out.bytes.2⟩)
        have K5 := Lib.hid (show Below w4.heap.size w4 (w4.alloc (.cells #[.slice O m oc] 24)) from (Below.refl _ _).alloc (Nat.le_refl _) _)
        go_wp2_with fail
        refine (whole_any on _ 1 1 [⟨O, m, oc, cat L⟩] zs _ L5.out (by omega) (by simpa [cat] using HT.out) (by simpa [cat] using HZ.out)).mono ?_
        rintro e w6 ⟨rfl, k6⟩
        have k7 := K5.out.trans (k6.mono K5.out.size)
        have B6 := Lib.hid (B4.out.trans (k7.mono B4.out.size))
        have HB6 := HB4.out.only (S := fun _ => False) (Only.of_below k7) (fun _ _ _ _ h => h)
        have t1 : (convert 24 9 (.slice O m oc)).run Try.prog w6 = .ok (.string (strOfNums (cat L))) w6 := text_of HB6.bytes.1 HB6.bytes.2
        clear k6 k7 HB6 HB4 B4 L5 K5
        cases on with
        | true =>
          clear t1
          go_wp2_with fail
          refine (law_runs _).mono ?_
          rintro e w8 ⟨rfl, k8⟩
          go_wp2
          go_ret
          exact ⟨rfl, B6.out.trans (k8.mono B6.out.size)⟩
        | false =>
          have hz : cat L = zs := HZ.out
          rw [hz] at t1
          go_wp2_with fail
          refine (law_runs _).mono ?_
          rintro e w8 ⟨rfl, k8⟩
          go_wp2
          go_ret
          exact ⟨rfl, B6.out.trans (k8.mono B6.out.size)⟩

end Go.Proofs.Ytjmbnjlicjicbaa
