/- The law FifoOrder, walked. -/
import Derived.Test.YtbmcaldeiddgeaaWalksG
import Derived.WalkKit
import Derived.WalkSpells
import Derived.WalkLawsBesides
import Derived.Lib.Hide
import Derived.BigQuiet
import Derived.Deep.RegionHeld3
import Derived.Deep.DeepCutAuto
namespace Go.Proofs.Ytbmcaldeiddgeaa
open Go.RowKit

def sizeOfText : Value → Nat | .string s => s.size | _ => 0

theorem held12 {W w' : World} {lb p q : Nat} {u v : Value} (hb : lb < W.heap.size) (h1 : W.cell? ⟨lb, p, none⟩ = some u) (h2 : W.cell? ⟨lb, q, none⟩ = some v) (k : Below W.heap.size W w') : w'.cell? ⟨lb, p, none⟩ = some u ∧ w'.cell? ⟨lb, q, none⟩ = some v ∧ Below W.heap.size W w' :=
  ⟨(k.cell (p := ⟨lb, p, none⟩) hb).trans h1, (k.cell (p := ⟨lb, q, none⟩) hb).trans h2, k⟩

set_option maxHeartbeats 8000000 in
set_option maxRecDepth 100000 in
theorem order_walk (s : Int) (A : Option Addr) (n c : Nat) (L : List St) (w : World) (hs : (Lit.int .i64 s).wf = true) (hL : IsSteps w A n L) :
    Calls Try.prog 5 #[.int .i64 s, .slice A n c] w fun e w' => e = .returned (.bool true) ∧ Below w.heap.size w w' := by
  obtain ⟨hs0, hs1⟩ := bounds_i64 hs
  clear hs
  obtain ⟨hm, hL⟩ := hL
  have HL := Lib.hid hL
  clear hL
  have hm : n ≤ 9223372036854775807 := by unfold maxLen at hm; omega
  go_enter Try.func5, Try.ntmps5
  go_wp2_with fail
  refine (few_any A n c L w HL.out hm).mono ?_
  rintro e w1 ⟨x, rfl, hx, k1⟩
  cases x with
  | false =>
    go_wp2_with fail
    refine (law_runs _).mono ?_
    rintro e w2 ⟨rfl, k2⟩
    go_wp2
    go_ret
    exact ⟨rfl, k1.trans (k2.mono k1.size)⟩
  | true =>
    obtain ⟨hn60, htot⟩ := hx rfl
    rw [HL.out.len] at hn60
    clear hx
    go_wp2_with fail
    refine (new_any s w1 hs0 hs1).mono ?_
    rintro e w2 ⟨b, S0, rfl, F2, s2, k2⟩
    have hkb := blocks_pos s
    obtain ⟨k, hk⟩ : ∃ k, sizeOfBlocks s = k := ⟨_, rfl⟩
    rw [hk] at F2 hkb
    have HK := Lib.hid hk
    clear hk
    obtain ⟨hk1, hk2⟩ := hkb
    have M0 := Lib.hid (show Mine w w2 b S0 k [] from ⟨F2, fun d hd => Nat.le_trans k1.size (s2 d hd), k1.trans (k2.mono k1.size)⟩)
    clear F2 s2 k2 k1
    have HT := Lib.hid htot
    clear htot
    go_upto_region 6 with fail
    go_cut [6] (fun v wx => v = .int .i64 k ∧ w2 = wx)
    case first =>
      by_cases ha : s < 1
      · have hb : ¬ 1 < s := by omega
        have hk := Lib.hid (show (1 : Int) = (k : Int) by rw [← HK.out]; simp [sizeOfBlocks, ha])
        go_wp2
        go_meet
        exact ⟨by rw [← hk.out], rfl⟩
      · by_cases hc : 4096 < s
        · have hk := Lib.hid (show (4096 : Int) = (k : Int) by rw [← HK.out]; simp [sizeOfBlocks, ha, hc])
          have hd : 1 < s := by omega
          have he : ¬ s < 4096 := by omega
          go_wp2
          go_meet
          exact ⟨by rw [← hk.out], rfl⟩
        · have hk := Lib.hid (show s = (k : Int) by rw [← HK.out, sizeOfBlocks, if_neg ha, if_neg hc]; omega)
          have hd : 1 ≤ s := by omega
          have he : s ≤ 4096 := by omega
          go_wp2
          go_meet
          exact ⟨by rw [← hk.out], rfl⟩
    case rest =>
      obtain ⟨rfl, rfl⟩ := hcut
      go_wp2
      go_loopw [7, 8, 9] (fun vi vo i wr => ∃ (j : Nat) (S : Nat → Prop) (zi zo zh : List Int), j ≤ n ∧ i = .int .i64 j ∧ vi = .string (strOfNums zi) ∧ vo = .string (strOfNums zo) ∧ Hid (Mine w wr b S k zh) ∧ Hid (zo ++ zh = zi) ∧ Hid (zh.length < k) ∧ Hid (zi.length = total (L.take j))) (fun _ _ i _ => n - (intOf i).toNat)
      case atStart => exact ⟨0, S0, [], [], [], Nat.zero_le _, rfl, rfl, rfl, M0.out, rfl, hk1, rfl⟩
      case round =>
        clear M0
        obtain ⟨j, S, zi, zo, zh, hj, rfl, rfl, rfl, MM, HE, HH, HI⟩ := hrel
        by_cases hlt : j < n
        · obtain ⟨lb, o, rfl, hb, hc⟩ := HL.out.cells (by omega)
          have HS := Lib.hid (total_snoc L j (by have := HL.out.len; omega))
          have HM := Lib.hid (total_le L (j + 1))
          have H1 := Lib.hid (HL.out.one j hlt)
          have H2 := Lib.hid (HL.out.two j hlt)
          have e1 := Lib.hid (hc j hlt).2.1; have e2 := Lib.hid (hc j hlt).2.2
          clear hc
          have hlb := hb
          generalize L.getD j default = x at *
          obtain ⟨xk, ⟨xa, xn, xc, xz⟩, ⟨ya, yn, yc, yz⟩⟩ := x
          simp only at HS H1 H2 e1 e2
          have hxl := H1.out.bytes.1; have hyl := H2.out.bytes.1
          simp only at hxl hyl
          have hji : (j : Int) < (n : Int) := by omega
          have hj0 : (0 : Int) ≤ (j : Int) := by omega
          have HZ := Lib.hid (show zi.length + xn + yn ≤ 12000 by have := HI.out; have := HM.out; have := HS.out; have := HT.out; omega)
          have HZ1 := Lib.hid (show zh.length ≤ zi.length by rw [← HE.out]; simp)
          go_wp2_with fail
          refine (put_any b S k zh none 0 0 [] wr MM.out.fi ⟨rfl, fun h => absurd h (by omega), fun k h => absurd h (by omega), fun k h => absurd h (by omega), fun k h => absurd h (by omega)⟩ (by omega) (by have := HZ1.out; have := HZ.out; simp [cat]; omega)).mono ?_
          rintro e w4 ⟨v4, S4, rfl, F4, O4, s4⟩
          rw [show zh ++ cat [] = zh by simp [cat]] at F4
          have M4 := Lib.hid (MM.out.next F4 O4 s4)
          clear F4 O4 s4 MM
          have BA := Lib.hid (M4.out.on (((Below.refl _ _).drew).alloc (Nat.le_refl _) (.cells #[.slice xa xn xc, .slice none 0 0, .slice ya yn yc] 25)))
          have BD := Lib.hid (M4.out.on (Below.refl _ _).drew)
          have K0 := held12 hlb e1.out e2.out BD.out.below
          have K1 := held12 hlb e1.out e2.out BA.out.below
          have HLL := Lib.hid (show ∀ x ∈ [(⟨xa, xn, xc, xz⟩ : El), ⟨none, 0, 0, []⟩, ⟨ya, yn, yc, yz⟩], ElOk w4.drew x ∧ Away S4 x by
            intro x hx
            simp at hx
            rcases hx with rfl | rfl | rfl
            · exact El_away BD.out H1.out
            · exact ⟨⟨(Buf.nil _).bytes.1, fun _ => ⟨rfl, rfl⟩⟩, fun g o he => by cases he⟩
            · exact El_away BD.out H2.out)
          have hlen : zh.length + (cat [(⟨xa, xn, xc, xz⟩ : El), ⟨none, 0, 0, []⟩, ⟨ya, yn, yc, yz⟩]).length ≤ 1000000 := by
            have := HZ.out; have := HZ1.out
            simp [cat]; omega
          have HC := Lib.hid (show zh ++ cat [(⟨xa, xn, xc, xz⟩ : El), ⟨none, 0, 0, []⟩, ⟨ya, yn, yc, yz⟩] = zh ++ xz ++ yz by simp [cat])
          go_wp2_with fail
          go_region_held3 (fun w' => w'.cell? ⟨lb, o + j * 3 + 1, none⟩ = some (.slice xa xn xc) ∧ w'.cell? ⟨lb, o + j * 3 + 2, none⟩ = some (.slice ya yn yc) ∧ Below w.heap.size w w')
            (first | assumption | exact K0 | exact K1 | exact K9)
            (first | (go_at_call 8; refine (put_any b S4 k zh _ 3 3 [⟨xa, xn, xc, xz⟩, ⟨none, 0, 0, []⟩, ⟨ya, yn, yc, yz⟩] _ BA.out.fi (lists_new w4.drew S4 _ _ _ _ _ (by simp) rfl rfl HLL.out BD.out.lt) (by omega) hlen).mono ?_; rintro e w9 ⟨v9, S9, rfl, F9, O9, s9⟩; have K9 := held12 hlb e1.out e2.out (BA.out.next F9 O9 s9).below))
          have M9 := Lib.hid (BA.out.next F9 O9 s9)
          rw [HC.out] at M9
          have d1 := K9.1
          have d2 := K9.2.1
          clear K0 K1 K9 F9 O9 s9 BA BD HLL hlen M4
          obtain ⟨zm, hzm⟩ : ∃ zm, zi ++ xz = zm := ⟨_, rfl⟩
          obtain ⟨z2, hz2⟩ : ∃ z2, zm ++ yz = z2 := ⟨_, rfl⟩
          obtain ⟨zg, hzg⟩ : ∃ zg, zh ++ xz ++ yz = zg := ⟨_, rfl⟩
          rw [hzg] at M9
          have HE2 := Lib.hid (show zo ++ zg = z2 by rw [← hzg, ← hz2, ← hzm, ← HE.out]; simp)
          have hl2 : z2.length = zi.length + xn + yn := by rw [← hz2, ← hzm]; simp; omega
          have hlm : zm.length = zi.length + xn := by rw [← hzm]; simp; omega
          have HI2 := Lib.hid (show z2.length = total (L.take (j + 1)) by rw [HS.out, ← HI.out]; exact hl2)
          have HB2 := Lib.hid (show z2.length ≤ 12000 by have := HZ.out; omega)
          have t1 : ∀ m, (convert 25 9 (.slice xa xn xc)).run Try.prog (w9.drewN m) = .ok (.string (strOfNums xz)) (w9.drewN m) := fun m => text_of ((H1.out.on M9.out.below).on (below_drewN (Below.refl _ _) m)).bytes H1.out.nil
          have t2 : ∀ m, (convert 25 9 (.slice ya yn yc)).run Try.prog (w9.drewN m) = .ok (.string (strOfNums yz)) (w9.drewN m) := fun m => text_of ((H2.out.on M9.out.below).on (below_drewN (Below.refl _ _) m)).bytes H2.out.nil
          have sa1 : ∀ w' : World, (Op.stringOp .add (strOfNums zi) (strOfNums xz)).run Try.prog w' = .ok (.string (strOfNums zm)) w' := str_add _ _ _ hzm (by have := HZ.out; omega)
          have sa2 : ∀ w' : World, (Op.stringOp .add (strOfNums zm) (strOfNums yz)).run Try.prog w' = .ok (.string (strOfNums z2)) w' := str_add _ _ _ hz2 (by have := HZ.out; omega)
          clear hzm hz2 hzg hl2 hlm HC HE HH HI HS HM HZ HZ1 hxl hyl
          go_wp2
          go_quiet (fail)
          have M10 := Lib.hid (M9.out.on (below_drewN (Below.refl _ _) nq))
          clear t1 t2 sa1 sa2 d1 d2 M9 H1 H2 e1 e2
          go_wp2
          go_loopw [8] (fun vo wq => ∃ (S' : Nat → Prop) (zp zq : List Int), vo = .string (strOfNums zp) ∧ Hid (Mine w wq b S' k zq) ∧ Hid (zp ++ zq = z2)) (fun vo _ => z2.length - sizeOfText vo)
          case atStart => exact ⟨S9, zo, zg, rfl, M10.out, HE2.out⟩
          case round =>
            clear M10
            obtain ⟨S', zp, zq, rfl, MI, HE3⟩ := hrel
            by_cases hge : k ≤ zq.length
            · obtain ⟨ts, hts⟩ : ∃ ts, zq.take k = ts := ⟨_, rfl⟩
              obtain ⟨ds, hds⟩ : ∃ ds, zq.drop k = ds := ⟨_, rfl⟩
              obtain ⟨zr, hzr⟩ : ∃ zr, zp ++ ts = zr := ⟨_, rfl⟩
              have HE4 := Lib.hid (show zr ++ ds = z2 by rw [← hzr, ← hts, ← hds, List.append_assoc, List.take_append_drop]; exact HE3.out)
              have HR := Lib.hid (show zr.length = zp.length + k by rw [← hzr, ← hts]; simp; omega)
              have HR2 := Lib.hid (show zr.length ≤ z2.length by rw [← HE4.out]; simp)
              have hgi : (k : Int) ≤ (zq.length : Int) := by omega
              go_wp2_with fail
              refine (len_any b S' k zq wr MI.out.fi).mono ?_
              rintro e w11 ⟨rfl, rfl⟩
              go_wp2_with fail
              refine (take_yes_at b S' k zq ts ds wr MI.out.fi hts hds hge hk1 hk2).mono ?_
              rintro e w12 ⟨A4, c4, S4', rfl, u4, a4, F4, O4, s4⟩
              have M12 := Lib.hid (MI.out.next F4 O4 s4)
              have t1 : (convert 25 9 (.slice A4 k c4)).run Try.prog w12 = .ok (.string (strOfNums ts)) w12 := text_of u4.bytes.1 u4.bytes.2
              have sa1 : ∀ w' : World, (Op.stringOp .add (strOfNums zp) (strOfNums ts)).run Try.prog w' = .ok (.string (strOfNums zr)) w' := str_add _ _ _ hzr (by have := HR2.out; have := HB2.out; omega)
              clear u4 a4 F4 O4 s4 hts hds hzr MI HE3
              go_wp2
              go_roundw
              case rel => exact ⟨S4', zr, ds, rfl, M12.out, HE4.out⟩
              case measure =>
                have h1 := HR.out; have h2 := HR2.out
                simp only [sizeOfText, str_size]
                omega
            · have hgi : ¬ (k : Int) ≤ (zq.length : Int) := by omega
              have hgd : decide ((k : Int) ≤ (zq.length : Int)) = false := by simp; omega
              go_wp2_with fail
              refine (len_any b S' k zq wr MI.out.fi).mono ?_
              rintro e w11 ⟨rfl, rfl⟩
              go_wp2_with fail
              refine (take_no b S' k zq wr MI.out.fi (by omega)).mono ?_
              rintro e w12 ⟨rfl, F4, k4⟩
              have M12 := Lib.hid (MI.out.on k4)
              clear F4 k4 MI
              go_wp2
              go_roundw
              case rel => exact ⟨j + 1, S', z2, zp, zq, by omega, by go_num, rfl, rfl, M12.out, HE3.out, by unfold Hid; omega, HI2.out⟩
              case measure => simp [intOf]; omega
        · have hjn : j = n := by omega
          have HB2 := Lib.hid (show zi.length ≤ 12000 by have := HI.out; have := total_le L j; have := HT.out; omega)
          go_wp2_with fail
          refine (rest_any b S k zh wr MM.out.fi).mono ?_
          rintro e w5 ⟨R, rc, rfl, u5, n5, a5, F5, O5⟩
          have M5 := Lib.hid (MM.out.next F5 (O5.mono (fun d hd => by rw [hd]; exact MM.out.fi.mine)) (fun d hd => .inl (by rw [hd]; exact MM.out.fi.mine)))
          have t1 : (convert 25 9 (.slice R zh.length rc)).run Try.prog w5 = .ok (.string (strOfNums zh)) w5 := text_of u5 n5
          have sa1 : ∀ w' : World, (Op.stringOp .add (strOfNums zo) (strOfNums zh)).run Try.prog w' = .ok (.string (strOfNums zi)) w' := str_add _ _ _ HE.out (by have := HB2.out; omega)
          have hhi : (zh.length : Int) < (k : Int) := by have := HH.out; omega
          clear u5 n5 a5 F5 O5 MM HL
          go_wp2_with fail
          refine (rest_any b _ k [] w5 M5.out.fi).mono ?_
          rintro e w6 ⟨R6, c6, rfl, u6, n6, a6, F6, O6⟩
          have M6 := Lib.hid (M5.out.next F6 (O6.mono (fun d hd => by rw [hd])) (fun d hd => .inl (by rw [hd])))
          clear u6 n6 a6 F6 O6 M5 t1 sa1
          rw [show ([] : List Int).length = 0 from rfl]
          go_wp2_with fail
          refine (law_runs _).mono ?_
          rintro e w7 ⟨rfl, k7⟩
          go_wp2
          go_ret
          exact ⟨rfl, M6.out.below.trans (k7.mono M6.out.below.size)⟩

end Go.Proofs.Ytbmcaldeiddgeaa
