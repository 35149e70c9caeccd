/- The law DiskSoft, walked. -/
import Derived.Test.YtdfjhgibdabeeaaLawR
import Derived.WalkKit
import Derived.WalkSpells
import Derived.WalkLawsBesides
import Derived.Lib.Hide
import Derived.OwnWalk
namespace Go.Proofs.Ytdfjhgibdabeeaa
open Go.RowKit

def dS (k n : Nat) : Dev := ⟨List.replicate 80 0, [], [((k : Int), (n : Int)), (90, 3)], []⟩
theorem dS_okd (k n : Nat) (hn : n ≤ 20) : Okd (dS k n) := by
  refine ⟨?_, rfl⟩
  unfold dS Dev.may
  simp [softOk]
  omega
theorem dS_times (k n : Nat) (hk : k ≤ 9) : times (dS k n).soft k = n := by
  simp only [dS, times, if_pos]
  rw [if_neg (by omega)]; simp
theorem dS_left (k n i : Nat) (hk : k ≤ 9) : leftOf (dS k n) (upd zero k (i : Nat)) k = (n : Int) - i := by
  unfold leftOf
  rw [dS_times k n hk, upd_same]
  rfl
theorem dS_sound (k n i : Nat) (hk : k ≤ 9) (hi : i ≤ n) (hn : n ≤ 20) : Sound (dS k n) (upd zero k (i : Nat)) := by
  intro j
  by_cases hjk : j = k
  · subst hjk; rw [upd_same, dS_times j n hk]; omega
  · rw [upd_other _ _ _ _ hjk]
    exact ⟨Int.le_refl _, (times_le _ j (dS_okd k n hn).sizes.all).1⟩
theorem upd_upd (L : Nat → Int) (k : Nat) (u v : Int) : upd (upd L k u) k v = upd L k v := by
  funext j; unfold upd; split <;> rfl
theorem dS_get1 (k n i : Nat) (hk : k ≤ 9) (hi : i < n) : get (dS k n) (upd zero k (i : Nat)) i (8 * (k : Int) + (i : Int) % 8) 5 = ⟨[], 1, upd zero k ((i + 1 : Nat) : Int), i + 1⟩ := by
  have hp : 8 * (k : Int) + (i : Int) % 8 = ((8 * k + i % 8 : Nat) : Int) := by omega
  have hq : (8 * k + i % 8) / 8 = k := by omega
  rw [hp]
  unfold get
  rw [if_neg (by omega)]
  simp only [Int.toNat_natCast, hq]
  rw [if_neg (by
    have h1 : (dS k n).data.length = 80 := rfl
    have h2 : short (dS k n) i = 4096 := by unfold short; rw [if_neg (fun h => absurd h.1 (by simp [dS]))]
    unfold ask
    rw [h1, h2]
    simp
    omega)]
  rw [if_pos (by
    unfold fails
    rw [dS_left k n i hk]
    simp; omega)]
  rw [if_neg (by simp [dS, isBad]), upd_same, upd_upd]
  rfl
theorem dS_get2 (k n cl : Nat) (hk : k ≤ 9) : get (dS k n) (upd zero k (n : Nat)) cl (8 * (k : Int)) 8 = ⟨List.replicate 8 0, 0, upd zero k (n : Nat), cl + 1⟩ := by
  have hp : 8 * (k : Int) = ((8 * k : Nat) : Int) := by omega
  have hq : (8 * k) / 8 = k := by omega
  have ha : ask (dS k n) cl (8 * k) 8 = 8 := by
    have h1 : (dS k n).data.length = 80 := rfl
    have h2 : short (dS k n) cl = 4096 := by unfold short; rw [if_neg (fun h => absurd h.1 (by simp [dS]))]
    unfold ask
    rw [h1, h2]
    simp
    omega
  rw [hp]
  unfold get
  rw [if_neg (by omega)]
  simp only [Int.toNat_natCast, hq]
  rw [show (8 : Int).toNat = 8 from rfl, ha, if_neg (by omega), if_neg (by
    unfold fails
    rw [dS_left k n n hk]
    simp [dS, isBad])]
  have hu : upto (dS k n) (upd zero k (n : Nat)) (8 * k) 8 = 8 * k + 8 := by
    unfold upto
    rw [hq]
    exact (stop_at _ _ _ _ (by omega)).2 (by omega)
  rw [hu]
  congr 1
  rw [show (dS k n).data = List.replicate 80 0 from rfl, List.drop_replicate, List.take_replicate]
  congr 1
  omega

set_option maxRecDepth 100000 in
set_option maxHeartbeats 8000000 in
theorem softlaw_walk (t s r : Int) (w : World) (ht : (Lit.int .u8 t).wf = true) (hs : (Lit.int .u8 s).wf = true) (hr : (Lit.int .u8 r).wf = true) : Calls Try.prog 7 #[.int .u8 t, .int .u8 s, .int .u8 r] w fun e w' => e = .returned (.bool true) ∧ Below w.heap.size w w' := by
  obtain ⟨t0, t1⟩ := bounds_u8 ht
  obtain ⟨s0, s1⟩ := bounds_u8 hs
  obtain ⟨r0, r1⟩ := bounds_u8 hr
  clear ht hs hr
  obtain ⟨n, hn⟩ : ∃ n : Nat, t % 21 = (n : Int) := ⟨(t % 21).toNat, by omega⟩
  obtain ⟨k, hk⟩ : ∃ k : Nat, s % 10 = (k : Int) := ⟨(s % 10).toNat, by omega⟩
  obtain ⟨q, hq⟩ : ∃ q : Nat, r % 20 = (q : Int) := ⟨(r % 20).toNat, by omega⟩
  have hn1 : n ≤ 20 := by omega
  have hk1 : k ≤ 9 := by omega
  have hq1 : q ≤ 19 := by omega
  go_enter Try.func7, Try.ntmps7
  go_wp2_with (at_make; refine make_bytes rfl _ _ rfl 80 80 rfl rfl rfl (by decide) ?_; intro g w1 hg q1 q2; have Q1 := Lib.hid q1; have Q2 := Lib.hid q2; clear q1 q2 hg)
  have k1 : Below w1.heap.size w1 (w1.alloc (.cells #[.int .i64 (k : Int), .int .i64 (n : Int), .int .i64 90, .int .i64 3] 26)) := (Below.refl _ _).alloc (Nat.le_refl _) _
  have K1 := Lib.hid (Q2.out.trans (k1.mono Q2.out.size))
  have D1 := Lib.hid (show DevIn (w1.alloc (.cells #[.int .i64 (k : Int), .int .i64 (n : Int), .int .i64 90, .int .i64 3] 26)) ⟨some ⟨g, 0, none⟩, 80, 80, none, 0, 0, some ⟨w1.heap.size, 0, none⟩, 2, 2, none, 0, 0⟩ (dS k n) from
    ⟨Q1.out.on k1, nums_nil _ _, pairs_new w1 _ 2 rfl (by unfold maxLen; omega) _ (fun j hj => by
      rcases (show j = 0 ∨ j = 1 by omega) with rfl | rfl
      · exact ⟨rfl, rfl⟩
      · exact ⟨rfl, rfl⟩), nums_nil _ _⟩)
  clear k1 Q1 Q2
  have HO := Lib.hid (dS_okd k n hn1)
  have HE := Lib.hid (show (dS k n).eff = dS k n by rw [Dev.eff, HO.out.1]; rfl)
  have G1 := Lib.hid (fun i => dS_get1 k n i hk1); have G2 := Lib.hid (fun cl => dS_get2 k n cl hk1)
  have HS := Lib.hid (fun i hi => dS_sound k n i hk1 hi hn1); have HL := Lib.hid (fun i => dS_left k n i hk1)
  have HM := Lib.hid (show (dS k n).m = 10 by unfold Dev.m dS; simp)
  generalize dS k n = D at *
  refine (new_any ⟨some ⟨g, 0, none⟩, 80, 80, none, 0, 0, some ⟨w1.heap.size, 0, none⟩, 2, 2, none, 0, 0⟩ D _ D1.out HO.out.2).mono ?_
  rintro e w2 ⟨b, y, S, rfl, p2, n2, k2⟩
  rw [HE.out] at p2
  have M2 := Lib.hid (show Mine w w2 (Dk b y D (upd zero k ((0 : Nat) : Int)) 0) S from by
    have hz : upd zero k ((0 : Nat) : Int) = zero := by funext j; unfold upd zero; split <;> rfl
    rw [hz]
    exact ⟨p2, fun d hd => Nat.le_trans K1.out.size (n2 d hd), K1.out.trans (k2.mono K1.out.size)⟩)
  clear p2 n2 k2 D1 K1
  go_wp2
  go_loopw [10] (fun i wr => ∃ j : Nat, j ≤ n ∧ i = .int .i64 j ∧ Hid (Mine w wr (Dk b y D (upd zero k (j : Nat)) j) S)) (fun i _ => n - (intOf i).toNat)
  case atStart => exact ⟨0, Nat.zero_le _, rfl, M2.out⟩
  case round =>
    clear M2
    obtain ⟨j, hj, rfl, M⟩ := hrel
    by_cases hlt : j < n
    · have HV := Lib.hid (show left D (upd zero k ((j + 1 : Nat) : Int)) (k : Int) = (n : Int) - 1 - (j : Int) by
        rw [left, if_pos (by rw [HM.out]; omega), Int.toNat_natCast, HL.out]; omega)
      have hji : (j : Int) < (n : Int) := by omega
      go_wp2_with fail
      refine (get_any _ 5 wr M.out.obj HO.out (HS.out j hj) (by omega) (by omega) _ (G1.out j hlt)).mono ?_
      rintro e w5 ⟨A5, m5, c5, rfl, u5, _, p5, o5⟩
      obtain rfl : m5 = 0 := u5.len.symm
      have M5 := Lib.hid (M.out.next p5 o5 (fun d hd => .inl hd))
      clear u5 p5 o5 M
      go_wp2_with fail
      refine (left_any (k : Int) w5 M5.out.obj _ HV.out).mono ?_
      rintro e w6 ⟨rfl, rfl⟩
      go_wp2
      go_roundw
      case rel => exact ⟨j + 1, by omega, by go_num, M5.out⟩
      case measure => simp [intOf]; omega
    · have hjn : j = n := by omega
      subst hjn
      have HV := Lib.hid (show left D (upd zero k (j : Nat)) (k : Int) = 0 by
        rw [left, if_pos (by rw [HM.out]; omega), Int.toNat_natCast, HL.out]; omega)
      have HV9 := Lib.hid (show left D (upd zero k (j : Nat)) 90 = 0 by
        rw [left, if_neg (by rw [HM.out]; omega)])
      go_wp2
      go_loopw [13] (fun i wr => ∃ a : Nat, a ≤ q + 1 ∧ i = .int .i64 a ∧ Hid (Mine w wr (Dk b y D (upd zero k (j : Nat)) (j + a)) S)) (fun i _ => q + 1 - (intOf i).toNat)
      case atStart => exact ⟨0, Nat.zero_le _, rfl, M.out⟩
      case round =>
        clear M
        obtain ⟨a, ha, rfl, M⟩ := hrel
        by_cases hlt : a < q + 1
        · have hai : (a : Int) < (q : Int) + 1 := by omega
          go_wp2_with fail
          refine (get_any _ 8 wr M.out.obj HO.out (HS.out j (Nat.le_refl _)) (by omega) (by omega) _ (G2.out (j + a))).mono ?_
          rintro e w5 ⟨A5, m5, c5, rfl, u5, _, p5, o5⟩
          obtain rfl : m5 = 8 := u5.len.symm
          have M5 := Lib.hid (M.out.next p5 o5 (fun d hd => .inl hd))
          clear u5 p5 o5 M
          go_wp2
          go_roundw
          case rel => exact ⟨a + 1, by omega, by go_num, M5.out⟩
          case measure => simp [intOf]; omega
        · have hai : ¬ (a : Int) < (q : Int) + 1 := by omega
          go_wp2_with fail
          refine (left_any (k : Int) wr M.out.obj 0 HV.out).mono ?_
          rintro e w6 ⟨rfl, rfl⟩
          go_wp2_with fail
          refine (left_any 90 wr M.out.obj 0 HV9.out).mono ?_
          rintro e w7 ⟨rfl, rfl⟩
          go_wp2_with fail
          refine (law_runs _).mono ?_
          rintro e w8 ⟨rfl, k8⟩
          have K8 := M.out.below.trans (k8.mono M.out.below.size)
          go_wp2
          go_ret
          exact ⟨rfl, K8⟩

end Go.Proofs.Ytdfjhgibdabeeaa
