/- The law DiskShorts, walked. -/
import Derived.Test.YtdfjhgibdabeeaaLawR
import Derived.Test.YtdfjhgibdabeeaaReadD
import Derived.WalkKit
import Derived.WalkSpells
import Derived.WalkLawsBesides
import Derived.Lib.Hide
import Derived.OwnWalk
namespace Go.Proofs.Ytdfjhgibdabeeaa
open Go.RowKit

def nul (n : Nat) : List Int := List.replicate n 0
theorem nul_len (n : Nat) : (nul n).length = n := by simp [nul]
def dH (zs : List Int) : Dev := ⟨nul 300, [], [], zs⟩
theorem dH_len (zs : List Int) : (dH zs).data.length = 300 := nul_len 300
theorem dH_okd (zs : List Int) (h : zs.length ≤ 100) : Okd (dH zs) := by
  refine ⟨?_, ?_⟩
  · unfold Dev.may
    rw [dH_len]
    rfl
  · unfold Dev.few
    rw [dH_len, show (dH zs).bad = [] from rfl, show (dH zs).soft = [] from rfl, show (dH zs).shorts = zs from rfl]
    simp
    omega
/-- How many bytes are wanted. -/
def wants (zs : List Int) (i k : Nat) : Int := if i < zs.length ∧ 0 < zs.getD i 0 ∧ zs.getD i 0 < (k : Int) then zs.getD i 0 else (k : Int)
theorem dH_get (zs : List Int) (i k : Nat) (hk : k ≤ 255) : ∃ o, get (dH zs) zero i ((i : Int) % 40) (k : Int) = ⟨o, 0, zero, i + 1⟩ ∧ (o.length : Int) = wants zs i k := by
  have hp : (i : Int) % 40 = ((i % 40 : Nat) : Int) := by omega
  have h1 : (dH zs).data.length = 300 := dH_len zs
  have ha : ((ask (dH zs) i (i % 40) k : Nat) : Int) = wants zs i k := by
    unfold ask wants short
    rw [h1, show (dH zs).shorts = zs from rfl]
    by_cases hc : i < zs.length ∧ 0 < zs.getD i 0
    · rw [if_pos hc]
      by_cases hz : zs.getD i 0 < (k : Int)
      · rw [if_pos ⟨hc.1, hc.2, hz⟩]; have := hc.2; omega
      · rw [if_neg (fun h => hz h.2.2)]; omega
    · rw [if_neg hc, if_neg (fun h => hc ⟨h.1, h.2.1⟩)]; omega
  have hal := ask_le (dH zs) i (i % 40) k
  rw [hp]
  unfold get
  rw [if_neg (by omega)]
  simp only [Int.toNat_natCast]
  rw [← ha]
  have hf : ∀ j, fails (dH zs) zero j = false := fun j => by
    unfold fails leftOf
    rw [show (dH zs).bad = [] from rfl, show (dH zs).soft = [] from rfl]
    rfl
  have hst : ∀ e f j, e ≤ f + j → stop (fails (dH zs) zero) e f j = e := by
    intro e f
    induction f with
    | zero => intro j _; rfl
    | succ f ih =>
      intro j hj
      unfold stop
      rw [hf j]
      split
      · exact ih (j + 1) (by omega)
      · rfl
  by_cases h0 : ask (dH zs) i (i % 40) k = 0
  · rw [if_pos h0]
    exact ⟨[], rfl, by rw [h0]; rfl⟩
  · rw [if_neg h0, if_neg (by rw [hf]; simp)]
    refine ⟨_, rfl, ?_⟩
    unfold upto
    rw [hst _ _ _ (by omega), List.length_take, List.length_drop, h1]
    rw [h1] at hal
    omega

set_option maxRecDepth 100000 in
set_option maxHeartbeats 8000000 in
theorem shortlaw_walk (A : Option Addr) (n c : Nat) (ys : List Int) (t : Int) (w : World) (h : IsRow .i64 w A n c ys) (ht : (Lit.int .u8 t).wf = true) : Calls Try.prog 8 #[.slice A n c, .int .u8 t] w fun e w' => e = .returned (.bool true) ∧ Below w.heap.size w w' := by
  obtain ⟨t0, t1⟩ := bounds_u8 ht
  obtain ⟨k, rfl⟩ : ∃ k : Nat, t = (k : Int) := ⟨t.toNat, by omega⟩
  have H := Lib.hid h.nums
  have hnm : n ≤ 9223372036854775807 := by have := h.nums.le; have := h.nums.mx; unfold maxLen at this; omega
  have hk : k ≤ 255 := by omega
  clear h ht
  have HN := Lib.hid H.out.len
  generalize List.take n ys = zs at *
  by_cases hn : 100 < n
  · have hni : (100 : Int) < (n : Int) := by omega
    go_enter Try.func8, Try.ntmps8
    go_wp2_with fail
    refine (law_runs _).mono ?_
    rintro e w2 ⟨rfl, k2⟩
    go_wp2
    go_ret
    exact ⟨rfl, k2⟩
  have hni : ¬ (100 : Int) < (n : Int) := by omega
  go_enter Try.func8, Try.ntmps8
  go_wp2_with (at_make; refine make_bytes rfl _ _ rfl 300 300 rfl rfl rfl (by decide) ?_; intro g w1 hg q1 q2; have Q1 := Lib.hid q1; have Q2 := Lib.hid q2; clear q1 q2 hg)
  have HO := Lib.hid (dH_okd zs (by rw [HN.out]; omega))
  have HE := Lib.hid (show (dH zs).eff = dH zs by rw [Dev.eff, HO.out.1]; rfl)
  have G1 := Lib.hid (fun i => dH_get zs i k hk)
  have D1 := Lib.hid (show DevIn w1 ⟨some ⟨g, 0, none⟩, 300, 300, none, 0, 0, none, 0, 0, A, n, c⟩ (dH zs) from ⟨Q1.out, nums_nil _ _, pairs_nil _, H.out.on Q2.out⟩)
  generalize dH zs = D at *
  refine (new_any ⟨some ⟨g, 0, none⟩, 300, 300, none, 0, 0, none, 0, 0, A, n, c⟩ D _ D1.out HO.out.2).mono ?_
  rintro e w2 ⟨b, y, S, rfl, p2, n2, k2⟩
  rw [HE.out] at p2
  have M2 := Lib.hid (show Mine w w2 (Dk b y D zero 0) S from ⟨p2, fun d hd => Nat.le_trans Q2.out.size (n2 d hd), Q2.out.trans (k2.mono Q2.out.size)⟩)
  clear p2 n2 k2 D1 Q1 Q2
  go_wp2
  go_loopw [7] (fun i wr => ∃ j : Nat, j ≤ n + 2 ∧ i = .int .i64 j ∧ Hid (Mine w wr (Dk b y D zero j) S)) (fun i _ => n + 2 - (intOf i).toNat)
  case atStart => exact ⟨0, Nat.zero_le _, rfl, M2.out⟩
  case round =>
    clear M2
    obtain ⟨j, hj, rfl, M⟩ := hrel
    by_cases hlt : j < n + 2
    · have hji : (j : Int) < (n : Int) + 2 := by omega
      obtain ⟨os, hg1, hg2⟩ := G1.out j
      have HG1 := Lib.hid hg1; have HG2 := Lib.hid hg2
      clear hg1 hg2
      by_cases hjn : j < n
      · obtain ⟨lb, o, rfl, hlb, hc⟩ := H.out.cells (by omega)
        have c0 := (M.out.below.cell (p := ⟨lb, o + j, none⟩) hlb).trans (hc j hjn)
        have hd : decide (j < n) = true := by simp; omega
        have hjn2 : (j : Int) < (n : Int) := by omega
        have HWT := Lib.hid (show wants zs j k = if 0 < zs.getD j 0 ∧ zs.getD j 0 < (k : Int) then zs.getD j 0 else (k : Int) by
          unfold wants
          rw [HN.out]
          simp [hjn])
        clear hc
        generalize zs.getD j 0 = z at *
        by_cases hz : 0 < z
        · by_cases hzk : z < (k : Int)
          · have HL := Lib.hid (show z = ((os.length : Nat) : Int) by rw [HG2.out, HWT.out, if_pos ⟨hz, hzk⟩])
            go_wp2_with fail
            refine (get_any _ _ wr M.out.obj HO.out (sound_zero HO.out) (by omega) (by omega) _ HG1.out).mono ?_
            rintro e w5 ⟨A5, m5, c5, rfl, u5, _, p5, o5⟩
            have HM5 := Lib.hid u5.len
            have M5 := Lib.hid (M.out.next p5 o5 (fun d hd => .inl hd))
            clear u5 p5 o5 M
            have hq : ((m5 : Nat) : Int) = z := by rw [HL.out, ← HM5.out]
            go_wp2
            go_roundw
            case rel => exact ⟨j + 1, by omega, by go_num, M5.out⟩
            case measure => simp [intOf]; omega
          · have HL := Lib.hid (show (k : Int) = ((os.length : Nat) : Int) by rw [HG2.out, HWT.out, if_neg (fun h => hzk h.2)])
            go_wp2_with fail
            refine (get_any _ _ wr M.out.obj HO.out (sound_zero HO.out) (by omega) (by omega) _ HG1.out).mono ?_
            rintro e w5 ⟨A5, m5, c5, rfl, u5, _, p5, o5⟩
            have HM5 := Lib.hid u5.len
            have M5 := Lib.hid (M.out.next p5 o5 (fun d hd => .inl hd))
            clear u5 p5 o5 M
            have hq : ((m5 : Nat) : Int) = (k : Int) := by rw [HL.out, ← HM5.out]
            go_wp2
            go_roundw
            case rel => exact ⟨j + 1, by omega, by go_num, M5.out⟩
            case measure => simp [intOf]; omega
        · have HL := Lib.hid (show (k : Int) = ((os.length : Nat) : Int) by rw [HG2.out, HWT.out, if_neg (fun h => hz h.1)])
          go_wp2_with fail
          refine (get_any _ _ wr M.out.obj HO.out (sound_zero HO.out) (by omega) (by omega) _ HG1.out).mono ?_
          rintro e w5 ⟨A5, m5, c5, rfl, u5, _, p5, o5⟩
          have HM5 := Lib.hid u5.len
          have M5 := Lib.hid (M.out.next p5 o5 (fun d hd => .inl hd))
          clear u5 p5 o5 M
          have hq : ((m5 : Nat) : Int) = (k : Int) := by rw [HL.out, ← HM5.out]
          go_wp2
          go_roundw
          case rel => exact ⟨j + 1, by omega, by go_num, M5.out⟩
          case measure => simp [intOf]; omega
      · have hd : decide (j < n) = false := by simp; omega
        have hjn2 : ¬ (j : Int) < (n : Int) := by omega
        have HL := Lib.hid (show (k : Int) = ((os.length : Nat) : Int) by
          rw [HG2.out]
          unfold wants
          rw [HN.out, if_neg (fun h => hjn h.1)])
        go_wp2_with fail
        refine (get_any _ _ wr M.out.obj HO.out (sound_zero HO.out) (by omega) (by omega) _ HG1.out).mono ?_
        rintro e w5 ⟨A5, m5, c5, rfl, u5, _, p5, o5⟩
        have HM5 := Lib.hid u5.len
        have M5 := Lib.hid (M.out.next p5 o5 (fun d hd => .inl hd))
        clear u5 p5 o5 M
        have hq : ((m5 : Nat) : Int) = (k : Int) := by rw [HL.out, ← HM5.out]
        go_wp2
        go_roundw
        case rel => exact ⟨j + 1, by omega, by go_num, M5.out⟩
        case measure => simp [intOf]; omega
    · have hji : ¬ (j : Int) < (n : Int) + 2 := by omega
      go_wp2_with fail
      refine (law_runs _).mono ?_
      rintro e w8 ⟨rfl, k8⟩
      have K8 := M.out.below.trans (k8.mono M.out.below.size)
      go_wp2
      go_ret
      exact ⟨rfl, K8⟩

end Go.Proofs.Ytdfjhgibdabeeaa
