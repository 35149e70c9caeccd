/- The law FifoPlays, walked. -/
import Derived.Test.YtbmcaldeiddgeaaWalksG
import Derived.WalkKit
import Derived.WalkSpells
import Derived.WalkLawsBesides
import Derived.Lib.Hide
import Derived.BigQuiet
import Derived.Deep.RegionHeld3
namespace Go.Proofs.Ytbmcaldeiddgeaa
open Go.RowKit

theorem held14 {W w' : World} {lb p q : Nat} {u v : Value} (hb : lb < W.heap.size) (h1 : W.cell? ⟨lb, p, none⟩ = some u) (h2 : W.cell? ⟨lb, q, none⟩ = some v) (k : Below W.heap.size W w') : w'.cell? ⟨lb, p, none⟩ = some u ∧ w'.cell? ⟨lb, q, none⟩ = some v ∧ Below W.heap.size W w' :=
  ⟨(k.cell (p := ⟨lb, p, none⟩) hb).trans h1, (k.cell (p := ⟨lb, q, none⟩) hb).trans h2, k⟩
theorem play_k {W w : World} {X Y : Option Addr} {xn xc yn yc : Nat} {zs : List Int} (k : Below W.heap.size W w) (hx : Buf w X xn xc zs) (hy : Buf w Y yn yc zs) :
    (convert 25 9 (.slice X xn xc)).run Try.prog w = .ok (.string (strOfNums zs)) w ∧ (convert 25 9 (.slice Y yn yc)).run Try.prog w = .ok (.string (strOfNums zs)) w ∧ Below W.heap.size W w := ⟨text_of hx.bytes.1 hx.bytes.2, text_of hy.bytes.1 hy.bytes.2, k⟩
theorem play_9 {W w w9 : World} {b r : Nat} {S T : Nat → Prop} {k : Int} {X Y : Option Addr} {xn xc yn yc : Nat} {zs : List Int} (B : Both W w b S r T k zs zs) (hx : Buf w X xn xc zs) (hy : Buf w Y yn yc zs) (hxs : ∀ g o s, X = some ⟨g, o, s⟩ → S g ∧ g ≠ b) (hys : ∀ g o s, Y = some ⟨g, o, s⟩ → T g ∧ g ≠ r)
    (cy : w.cell? ⟨r, 1, none⟩ = some (.slice Y yn yc)) (F9 : Fi w9 b (fun d => d = b) k []) (O9 : Only (fun d => d = b) w w9) : Both W w9 b (fun d => d = b) r T k [] zs ∧ Buf w9 X xn xc zs ∧ Buf w9 Y yn yc zs ∧ w9.cell? ⟨r, 1, none⟩ = some (.slice Y yn yc) := by
  refine ⟨B.fst F9 (O9.mono (fun d hd => by rw [hd]; exact B.f.fi.mine)) (fun d hd => .inl (by rw [hd]; exact B.f.fi.mine)), hx.only O9 (fun g o s he => (hxs g o s he).2), hy.only O9 (fun g o s he hg => B.apart g (by rw [hg]; exact B.f.fi.mine) (hys g o s he).1), ?_⟩
  exact (O9.cell (p := ⟨r, 1, none⟩) (B.r.lt r B.r.fi.mine) (fun hr => B.apart r (by rw [show r = b from hr]; exact B.f.fi.mine) B.r.fi.mine)).trans cy
theorem play_10 {W w w9 w10 : World} {b r : Nat} {S T : Nat → Prop} {k : Int} {X Y : Option Addr} {xn xc yn yc : Nat} {zs : List Int} (B0 : Both W w b S r T k zs zs) (B : Both W w9 b (fun d => d = b) r T k [] zs) (hx : Buf w9 X xn xc zs) (hy : Buf w9 Y yn yc zs) (hxs : ∀ g o s, X = some ⟨g, o, s⟩ → S g ∧ g ≠ b) (hys : ∀ g o s, Y = some ⟨g, o, s⟩ → T g ∧ g ≠ r)
    (F10 : Fi w10 r (fun d => d = r) k []) (O10 : Only (fun d => d = r) w9 w10) : Both W w10 b (fun d => d = b) r (fun d => d = r) k [] [] ∧ Buf w10 X xn xc zs ∧ Buf w10 Y yn yc zs :=
  ⟨B.snd F10 (O10.mono (fun d hd => by rw [hd]; exact B.r.fi.mine)) (fun d hd => .inl (by rw [hd]; exact B.r.fi.mine)), hx.only O10 (fun g o s he hg => B0.apart g (hxs g o s he).1 (by rw [hg]; exact B.r.fi.mine)), hy.only O10 (fun g o s he => (hys g o s he).2)⟩

set_option maxHeartbeats 8000000 in
set_option maxRecDepth 100000 in
theorem plays_walk (s : Int) (A : Option Addr) (n c : Nat) (L : List St) (w : World) (hs : (Lit.int .i64 s).wf = true) (hL : IsSteps w A n L) :
    Calls Try.prog 4 #[.int .i64 s, .slice A n c] w fun e w' => e = .returned (.bool true) ∧ Below w.heap.size w w' := by
  obtain ⟨hs0, hs1⟩ := bounds_i64 hs
  clear hs
  obtain ⟨hm, hL⟩ := hL
  have HL := Lib.hid hL
  clear hL
  have hm : n ≤ 9223372036854775807 := by unfold maxLen at hm; omega
  go_enter Try.func4, Try.ntmps4
  go_wp2_with fail
  refine (few_any A n c L w HL.out hm).mono ?_
  rintro e w1 ⟨x, rfl, hx, k1⟩
  cases x with
  | false =>
    go_wp2_with fail
    refine (law_runs _).mono ?_
    rintro e w2 ⟨rfl, k2⟩
    go_wp2
    go_ret
    exact ⟨rfl, k1.trans (k2.mono k1.size)⟩
  | true =>
    obtain ⟨hn60, htot⟩ := hx rfl
    rw [HL.out.len] at hn60
    clear hx
    go_wp2_with fail
    refine (new_any s w1 hs0 hs1).mono ?_
    rintro e w2 ⟨b, S0, rfl, F2, s2, k2⟩
    go_wp2_with fail
    refine (rnew_any s w2 hs0 hs1).mono ?_
    rintro e w3 ⟨r, T0, rfl, F3, s3, k3⟩
    have hkb := blocks_pos s
    generalize sizeOfBlocks s = k at *
    obtain ⟨hk1, hk2⟩ := hkb
    have B0 := Lib.hid (show Both w w3 b S0 r T0 k [] [] from by
      have kk2 := k1.trans (k2.mono k1.size)
      have kk3 := kk2.trans (k3.mono kk2.size)
      exact ⟨⟨F2.on k3, fun d hd => Nat.le_trans k1.size (s2 d hd), kk3⟩, ⟨F3, fun d hd => Nat.le_trans kk2.size (s3 d hd), kk3⟩, fun d hd ht => by have := F2.lt d hd; have := s3 d ht; omega⟩)
    clear F2 s2 k2 F3 s3 k3 k1
    have HT := Lib.hid htot
    clear htot
    go_wp2
    go_loopw [7] (fun i wr => ∃ (j : Nat) (S T : Nat → Prop) (zs : List Int), j ≤ n ∧ i = .int .i64 j ∧ Hid (Both w wr b S r T k zs zs) ∧ Hid (zs.length ≤ total (L.take j))) (fun i _ => n - (intOf i).toNat)
    case atStart => exact ⟨0, S0, T0, [], Nat.zero_le _, rfl, B0.out, Nat.zero_le _⟩
    case round =>
      clear B0
      obtain ⟨j, S, T, zs, hj, rfl, BB, HZ⟩ := hrel
      by_cases hlt : j < n
      · obtain ⟨lb, o, rfl, hb, hc⟩ := HL.out.cells (by omega)
        obtain ⟨c0, c1, c2⟩ := hc j hlt
        have c0 := (BB.out.f.below.cell (p := ⟨lb, o + j * 3, none⟩) hb).trans c0
        have c1 := (BB.out.f.below.cell (p := ⟨lb, o + j * 3 + 1, none⟩) hb).trans c1
        have c2 := (BB.out.f.below.cell (p := ⟨lb, o + j * 3 + 2, none⟩) hb).trans c2
        have HS := Lib.hid (total_snoc L j (by have := HL.out.len; omega))
        have HM := Lib.hid (total_le L (j + 1))
        have H1 := Lib.hid (HL.out.one j hlt)
        have H2 := Lib.hid (HL.out.two j hlt)
        have hkind := HL.out.kind j hlt
        have e1 := Lib.hid (hc j hlt).2.1; have e2 := Lib.hid (hc j hlt).2.2
        clear hc
        have hlb := hb
        generalize L.getD j default = x at *
        obtain ⟨xk, ⟨xa, xn, xc, xz⟩, ⟨ya, yn, yc, yz⟩⟩ := x
        simp only at c0 c1 c2 HS H1 H2 hkind e1 e2
        have hji : (j : Int) < (n : Int) := by omega
        have hj0 : (0 : Int) ≤ (j : Int) := by omega
        have hq : xk % 4 = 0 ∨ xk % 4 = 1 ∨ xk % 4 = 2 ∨ xk % 4 = 3 := by omega
        rcases hq with hq | hq | hq | hq
        · have hqi : ((xk : Nat) : Int).tmod 4 = 0 := by rw [Int.tmod_eq_emod_of_nonneg (by omega)]; omega
          have hqe : ((xk : Nat) : Int) % 4 = 0 := by omega
          clear hq
          have BA := Lib.hid (BB.out.on (((Below.refl _ _).drew).alloc (Nat.le_refl _) (.cells #[.slice xa xn xc, .slice ya yn yc] 25)))
          have BD := Lib.hid (BB.out.on (Below.refl _ _).drew)
          have K0 := held14 hlb e1.out e2.out BD.out.f.below
          have K1 := held14 hlb e1.out e2.out BA.out.f.below
          have HLL := Lib.hid (show ∀ x ∈ [(⟨xa, xn, xc, xz⟩ : El), ⟨ya, yn, yc, yz⟩], ElOk wr.drew x ∧ Away S x by
            intro x hx
            simp at hx
            rcases hx with rfl | rfl
            · exact El_away BD.out.f H1.out
            · exact El_away BD.out.f H2.out)
          have hlen : zs.length + (cat [(⟨xa, xn, xc, xz⟩ : El), ⟨ya, yn, yc, yz⟩]).length ≤ 1000000 := by
            have := HZ.out; have := HM.out; have := HS.out; have := HT.out; have h1 := H1.out.bytes.1; have h2 := H2.out.bytes.1
            simp only at h1 h2
            simp [cat]; omega
          have HC := Lib.hid (show zs ++ cat [(⟨xa, xn, xc, xz⟩ : El), ⟨ya, yn, yc, yz⟩] = zs ++ xz ++ yz by simp [cat])
          go_wp2_with fail
          go_region_held3 (fun w' => w'.cell? ⟨lb, o + j * 3 + 1, none⟩ = some (.slice xa xn xc) ∧ w'.cell? ⟨lb, o + j * 3 + 2, none⟩ = some (.slice ya yn yc) ∧ Below w.heap.size w w')
            (first | assumption | exact K0 | exact K1 | exact K9)
            (first | (go_at_call 8; refine (put_any b S k zs _ 2 2 [⟨xa, xn, xc, xz⟩, ⟨ya, yn, yc, yz⟩] _ BA.out.f.fi (lists_new wr.drew S _ _ _ _ _ (by simp) rfl rfl HLL.out BD.out.f.lt) (by omega) hlen).mono ?_; rintro e w9 ⟨v9, S9, rfl, F9, O9, s9⟩; have K9 := held14 hlb e1.out e2.out (BA.out.fst F9 O9 s9).f.below))
          have B9 := Lib.hid (BA.out.fst F9 O9 s9)
          rw [HC.out] at B9
          have d1 := K9.1
          have d2 := K9.2.1
          clear K0 K1 K9 F9 O9 s9 BA BD c0 c1 c2 HLL
          have hl1 : zs.length + xn ≤ 1000000 := by have h1 := H1.out.bytes.1; simp only at h1; simp [cat] at hlen; omega
          go_wp2_with fail
          refine (rput_any r T k zs xa xn xc xz w9 B9.out.r.fi (H1.out.on B9.out.f.below).bytes H1.out.nil hl1).mono ?_
          rintro e w10 ⟨v10, T10, rfl, F10, O10, s10⟩
          have B10 := Lib.hid (B9.out.snd F10 O10 s10)
          have d2 := (held14 hlb e1.out e2.out B10.out.f.below).2.1
          clear F10 O10 s10 d1
          have hl2 : (zs ++ xz).length + yn ≤ 1000000 := by have h1 := H1.out.bytes.1; have h2 := H2.out.bytes.1; simp only at h1 h2; simp [cat] at hlen; simp; omega
          go_wp2_with fail
          refine (rput_any r T10 k (zs ++ xz) ya yn yc yz w10 B10.out.r.fi (H2.out.on B10.out.f.below).bytes H2.out.nil hl2).mono ?_
          rintro e w11 ⟨v11, T11, rfl, F11, O11, s11⟩
          have B11 := Lib.hid (B10.out.snd F11 O11 s11)
          have HZ2 := Lib.hid (show (zs ++ xz ++ yz).length ≤ total (L.take (j + 1)) by
            rw [HS.out]
            have := HZ.out; have h1 := H1.out.bytes.1; have h2 := H2.out.bytes.1
            simp only at h1 h2
            simp; omega)
          clear F11 O11 s11 B9 B10 d2 hlen hl1 hl2
          generalize zs ++ xz ++ yz = ds at *
          obtain ⟨R, rn, rc, cr, hbr, _⟩ := B11.out.r.fi.held
          obtain rfl : (ds).length = rn := hbr.1
          clear hbr
          go_wp2
          go_quiet (first | (go_at_call 10; exact quiet_same (len_any b S9 k (ds) _ (B11.out.f.fi.drewN _))))
          go_wp2
          go_roundw
          case rel => exact ⟨j + 1, S9, T11, ds, by omega, by go_num, B11.out.on (below_drewN (Below.refl _ _) _), HZ2.out⟩
          case measure => simp [intOf]; omega
        · have hqi : ((xk : Nat) : Int).tmod 4 = 1 := by rw [Int.tmod_eq_emod_of_nonneg (by omega)]; omega
          have hqe : ((xk : Nat) : Int) % 4 = 1 := by omega
          clear hq
          have BA := Lib.hid (BB.out.on (((Below.refl _ _).drew).alloc (Nat.le_refl _) (.cells #[.slice xa xn xc, .slice ya yn yc] 25)))
          have BD := Lib.hid (BB.out.on (Below.refl _ _).drew)
          have K0 := held14 hlb e1.out e2.out BD.out.f.below
          have K1 := held14 hlb e1.out e2.out BA.out.f.below
          have HLL := Lib.hid (show ∀ x ∈ [(⟨xa, xn, xc, xz⟩ : El), ⟨ya, yn, yc, yz⟩], ElOk wr.drew x ∧ Away S x by
            intro x hx
            simp at hx
            rcases hx with rfl | rfl
            · exact El_away BD.out.f H1.out
            · exact El_away BD.out.f H2.out)
          have hlen : zs.length + (cat [(⟨xa, xn, xc, xz⟩ : El), ⟨ya, yn, yc, yz⟩]).length ≤ 1000000 := by
            have := HZ.out; have := HM.out; have := HS.out; have := HT.out; have h1 := H1.out.bytes.1; have h2 := H2.out.bytes.1
            simp only at h1 h2
            simp [cat]; omega
          have HC := Lib.hid (show zs ++ cat [(⟨xa, xn, xc, xz⟩ : El), ⟨ya, yn, yc, yz⟩] = zs ++ xz ++ yz by simp [cat])
          go_wp2_with fail
          go_region_held3 (fun w' => w'.cell? ⟨lb, o + j * 3 + 1, none⟩ = some (.slice xa xn xc) ∧ w'.cell? ⟨lb, o + j * 3 + 2, none⟩ = some (.slice ya yn yc) ∧ Below w.heap.size w w')
            (first | assumption | exact K0 | exact K1 | exact K9)
            (first | (go_at_call 8; refine (put_any b S k zs _ 2 2 [⟨xa, xn, xc, xz⟩, ⟨ya, yn, yc, yz⟩] _ BA.out.f.fi (lists_new wr.drew S _ _ _ _ _ (by simp) rfl rfl HLL.out BD.out.f.lt) (by omega) hlen).mono ?_; rintro e w9 ⟨v9, S9, rfl, F9, O9, s9⟩; have K9 := held14 hlb e1.out e2.out (BA.out.fst F9 O9 s9).f.below))
          have B9 := Lib.hid (BA.out.fst F9 O9 s9)
          rw [HC.out] at B9
          have d1 := K9.1
          have d2 := K9.2.1
          clear K0 K1 K9 F9 O9 s9 BA BD c0 c1 c2 HLL
          have hl1 : zs.length + xn ≤ 1000000 := by have h1 := H1.out.bytes.1; simp only at h1; simp [cat] at hlen; omega
          go_wp2_with fail
          refine (rput_any r T k zs xa xn xc xz w9 B9.out.r.fi (H1.out.on B9.out.f.below).bytes H1.out.nil hl1).mono ?_
          rintro e w10 ⟨v10, T10, rfl, F10, O10, s10⟩
          have B10 := Lib.hid (B9.out.snd F10 O10 s10)
          have d2 := (held14 hlb e1.out e2.out B10.out.f.below).2.1
          clear F10 O10 s10 d1
          have hl2 : (zs ++ xz).length + yn ≤ 1000000 := by have h1 := H1.out.bytes.1; have h2 := H2.out.bytes.1; simp only at h1 h2; simp [cat] at hlen; simp; omega
          go_wp2_with fail
          refine (rput_any r T10 k (zs ++ xz) ya yn yc yz w10 B10.out.r.fi (H2.out.on B10.out.f.below).bytes H2.out.nil hl2).mono ?_
          rintro e w11 ⟨v11, T11, rfl, F11, O11, s11⟩
          have B11 := Lib.hid (B10.out.snd F11 O11 s11)
          have HZ2 := Lib.hid (show (zs ++ xz ++ yz).length ≤ total (L.take (j + 1)) by
            rw [HS.out]
            have := HZ.out; have h1 := H1.out.bytes.1; have h2 := H2.out.bytes.1
            simp only at h1 h2
            simp; omega)
          clear F11 O11 s11 B9 B10 d2 hlen hl1 hl2
          generalize zs ++ xz ++ yz = ds at *
          obtain ⟨R, rn, rc, cr, hbr, _⟩ := B11.out.r.fi.held
          obtain rfl : (ds).length = rn := hbr.1
          clear hbr
          go_wp2
          go_quiet (first | (go_at_call 10; exact quiet_same (len_any b S9 k (ds) _ (B11.out.f.fi.drewN _))))
          go_wp2
          go_roundw
          case rel => exact ⟨j + 1, S9, T11, ds, by omega, by go_num, B11.out.on (below_drewN (Below.refl _ _) _), HZ2.out⟩
          case measure => simp [intOf]; omega
        · have hqi : ((xk : Nat) : Int).tmod 4 = 2 := by rw [Int.tmod_eq_emod_of_nonneg (by omega)]; omega
          have hqe : ((xk : Nat) : Int) % 4 = 2 := by omega
          clear hq c1 c2
          by_cases hkz : k ≤ zs.length
          · go_wp2_with fail
            refine (take_yes b S k zs wr BB.out.f.fi hkz hk1 hk2).mono ?_
            rintro e w4 ⟨A4, c4, S4, rfl, u4, a4, F4, O4, s4⟩
            have B4 := Lib.hid (BB.out.fst F4 O4 s4)
            go_wp2_with fail
            refine (rtake_yes r T k zs w4 B4.out.r.fi hkz hk1 hk2 (by have := HZ.out; have := total_le L j; have := HT.out; omega)).mono ?_
            rintro e w5 ⟨A5, c5, T5, rfl, u5, a5, F5, O5, s5⟩
            have B5 := Lib.hid (B4.out.snd F5 O5 s5)
            have u45 : Buf w5 A4 k c4 (zs.take k) := u4.only O5 (fun g o s he ht => by have h1 := (a4 g o s he).1; have h2 := BB.out.r.lt g ht; omega)
            have t1 : (convert 25 9 (.slice A4 k c4)).run Try.prog w5 = .ok (.string (strOfNums (zs.take k))) w5 := text_of u45.bytes.1 u45.bytes.2
            have t2 : (convert 25 9 (.slice A5 k c5)).run Try.prog w5 = .ok (.string (strOfNums (zs.take k))) w5 := text_of u5.bytes.1 u5.bytes.2
            have HZ2 := Lib.hid (show (zs.drop k).length ≤ total (L.take (j + 1)) by rw [HS.out]; have := HZ.out; simp; omega)
            clear u4 a4 F4 O4 s4 B4 u5 a5 F5 O5 s5 u45 hkz
            generalize strOfNums (zs.take k) = tt at *
            generalize zs.drop k = ds at *
            obtain ⟨R, rn, rc, cr, hbr, _⟩ := B5.out.r.fi.held
            obtain rfl : (ds).length = rn := hbr.1
            clear hbr
            go_wp2
            go_quiet (first | (go_at_call 10; exact quiet_same (len_any b S4 k (ds) _ (B5.out.f.fi.drewN _))))
            go_wp2
            go_roundw
            case rel => exact ⟨j + 1, S4, T5, ds, by omega, by go_num, B5.out.on (below_drewN (Below.refl _ _) _), HZ2.out⟩
            case measure => simp [intOf]; omega

          · go_wp2_with fail
            refine (take_no b S k zs wr BB.out.f.fi (by omega)).mono ?_
            rintro e w4 ⟨rfl, F4, k4⟩
            have B4 := Lib.hid (BB.out.on k4)
            go_wp2_with fail
            refine (rtake_no r T k zs w4 B4.out.r.fi (by omega)).mono ?_
            rintro e w5 ⟨rfl, F5, k5⟩
            have B5 := Lib.hid (B4.out.on k5)
            have t1 : (convert 25 9 (.slice none 0 0)).run Try.prog w5 = .ok (.string ⟨#[]⟩) w5 := text_of (Buf.nil w5).bytes.1 (fun _ => ⟨rfl, rfl⟩)
            have HZ2 := Lib.hid (show zs.length ≤ total (L.take (j + 1)) by rw [HS.out]; have := HZ.out; omega)
            clear F4 k4 B4 F5 k5 hkz
            obtain ⟨R, rn, rc, cr, hbr, _⟩ := B5.out.r.fi.held
            obtain rfl : (zs).length = rn := hbr.1
            clear hbr
            go_wp2
            go_quiet (first | (go_at_call 10; exact quiet_same (len_any b S k (zs) _ (B5.out.f.fi.drewN _))))
            go_wp2
            go_roundw
            case rel => exact ⟨j + 1, S, T, zs, by omega, by go_num, B5.out.on (below_drewN (Below.refl _ _) _), HZ2.out⟩
            case measure => simp [intOf]; omega
        · have hqi : ((xk : Nat) : Int).tmod 4 = 3 := by rw [Int.tmod_eq_emod_of_nonneg (by omega)]; omega
          have hqe : ((xk : Nat) : Int) % 4 = 3 := by omega
          clear hq c1 c2
          obtain ⟨X, xn2, xc2, cx, hbx, hxs⟩ := BB.out.f.fi.held
          obtain ⟨Y, yn2, yc2, cy, hby, hys⟩ := BB.out.r.fi.held
          have BD := Lib.hid (BB.out.on (Below.refl _ _).drew)
          have XD := Lib.hid (hbx.only (S := fun _ => False) (Only.of_below (Below.refl _ _).drew) (fun _ _ _ _ h => h))
          have YD := Lib.hid (hby.only (S := fun _ => False) (Only.of_below (Below.refl _ _).drew) (fun _ _ _ _ h => h))
          have XS := Lib.hid hxs; have YS := Lib.hid hys
          have K0 := play_k BD.out.f.below XD.out YD.out
          have cxD : wr.drew.cell? ⟨b, 1, none⟩ = some (.slice X xn2 xc2) := cx
          have cyD : wr.drew.cell? ⟨r, 1, none⟩ = some (.slice Y yn2 yc2) := cy
          clear hbx hby hxs hys cx cy
          go_wp2_with fail
          go_region_held3 (fun w' => (convert 25 9 (.slice X xn2 xc2)).run Try.prog w' = .ok (.string (strOfNums zs)) w' ∧ (convert 25 9 (.slice Y yn2 yc2)).run Try.prog w' = .ok (.string (strOfNums zs)) w' ∧ Below w.heap.size w w')
            (first | assumption | exact K0 | exact K9 | exact K10)
            (first | (go_at_call 11; refine (rest_at b S k zs X xn2 xc2 _ BD.out.f.fi cxD).mono ?_; rintro e w9 ⟨rfl, F9, O9⟩; obtain ⟨B9, X9, Y9, cy9⟩ := play_9 BD.out XD.out YD.out XS.out YS.out cyD F9 O9; have K9 := play_k B9.f.below X9 Y9) | (go_at_call 16; refine (rrest_at r T k zs Y yn2 yc2 _ B9.r.fi cy9).mono ?_; rintro e w10 ⟨rfl, F10, O10⟩; obtain ⟨B10, X10, Y10⟩ := play_10 BD.out B9 X9 Y9 XS.out YS.out F10 O10; have K10 := play_k B10.f.below X10 Y10))
          have BX := Lib.hid B10
          have HZ2 := Lib.hid (show ([] : List Int).length ≤ total (L.take (j + 1)) by simp)
          clear K0 K9 K10 B9 X9 Y9 cy9 B10 X10 Y10 F9 O9 F10 O10 BD XD YD
          obtain ⟨R, rn, rc, cr, hbr, _⟩ := BX.out.r.fi.held
          obtain rfl : (([] : List Int)).length = rn := hbr.1
          clear hbr
          go_wp2
          go_quiet (first | (go_at_call 10; exact quiet_same (len_any b (fun d => d = b) k (([] : List Int)) _ (BX.out.f.fi.drewN _))))
          go_wp2
          go_roundw
          case rel => exact ⟨j + 1, (fun d => d = b), (fun d => d = r), ([] : List Int), by omega, by go_num, BX.out.on (below_drewN (Below.refl _ _) _), HZ2.out⟩
          case measure => simp [intOf]; omega
      · go_wp2_with fail
        refine (law_runs _).mono ?_
        rintro e w2 ⟨rfl, k2⟩
        go_wp2
        go_ret
        exact ⟨rfl, BB.out.f.below.trans (k2.mono BB.out.f.below.size)⟩

end Go.Proofs.Ytbmcaldeiddgeaa
