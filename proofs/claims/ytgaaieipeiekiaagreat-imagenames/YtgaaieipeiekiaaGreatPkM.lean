/- Contracts of image's paired, mayNames, of ContainsFunc over files, of May. / Contracts of image's mayNames, of ContainsFunc over files, of May. / Contracts of ContainsFunc over files, of image's May. / Contract of image's All: the walk. / Contract of image's Apply. / Contracts of image's Find, Get, Used. -/
import Derived.Test.YtgaaieipeiekiaaGreatPkL
import Derived.Test.YtgaaieipeiekiaaGreatPkC
import Derived.WalkKit
import Derived.WalkSpells
import Derived.WalkLawsBesides
import Derived.Lib.Hide
import Derived.BigQuiet
import Derived.IntWalk
import Derived.Deep.RegionHeld3
namespace Go.Proofs.YtgaaieipeiekiaaGreat
open Go.RowKit
set_option maxRecDepth 100000

theorem below_set1' {B b : Nat} {w w' : World} (h : Below B w w') (hb : B ≤ b) (k : Nat) (x : Value) : Below B w (w'.setCell ⟨b, k, none⟩ x) :=
  ⟨h.os, h.tape, h.output, by simpa [World.setCell] using h.size, fun d hd => (Below.heap_setCell _ _ _ _ (fun he => absurd (show d = b from he) (by omega))).trans (h.block d hd)⟩
theorem sort_n (g c n : Nat) (zs : List Int) (w : World) (h : Row w g 3 (icl zs).toArray) (hl : zs.length = n) (hn : n ≤ 1000000) :
    Calls Tryz.prog 64 #[.slice (some ⟨g, 0, none⟩) n c] w fun e w' => e = .returned (.tuple #[]) ∧ Row w' g 3 (icl (srt zs)).toArray ∧ Only (fun d => d = g) w w' := by
  subst hl; exact sort_any g c zs w h hn
theorem compact_n (g c n : Nat) (S : List Int) (w : World) (h : Row w g 3 (icl S).toArray) (hs : S.Pairwise (· ≤ ·)) (hl : S.length = n) (hn : n ≤ 1000000) (hc : n ≤ c) :
    Calls Tryz.prog 65 #[.slice (some ⟨g, 0, none⟩) n c] w (CompactPost g c S w) := by
  subst hl; exact compact_any g c S w h hs hn hc
theorem nums_of_row {w : World} {g c : Nat} {S : List Int} (h : Row w g 3 (icl S).toArray) (hc : S.length ≤ c) (hm : c ≤ maxLen) : Nums .i64 w (some ⟨g, 0, none⟩) S.length c S :=
  ⟨rfl, hc, hm, (fun h => by cases h), fun _ => ⟨g, 0, rfl, h.lt, fun j hj => by
    rw [Nat.zero_add, h.at, List.getElem?_toArray, icl, List.getElem?_map, List.getElem?_eq_getElem hj, List.getD_eq_getElem?_getD, List.getElem?_eq_getElem hj]; rfl⟩⟩
def inos (N : List Nm) : List Int := N.map Nm.ino
def fillI (N : List Nm) (n k : Nat) : List Int := (inos N).take k ++ List.replicate (n - k) 0
theorem fill_len {N : List Nm} {n k : Nat} (h : N.length = n) (hk : k ≤ n) : (fillI N n k).length = n := by simp [fillI, inos]; omega
theorem fill_zero (N : List Nm) (n : Nat) : fillI N n 0 = List.replicate n 0 := by simp [fillI]
theorem fill_full {N : List Nm} {n : Nat} (h : N.length = n) : fillI N n n = inos N := by
  simp [fillI, inos]
  rw [List.take_of_length_le (by simp; omega)]
theorem fill_set {N : List Nm} {n k : Nat} (h : N.length = n) (hk : k < n) : (icl (fillI N n k)).toArray.setIfInBounds k (.int .i64 (N.getD k default).ino) = (icl (fillI N n (k + 1))).toArray := by
  apply Array.ext_getElem?
  intro i
  rw [Array.getElem?_setIfInBounds]
  simp only [icl, List.getElem?_toArray, List.getElem?_map, List.size_toArray, List.length_map, fill_len h (Nat.le_of_lt hk)]
  have hN : (N.getD k default).ino = (inos N)[k]'(by simp [inos]; omega) := by
    simp [inos, List.getD_eq_getElem?_getD, List.getElem?_eq_getElem (show k < N.length by omega)]
  by_cases hi : k = i
  · subst hi
    rw [if_pos rfl, if_pos hk, hN]
    unfold fillI
    rw [List.getElem?_append_left (by simp [inos]; omega), List.getElem?_take_of_lt (by omega), List.getElem?_eq_getElem (by simp [inos]; omega)]
    rfl
  · rw [if_neg hi]
    congr 1
    unfold fillI
    by_cases h1 : i < k
    · rw [List.getElem?_append_left (by simp [inos]; omega), List.getElem?_append_left (by simp [inos]; omega), List.getElem?_take_of_lt h1, List.getElem?_take_of_lt (by omega)]
    · have e1 : ((inos N).take k).length = k := by simp [inos]; omega
      have e2 : ((inos N).take (k + 1)).length = k + 1 := by simp [inos]; omega
      rw [List.getElem?_append_right (by omega), List.getElem?_append_right (by omega), e1, e2, List.getElem?_replicate, List.getElem?_replicate]
      by_cases h2 : i < n
      · rw [if_pos (by omega), if_pos (by omega)]
      · rw [if_neg (by omega), if_neg (by omega)]
theorem only_row {w w' : World} {g b : Nat} {t : TypeId} {cs : Array Value} (h : Row w b t cs) (o : Only (fun d => d = g) w w') (hn : b ≠ g) : Row w' b t cs := (o.block b h.lt hn).trans h
theorem inos_d (Z : List Nz) : Z.map Nz.ino = (Z.map Nz.d).map Nd.ino := by rw [List.map_map]; rfl

set_option maxHeartbeats 4000000 in
theorem paired_any (A : Option Addr) (n c : Nat) (N : List Nm) (A' : Option Addr) (n' c' : Nat) (Z : List Nz) (w : World) (h : Nms w A n c N) (h' : Nds w A' n' c' Z) (hn : n ≤ 1000) (z : Bool) (hz : PairOk N (Z.map Nz.d) ↔ z = true) :
    Calls Tryz.prog 38 #[.slice A n c, .slice A' n' c'] w (TruthPost z w) := by
  have H := Lib.hid h; have H' := Lib.hid h'; have HZ := Lib.hid hz
  have HL := Lib.hid h.len
  clear h h' hz
  go_enter Tryz.func38, Tryz.ntmps38
  go_wp2_with (refine st_makei rfl _ _ rfl _ n rfl rfl (by first | rfl | simp) (by omega) ?_; intro g w1 hg r1 k1; have HG := Lib.hid hg; have R1 := Lib.hid r1; have K1 := Lib.hid k1; clear hg r1 k1)
  go_loopw [13] (fun i wr => ∃ k : Nat, k ≤ n ∧ i = .int .i64 k ∧ Hid (Row wr g 3 (icl (fillI N n k)).toArray) ∧ Hid (Below w.heap.size w wr)) (fun i _ => n - (intOf i).toNat)
  case atStart => exact ⟨0, Nat.zero_le _, rfl, by unfold Hid; rw [fill_zero]; exact R1.out, K1.out⟩
  case round =>
    clear R1 K1
    obtain ⟨k, hk, rfl, R1, K1⟩ := hrel
    by_cases hlt : k < n
    · obtain ⟨b, o, rfl, hb, _⟩ := (H.out.on K1.out).cells (by omega)
      have hat := Nms.at (H.out.on K1.out) k hlt
      have HS := Lib.hid (fill_set HL.out hlt)
      have hgl := R1.out.lt
      have f0 := R1.out.free k
      obtain ⟨u, hu⟩ : ∃ u, wr.cell? ⟨g, k, none⟩ = some u := by
        rw [R1.out.at, List.getElem?_toArray, icl, List.getElem?_map, List.getElem?_eq_getElem (by rw [fill_len HL.out hk]; exact hlt)]
        exact ⟨_, rfl⟩
      generalize N.getD k default = e at *
      obtain ⟨es, ek⟩ := e
      obtain ⟨d0, d1⟩ := hat
      simp only at d0 d1 HS
      have hki : (k : Int) < (n : Int) := by omega
      go_wp2
      go_roundw
      case rel => exact ⟨k + 1, by omega, by go_num, by unfold Hid; rw [← HS.out]; exact (R1.out.setv k _).alloc _, (below_set1' K1.out (Nat.le_of_eq HG.out.symm) k _).alloc (by rw [← HG.out]; simp [World.setCell]; omega) _⟩
      case measure => simp [intOf]; omega
    · obtain rfl : k = n := by omega
      have R2 := Lib.hid (show Row wr g 3 (icl (inos N)).toArray by have := R1.out; rwa [fill_full HL.out] at this)
      have HI := Lib.hid (show (inos N).length = k by simp [inos, HL.out])
      have HP := Lib.hid (srt_perm (inos N)); have HQ := Lib.hid (srt_le (inos N))
      clear R1
      go_wp2_with fail
      refine (sort_n g k k (inos N) wr R2.out HI.out (by omega)).mono ?_
      rintro e w2 ⟨rfl, r2, o2⟩
      have R3 := Lib.hid r2
      have K2 := Lib.hid (K1.out.trans (o2.below (B := w.heap.size) K1.out.size (fun d hd => by rw [hd, HG.out]; exact Nat.le_refl _)))
      clear r2 o2 R2
      have HSl := Lib.hid (show (srt (inos N)).length = k by rw [HP.out.length_eq, HI.out])
      have HJ := Lib.hid (pair_iff (N := N) (D := Z.map Nz.d) HP.out HQ.out)
      generalize srt (inos N) = S at *
      go_wp2_with fail
      refine (compact_n g k k S w2 R3.out HQ.out HSl.out (by omega) (Nat.le_refl _)).mono ?_
      rintro e w3 ⟨m, rfl, hm, h1, h2, o3⟩
      have K3 := Lib.hid (K2.out.trans (o3.below (B := w.heap.size) K2.out.size (fun d hd => by rw [hd, HG.out]; exact Nat.le_refl _)))
      have H2 := Lib.hid h2
      clear o3 h2
      by_cases hst : S.Pairwise (· < ·)
      · obtain ⟨hm1, r3⟩ := h1 hst
        have hmk : m = k := by rw [hm1, HSl.out]
        subst hmk
        have HU := Lib.hid (show Nums .i64 w3 (some ⟨g, 0, none⟩) m m S by
          have := nums_of_row r3 (c := S.length) (Nat.le_refl _) (by rw [HSl.out]; unfold maxLen; omega)
          rwa [HSl.out] at this)
        obtain ⟨y, hy⟩ : ∃ y, decide (S = Z.map Nz.ino) = y := ⟨_, rfl⟩
        have HY := Lib.hid hy
        have HZ2 := Lib.hid (show y = z by
          rw [Bool.eq_iff_iff, ← HZ.out, ← HJ.out, ← hy, decide_eq_true_eq, inos_d]
          exact ⟨fun h => ⟨hst, h⟩, fun h => h.2⟩)
        clear hy hm hm1 h1 r3 hst
        go_wp2_with fail
        refine (eqf_any _ _ _ S A' n' c' Z w3 HU.out (H'.out.on K3.out) (by omega) y HY.out).mono ?_
        rintro e w4 ⟨rfl, k4⟩
        have K4 := Lib.hid (K3.out.trans (k4.mono K3.out.size))
        clear k4
        go_wp2
        go_ret
        exact ⟨ret_bool HZ2.out, K4.out⟩
      · have hmk : m < k := by have := H2.out hst; rwa [HSl.out] at this
        have HZ2 := Lib.hid (show false = z by
          cases hz : z with
          | false => rfl
          | true => exact absurd (HJ.out.2 (HZ.out.2 hz)).1 hst)
        have hne : ¬ ((m : Int) = (k : Int)) := by omega
        clear h1 hm hst
        go_wp2
        go_ret
        exact ⟨ret_bool HZ2.out, K3.out⟩
end Go.Proofs.YtgaaieipeiekiaaGreat

namespace Go.Proofs.YtgaaieipeiekiaaGreat
open Go.RowKit
set_option maxRecDepth 100000

theorem nle_is (a b : ByteArray) : (Op.bytesLess a.toList b.toList || a.toList == b.toList) = !nlt b a := by
  cases h : nlt a b with
  | false => exact bl_le h
  | true =>
    have h' : Op.bytesLess a.toList b.toList = true := h
    have hh : nlt b a = false := ordN.asym (a := a) (b := b) h
    rw [h', Bool.true_or, hh]; rfl
/-- The first k names are right. -/
structure NamesTo (N : List Nm) (k : Nat) : Prop where
  name : ∀ x ∈ N.take k, okName x.name = true
  ino : ∀ x ∈ N.take k, okIno x.ino = true
  rise : Rise ordN Nm.name (N.take k)
theorem names_zero (N : List Nm) : NamesTo N 0 := ⟨by simp, by simp, by simp [Rise]⟩
theorem names_all {N : List Nm} (h : NamesTo N N.length) (hl : N.length ≤ 16) : NamesOk N := by
  obtain ⟨h1, h2, h3⟩ := h
  rw [List.take_length] at h1 h2 h3
  exact ⟨hl, h1, h2, h3⟩
theorem names_succ {N : List Nm} {k : Nat} (hk : k < N.length) (h : NamesTo N k) (h1 : okName (N.getD k default).name = true) (h2 : okIno (N.getD k default).ino = true) (h3 : 0 < k → nlt (N.getD (k - 1) default).name (N.getD k default).name = true) : NamesTo N (k + 1) :=
  ⟨fun x hx => (mem_take_succ hk hx).elim (h.name x) (fun e => by rw [e]; exact h1), fun x hx => (mem_take_succ hk hx).elim (h.ino x) (fun e => by rw [e]; exact h2), rise_succ hk h.rise h3⟩

set_option maxHeartbeats 8000000 in
theorem names_any (A : Option Addr) (n c : Nat) (N : List Nm) (w : World) (h : Nms w A n c N) (hs : ∀ x ∈ N, x.name.size ≤ maxLen) (z : Bool) (hz : NamesOk N ↔ z = true) :
    Calls Tryz.prog 37 #[.slice A n c] w (TruthPost z w) := by
  have H := Lib.hid h; have HZ := Lib.hid hz; have HS := Lib.hid hs
  have HL := Lib.hid h.len
  have hm := h.max
  clear h hz hs
  by_cases h16 : n ≤ 16
  · have HF := Lib.hid (show ¬ NamesOk N → z = false from fun h => by cases hz : z with | false => rfl | true => exact absurd (HZ.out.2 hz) h)
    go_enter Tryz.func37, Tryz.ntmps37
    go_wp2
    go_loopw [10] (fun i wr => ∃ k : Nat, k ≤ n ∧ i = .int .i64 k ∧ Hid (NamesTo N k) ∧ Hid (Below w.heap.size w wr)) (fun i _ => n - (intOf i).toNat)
    case atStart => exact ⟨0, Nat.zero_le _, rfl, names_zero N, Below.refl _ _⟩
    case round =>
      obtain ⟨k, hk, rfl, HT, K1⟩ := hrel
      by_cases hlt : k < n
      · obtain ⟨b, o, rfl, hb, _⟩ := (H.out.on K1.out).cells (by omega)
        have hat := Nms.at (H.out.on K1.out) k hlt
        have HN := Lib.hid (names_succ (by rw [HL.out]; exact hlt) HT.out)
        have HM := Lib.hid (H.out.mem k hlt)
        have HA := Lib.hid (show 0 < k → NamesOk N → nlt (N.getD (k - 1) default).name (N.getD k default).name = true from fun h0 h => rise_adj h.rise h0 (by rw [HL.out]; exact hlt))
        have HB := Lib.hid (show 0 < k → wr.cell? ⟨b, o + (k - 1) * 2, none⟩ = some (.string (N.getD (k - 1) default).name) from fun h0 => (Nms.at (H.out.on K1.out) (k - 1) (by omega)).1)
        have hki : (k : Int) < (n : Int) := by omega
        generalize N.getD k default = e at *
        generalize N.getD (k - 1) default = p at *
        obtain ⟨es, ek⟩ := e
        obtain ⟨ps, pk⟩ := p
        obtain ⟨d0, d1⟩ := hat
        simp only at d0 d1 HN HA HB
        have he := HS.out _ HM.out
        simp only at he
        have HE := Lib.hid he
        clear he
        have KW := Lib.hid (show Below w.heap.size w (wr.alloc (.cells #[.string es, .int .i64 ek] 62)) from K1.out.alloc K1.out.size _)
        obtain ⟨y1, hy1⟩ : ∃ y, okName es = y := ⟨_, rfl⟩
        have HY1 := Lib.hid hy1
        clear hy1
        cases y1 with
        | false =>
          have HX := Lib.hid (HF.out fun h => by have := h.name _ HM.out; simp only at this; rw [HY1.out] at this; cases this)
          go_wp2
          go_quiet (first | (go_at_call 13; with_reducible exact quiet_mine (name_any es _ HE.out false HY1.out)))
          go_wp2
          go_ret
          exact ⟨ret_bool HX.out.symm, below_drewN KW.out _⟩
        | true =>
          obtain ⟨y2, hy2⟩ : ∃ y, okIno ek = y := ⟨_, rfl⟩
          have HY2 := Lib.hid hy2
          clear hy2
          cases y2 with
          | false =>
            have HX := Lib.hid (HF.out fun h => by have := h.ino _ HM.out; simp only at this; rw [HY2.out] at this; cases this)
            go_wp2
            go_quiet (first | (go_at_call 13; with_reducible exact quiet_mine (name_any es _ HE.out true HY1.out)) | (go_at_call 63; with_reducible exact quiet_mine (ino_any ek _ false HY2.out)))
            go_wp2
            go_ret
            exact ⟨ret_bool HX.out.symm, below_drewN KW.out _⟩
          | true =>
            rcases Nat.eq_zero_or_pos k with hk0 | hk0
            · have HN1 := Lib.hid (HN.out HY1.out HY2.out (fun h => absurd h (by omega)))
              have hk1 : decide ((0 : Int) < (k : Int)) = false := by simp; omega
              have hk2 : decide (0 < k) = false := by simp; omega
              have hk3 : ¬ 0 < k := by omega
              replace hk0 := Lib.hid hk0
              go_wp2
              go_quiet (first | (go_at_call 13; with_reducible exact quiet_mine (name_any es _ HE.out true HY1.out)) | (go_at_call 63; with_reducible exact quiet_mine (ino_any ek _ true HY2.out)))
              go_wp2
              go_roundw
              case rel => exact ⟨k + 1, by omega, by go_num, HN1.out, below_drewN KW.out _⟩
              case measure => simp [intOf]; omega
            · have c9 := HB.out hk0
              have hk1 : (0 : Int) < (k : Int) := by omega
              have hk2 : (0 : Int) ≤ (k : Int) - 1 := by omega
              have hk3 : (k : Int) - 1 < (n : Int) := by omega
              have hk4 : ((k : Int) - 1).toNat = k - 1 := by omega
              have hk5 : IntKind.i64.wrap ((k : Int) - 1) = (k : Int) - 1 := by rw [IntKind.wrap_i64]; omega
              obtain ⟨y3, hy3⟩ : ∃ y, nlt ps es = y := ⟨_, rfl⟩
              have hle := nle_is es ps
              rw [hy3] at hle
              have HY3 := Lib.hid hy3
              clear hy3
              cases y3 with
              | true =>
                have HN1 := Lib.hid (HN.out HY1.out HY2.out (fun _ => HY3.out))
                go_wp2
                go_quiet (first | (go_at_call 13; with_reducible exact quiet_mine (name_any es _ HE.out true HY1.out)) | (go_at_call 63; with_reducible exact quiet_mine (ino_any ek _ true HY2.out)))
                go_wp2
                go_roundw
                case rel => exact ⟨k + 1, by omega, by go_num, HN1.out, below_drewN KW.out _⟩
                case measure => simp [intOf]; omega
              | false =>
                have HX := Lib.hid (HF.out fun h => by have := HA.out hk0 h; rw [HY3.out] at this; cases this)
                go_wp2
                go_quiet (first | (go_at_call 13; with_reducible exact quiet_mine (name_any es _ HE.out true HY1.out)) | (go_at_call 63; with_reducible exact quiet_mine (ino_any ek _ true HY2.out)))
                go_wp2
                go_ret
                exact ⟨ret_bool HX.out.symm, below_drewN KW.out _⟩
      · have hkn : k = n := by omega
        have HX := Lib.hid (show z = true by
          refine HZ.out.1 (names_all ?_ (by rw [HL.out]; exact h16))
          have := HT.out
          rwa [hkn, ← HL.out] at this)
        clear hkn
        go_wp2
        go_ret
        exact ⟨ret_bool HX.out.symm, K1.out⟩
  · have HX := Lib.hid (show z = false by
      cases hz : z with
      | false => rfl
      | true => have := (HZ.out.2 hz).len; rw [HL.out] at this; exact absurd this h16)
    have h17 : (16 : Int) < (n : Int) := by omega
    go_enter Tryz.func37, Tryz.ntmps37
    go_wp2
    go_ret
    exact ⟨ret_bool HX.out.symm, Below.refl _ _⟩
end Go.Proofs.YtgaaieipeiekiaaGreat

namespace Go.Proofs.YtgaaieipeiekiaaGreat
open Go.RowKit
set_option maxRecDepth 100000

set_option maxHeartbeats 400000 in
theorem notmay_any (i s : Int) (A : Option Addr) (n c : Nat) (L : List Ex) (w : World) (h : Exts w A n c L) (z : Bool) (hz : (!may s L) = z) : Calls Tryz.prog 40 #[.agg #[.int .i64 i, .int .i64 s, .slice A n c]] w (TruthPost z w) := by
  have HZ := Lib.hid hz
  have K1 := Lib.hid (show Below w.heap.size w (w.alloc (.cells #[.int .i64 i, .int .i64 s, .slice A n c] 59)) from (Below.refl _ _).alloc (Nat.le_refl _) _)
  have H1 := Lib.hid (h.on K1.out)
  clear h hz
  go_enter Tryz.func40, Tryz.ntmps40
  go_wp2_with fail
  obtain ⟨y, hy⟩ : ∃ y, may s L = y := ⟨_, rfl⟩
  refine (may_any s A n c L _ H1.out y hy).mono ?_
  rintro e w1 ⟨rfl, k1⟩
  have K2 := Lib.hid (K1.out.trans (k1.mono K1.out.size))
  have HY := Lib.hid hy
  clear k1 hy
  cases y with
  | true =>
    go_wp2
    go_ret
    exact ⟨ret_bool (by rw [← HZ.out, HY.out]; rfl), K2.out⟩
  | false =>
    go_wp2
    go_ret
    exact ⟨ret_bool (by rw [← HZ.out, HY.out]; rfl), K2.out⟩

set_option maxHeartbeats 1000000 in
theorem indexz_any (A : Option Addr) (n c : Nat) (Z : List Nz) (w : World) (h : Nds w A n c Z) (hx : ∀ z ∈ Z, Exts w z.A z.n z.c z.L) : Calls Tryz.prog 68 #[.slice A n c, .func (.func 40) #[] #[]] w (FoundPost (Z.any fun z => !may z.s z.L) w) := by
  have H := Lib.hid h; have HX := Lib.hid hx
  have HL := Lib.hid h.len
  have hm := h.max
  clear h hx
  go_enter Tryz.func68, Tryz.ntmps68
  go_wp2
  go_loopw [8] (fun i wr => ∃ j : Nat, j ≤ n ∧ i = .int .i64 j ∧ Hid (((Z.take j).any fun z => !may z.s z.L) = false) ∧ Hid (Below w.heap.size w wr)) (fun i _ => n - (intOf i).toNat)
  case atStart => exact ⟨0, Nat.zero_le _, rfl, by simp [Hid], Below.refl _ _⟩
  case round =>
    obtain ⟨j, hj, rfl, HT, K1⟩ := hrel
    by_cases hlt : j < n
    · obtain ⟨b, o, rfl, hb, _⟩ := (H.out.on K1.out).cells (by omega)
      have hat := Nds.at (H.out.on K1.out) j hlt
      have HM := Lib.hid (H.out.mem j hlt)
      have HE := Lib.hid ((HX.out _ HM.out).on K1.out)
      have HS := Lib.hid (show (Z.take (j + 1)).any (fun z => !may z.s z.L) = !may (Z.getD j default).s (Z.getD j default).L by
        rw [getD_take Z j (by rw [HL.out]; exact hlt), List.any_append, HT.out]
        simp)
      have HI := Lib.hid (show (!may (Z.getD j default).s (Z.getD j default).L) = true → (Z.any fun z => !may z.s z.L) = true from fun hz => List.any_eq_true.2 ⟨_, HM.out, hz⟩)
      have hji : (j : Int) < (n : Int) := by omega
      generalize Z.getD j default = e at *
      obtain ⟨ek, es, eA, en, ec, eL⟩ := e
      obtain ⟨c0, c1, c2⟩ := hat
      simp only at c0 c1 c2 HS HI HE
      obtain ⟨y, hy⟩ : ∃ y, (!may es eL) = y := ⟨_, rfl⟩
      have HY := Lib.hid hy
      clear hy
      cases y with
      | false =>
        go_wp2_with (go_at_call 40; refine (notmay_any ek es eA en ec eL _ HE.out false HY.out).mono ?_; rintro e' w2 ⟨rfl, k2⟩; have K2 := Lib.hid (K1.out.trans (k2.mono K1.out.size)); clear k2)
        go_roundw
        case rel => exact ⟨j + 1, by omega, by go_num, by unfold Hid; rw [HS.out, HY.out], K2.out⟩
        case measure => simp [intOf]; omega
      | true =>
        go_wp2_with (go_at_call 40; refine (notmay_any ek es eA en ec eL _ HE.out true HY.out).mono ?_; rintro e' w2 ⟨rfl, k2⟩; have K2 := Lib.hid (K1.out.trans (k2.mono K1.out.size)); clear k2)
        go_ret
        exact found_post (by rw [HI.out HY.out]; simp) K2.out
    · have hjn : j = n := by omega
      have HF := Lib.hid (show (Z.any fun z => !may z.s z.L) = false by have := HT.out; rwa [hjn, ← HL.out, List.take_length] at this)
      go_wp2
      go_ret
      exact found_post (by rw [HF.out]; rfl) K1.out

set_option maxHeartbeats 400000 in
theorem hasz_any (A : Option Addr) (n c : Nat) (Z : List Nz) (w : World) (h : Nds w A n c Z) (hx : ∀ z ∈ Z, Exts w z.A z.n z.c z.L) (z : Bool) (hz : (Z.any fun z => !may z.s z.L) = z) : Calls Tryz.prog 39 #[.slice A n c, .func (.func 40) #[] #[]] w (TruthPost z w) := by
  subst hz
  have H := Lib.hid h; have HX := Lib.hid hx
  clear h hx
  go_enter Tryz.func39, Tryz.ntmps39
  go_wp2_with fail
  refine (indexz_any A n c Z w H.out HX.out).mono ?_
  rintro e w1 ⟨i, rfl, hi, k⟩
  have HI := Lib.hid hi; have K := Lib.hid k
  clear hi k
  by_cases h0 : 0 ≤ i
  · go_wp2
    go_ret
    exact ⟨by rw [← HI.out]; simp [h0], K.out⟩
  · go_wp2
    go_ret
    exact ⟨by rw [← HI.out]; simp, K.out⟩

theorem cont_is (Z : List Nz) : ((Z.any fun z => !may z.s z.L) = false) ↔ ∀ d ∈ Z.map Nz.d, may d.s d.L = true := by
  rw [List.any_eq_false]
  simp only [Bool.not_eq_true', Bool.not_eq_false, List.mem_map]
  constructor
  · rintro h d ⟨z, hz, rfl⟩; exact h z hz
  · intro h z hz; exact h _ ⟨z, hz, rfl⟩

set_option maxHeartbeats 2000000 in
theorem mayi_any (A : Option Addr) (n c : Nat) (A' : Option Addr) (n' c' : Nat) (N : List Nm) (Z : List Nz) (w : World) (h : Im w A n c A' n' c' N Z) (z : Bool) (hz : GoodI (ig N Z) ↔ z = true) :
    Calls Tryz.prog 15 #[iv A n c A' n' c'] w (TruthPost z w) := by
  have HZ := Lib.hid hz
  have K0 := Lib.hid (show Below w.heap.size w (w.alloc (.cells #[.slice A n c, .slice A' n' c'] 25)) from (Below.refl _ _).alloc (Nat.le_refl _) _)
  have B0 := Lib.hid (ibox_new w A n c A' n' c')
  have H0 := Lib.hid (h.on K0.out)
  clear h hz
  show Calls Tryz.prog 15 #[.agg #[.slice A n c, .slice A' n' c']] w _
  go_enter Tryz.func15, Tryz.ntmps15
  go_wp2_with fail
  obtain ⟨y1, hy1⟩ : ∃ y : Bool, (NamesOk N ↔ y = true) := by
    by_cases hc : NamesOk N
    · exact ⟨true, by simp [hc]⟩
    · exact ⟨false, by simp [hc]⟩
  refine (names_any A n c N _ H0.out.names H0.out.str y1 hy1).mono ?_
  rintro e w1 ⟨rfl, k1⟩
  have HY1 := Lib.hid hy1
  have K1 := Lib.hid (K0.out.trans (k1.mono K0.out.size))
  have B1 := Lib.hid (B0.out.on k1)
  have H1 := Lib.hid (H0.out.on k1)
  clear k1 hy1 B0
  have c0 := B1.out.c0; have c1 := B1.out.c1
  cases y1 with
  | false =>
    have HX := Lib.hid (show false = z by
      cases hz : z with
      | false => rfl
      | true => have := ((good_iff _).1 (HZ.out.2 hz)).1; exact HY1.out.1 this)
    go_wp2
    go_ret
    exact ⟨ret_bool HX.out, K1.out⟩
  | true =>
    obtain ⟨y2, hy2⟩ : ∃ y : Bool, (PairOk N (Z.map Nz.d) ↔ y = true) := by
      by_cases hc : PairOk N (Z.map Nz.d)
      · exact ⟨true, by simp [hc]⟩
      · exact ⟨false, by simp [hc]⟩
    have HN := Lib.hid (HY1.out.2 rfl)
    have hn : n ≤ 1000 := by have := HN.out.len; rw [H1.out.names.len] at this; omega
    go_wp2_with fail
    refine (paired_any A n c N A' n' c' Z w1 H1.out.names H1.out.nodes hn y2 hy2).mono ?_
    rintro e w2 ⟨rfl, k2⟩
    have HY2 := Lib.hid hy2
    have K2 := Lib.hid (K1.out.trans (k2.mono K1.out.size))
    have B2 := Lib.hid (B1.out.on k2)
    have H2 := Lib.hid (H1.out.on k2)
    clear k2 hy2 c0 c1 B1
    have c0 := B2.out.c0; have c1 := B2.out.c1
    cases y2 with
    | false =>
      have HX := Lib.hid (show false = z by
        cases hz : z with
        | false => rfl
        | true => have := ((good_iff _).1 (HZ.out.2 hz)).2.1; exact HY2.out.1 this)
      go_wp2
      go_ret
      exact ⟨ret_bool HX.out, K2.out⟩
    | true =>
      obtain ⟨y3, hy3⟩ : ∃ y, (Z.any fun z => !may z.s z.L) = y := ⟨_, rfl⟩
      go_wp2_with fail
      refine (hasz_any A' n' c' Z w2 H2.out.nodes H2.out.exts y3 hy3).mono ?_
      rintro e w3 ⟨rfl, k3⟩
      have HY3 := Lib.hid hy3
      have K3 := Lib.hid (K2.out.trans (k3.mono K2.out.size))
      have HX := Lib.hid (show (!y3) = z by
        rw [Bool.eq_iff_iff, ← HZ.out, good_iff, Bool.not_eq_true', ← HY3.out, cont_is]
        exact ⟨fun h => ⟨HN.out, HY2.out.2 (by first | rfl | trivial), h⟩, fun h => h.2.2⟩)
      clear k3 hy3
      cases y3 with
      | true =>
        go_wp2
        go_ret
        exact ⟨ret_bool HX.out, K3.out⟩
      | false =>
        go_wp2
        go_ret
        exact ⟨ret_bool HX.out, K3.out⟩
end Go.Proofs.YtgaaieipeiekiaaGreat

namespace Go.Proofs.YtgaaieipeiekiaaGreat
open Go.RowKit
set_option maxRecDepth 100000

set_option maxHeartbeats 8000000 in
theorem all_any (A : Option Addr) (c : Nat) (A' : Option Addr) (c' : Nat) (N : List Nm) (Z : List Nz) (OA : Option Addr) (on oc : Nat) (L : List Om) (K : Nat) (w : World) (h : Im w A N.length c A' Z.length c' N Z) (hn : N.length ≤ 1000) (hk : Z.length ≤ 1000) (hl : Lens K (ig N Z)) (ho : OpsIn w OA on oc L) (hs : ∀ x ∈ L, Small x.o) (hK : K + 60 * on ≤ 10000) (z : Bool) (hz : GoodI (ig N Z) ↔ z = true) (I : Ig) (hT : z = true → allS (ig N Z) (L.map Om.o) = I) (hF : z = false → ig N Z = I) :
    Calls Tryz.prog 27 #[iv A N.length c A' Z.length c', .slice OA on oc] w (AllPost I w) := by
  obtain ⟨W, hW⟩ : ∃ W, entry w A N.length c A' Z.length c' = W := ⟨_, rfl⟩
  have HW := Lib.hid (show (w.alloc (.cells #[.slice A N.length c, .slice A' Z.length c'] 25)).alloc (.cells #[.slice none 0 0, .slice none 0 0] 25) = W from hW)
  have KW := Lib.hid (show Below w.heap.size w W by rw [← hW]; exact entry_below _ _ _ _ _ _ _)
  have B0 := Lib.hid (show IBox W w.heap.size A N.length c A' Z.length c' by
    rw [← hW]; exact (ibox_new w _ _ _ _ _ _).on ((Below.refl _ _).alloc (Nat.le_refl _) _))
  have R0 := Lib.hid (show IBox W (w.heap.size + 1) none 0 0 none 0 0 by
    rw [← hW]
    have := ibox_new (w.alloc (.cells #[.slice A N.length c, .slice A' Z.length c'] 25)) none 0 0 none 0 0
    simpa [entry] using this)
  have HS := Lib.hid (show W.heap.size = w.heap.size + 2 by rw [← hW]; simp [entry])
  have H := Lib.hid (h.on KW.out); have HO := Lib.hid ho; have HL := Lib.hid hl; have HZ := Lib.hid hz; have HT := Lib.hid hT; have HF := Lib.hid hF; have HSm := Lib.hid hs
  have HLn := Lib.hid ho.sl.len
  have hom := ho.sl.max
  clear h hl hW ho hz hT hF hs
  show Calls Tryz.prog 27 #[.agg #[.slice A N.length c, .slice A' Z.length c'], .slice OA on oc] w _
  go_enter Tryz.func27, Tryz.ntmps27
  go_upto_region 1 with fail
  rw [HW.out]
  have b0 := B0.out.c0; have b1 := B0.out.c1
  go_wp2_with fail
  refine (renewed_any A c A' c' N Z W H.out hn hk (lens_z (K := 1000000) (fun d hd => by have := HL.out d hd; omega) H.out.exts)).mono ?_
  rintro e w1 ⟨D, d, D', d', Y, he, hmap, him, k1⟩
  obtain rfl : e = .returned (.agg #[.slice D N.length d, .slice D' Y.length d']) := he
  obtain ⟨W2, hW2⟩ : ∃ W2, w1.alloc (.cells #[.slice D N.length d, .slice D' Y.length d'] 25) = W2 := ⟨_, rfl⟩
  have KW2 := Lib.hid (show Below w1.heap.size w1 W2 by rw [← hW2]; exact (Below.refl _ _).alloc (Nat.le_refl _) _)
  have HIG := Lib.hid (show ig N Y = ig N Z by unfold ig; rw [hmap])
  have HIM := Lib.hid him; have K1 := Lib.hid k1
  have A0 := Lib.hid (fun L' => show Al w W2 w1.heap.size (ig N Z) L' K 0 D d D' d' N Y from ⟨HIG.out, by rw [HIG.out]; exact HL.out, by rw [← HS.out]; exact him.on KW2.out, by rw [← hW2]; exact ibox_new _ _ _ _ _ _ _, (R0.out.on k1).on KW2.out, (KW.out.trans (k1.mono KW.out.size)).trans (KW2.out.mono (by have := k1.size; have := KW.out.size; omega)), by have := k1.size; have := HS.out; omega⟩)
  have HW2 := Lib.hid hW2
  obtain ⟨q, hq⟩ : ∃ q, w1.heap.size = q := ⟨_, rfl⟩
  rw [hq] at A0
  have HQ := Lib.hid hq
  clear hW2 hmap him k1 b0 b1 hq
  go_upto_region 2 with fail
  rw [HW2.out, HQ.out]
  have b0 := (A0.out []).box.c0; have b1 := (A0.out []).box.c1
  go_wp2_with fail
  refine (mayi_any D N.length d D' Y.length d' N Y W2 (A0.out []).img.im z (by rw [HIG.out]; exact HZ.out)).mono ?_
  rintro e w3 ⟨rfl, k3⟩
  have A1 := Lib.hid (fun L' => (A0.out L').on k3)
  clear k3 A0 b0 b1
  have b0 := (A1.out []).box.c0; have b1 := (A1.out []).box.c1
  cases z with
  | false =>
    have r0 := (A1.out []).res.c0; have r1 := (A1.out []).res.c1; have g0 := (A1.out []).res.f0; have g1 := (A1.out []).res.f1
    go_wp2
    have X := (A1.out []).done rfl
    have hI : allS (ig N Z) ([].map Om.o) = I := HF.out (by first | rfl | trivial)
    rw [hI] at X
    exact res_ibox rfl (w.heap.size + 1) _ _ _ _ _ _ rfl X.1 rfl X.2
  | true =>
    have HG := Lib.hid (HZ.out.2 (by first | rfl | trivial))
    have HI := Lib.hid (HT.out (by first | rfl | trivial))
    go_wp2
    go_loopw [16] (fun i wr => ∃ (j : Nat) (D : Option Addr) (d : Nat) (D' : Option Addr) (d' : Nat) (M : List Nm) (Y : List Nz), j ≤ on ∧ i = .int .i64 j ∧ Hid (Al w wr q (ig N Z) L K j D d D' d' M Y)) (fun i _ => on - (intOf i).toNat)
    case atStart => exact ⟨0, D, d, D', d', N, Y, Nat.zero_le _, rfl, A1.out L⟩
    case round =>
      clear A1 b0 b1 HIM HIG KW2 HW2 HQ K1
      obtain ⟨j, D, d, D', d', M, Y, hj, rfl, X⟩ := hrel
      by_cases hlt : j < on
      · have HOr := Lib.hid (HO.out.on X.out.below)
        obtain ⟨b, o, rfl, hb, _⟩ := HOr.out.sl.cells (by omega)
        have hat := Ops.at HOr.out.sl j hlt
        have hji : (j : Int) < (on : Int) := by omega
        have HOp := Lib.hid (HOr.out.op _ (HOr.out.sl.mem j hlt))
        have HNx := Lib.hid (fun w' (k : Below wr.heap.size wr w') w2 F f F' f' M2 Y2 hi n => (X.out.on k).next (w2 := w2) (F := F) (f := f) (F' := F') (f' := f') (M2 := M2) (Y2 := Y2) HG.out (by rw [HLn.out]; exact hlt) HSm.out hi n)
        have hjK : K + 60 * j ≤ 10000 := by omega
        generalize L.getD j default = x at *
        obtain ⟨x, xA, xc⟩ := x
        simp only at hat HOp HNx
        obtain ⟨e0, e1, e2, e3, e4, e5, e6, e7⟩ := hat
        go_upto_region 7 with fail
        obtain ⟨W3, hW3⟩ : ∃ W3, wr.alloc (.cells #[.int .i64 x.kind, .int .i64 x.ino, .int .i64 x.pos, .int .i64 x.size, .bool x.keep, .string x.name, .string x.to, .slice xA x.bs.length xc] 42) = W3 := ⟨_, rfl⟩
        have K3 := Lib.hid (show Below wr.heap.size wr W3 by rw [← hW3]; exact (Below.refl _ _).alloc (Nat.le_refl _) _)
        have O3 := Lib.hid (show OBox W3 wr.heap.size x xA xc by rw [← hW3]; exact obox_new _ _ _ _)
        have HW3 := Lib.hid hW3
        have X3 := Lib.hid (X.out.on K3.out)
        have HOp3 := Lib.hid (HOp.out.on K3.out)
        clear hW3 e0 e1 e2 e3 e4 e5 e6 e7
        rw [HW3.out]
        have b0 := X3.out.box.c0; have b1 := X3.out.box.c1
        have e0 := O3.out.c0; have e1 := O3.out.c1; have e2 := O3.out.c2; have e3 := O3.out.c3; have e4 := O3.out.c4; have e5 := O3.out.c5; have e6 := O3.out.c6; have e7 := O3.out.c7
        go_wp2_with fail
        refine (changed_any (w.heap.size + 2) D d D' d' M Y x xA xc W3 X3.out.img (by rw [X3.out.is]; exact good_all HG.out _) (lens_z (K := 10000) (fun a ha => Nat.le_trans (X3.out.lens a ha) hjK) X3.out.img.exts) HOp3.out (Nat.le_trans (by have := X3.out.res.lt; omega) (Nat.le_refl W3.heap.size))).mono ?_
        rintro e w4 ⟨M2, Y2, hi2, F, f, F', f', he, n4⟩
        obtain rfl : e = .returned (.agg #[.slice F M2.length f, .slice F' Y2.length f']) := he
        have XN := Lib.hid (HNx.out W3 K3.out _ _ _ _ _ _ _ hi2 n4)
        obtain ⟨sb, sr⟩ := X3.out.seen n4.only
        clear n4 hi2 b0 b1 e0 e1 e2 e3 e4 e5 e6 e7
        have b0 := sb.c0; have b1 := sb.c1; have f0 := sb.f0; have f1 := sb.f1
        clear sb sr
        go_wp2
        go_roundw
        case rel => exact ⟨j + 1, F, f, F', f', M2, Y2, by omega, by go_num, XN.out⟩
        case measure => simp [intOf]; omega
      · have hjn : j = on := by omega
        have b0 := X.out.box.c0; have b1 := X.out.box.c1
        have r0 := X.out.res.c0; have r1 := X.out.res.c1; have g0 := X.out.res.f0; have g1 := X.out.res.f1
        have HX := Lib.hid (X.out.done (by rw [HLn.out, hjn]))
        clear hjn
        go_wp2
        have Q := HX.out
        rw [HI.out] at Q
        exact res_ibox rfl (w.heap.size + 1) _ _ _ _ _ _ rfl Q.1 rfl Q.2
end Go.Proofs.YtgaaieipeiekiaaGreat

namespace Go.Proofs.YtgaaieipeiekiaaGreat
open Go.RowKit
set_option maxRecDepth 100000

theorem vo_boxes (w : World) (A : Option Addr) (n c : Nat) (A' : Option Addr) (n' c' : Nat) (o : Opv) (BA : Option Addr) (cb : Nat) : IBox (vo w A n c A' n' c' o BA cb) w.heap.size A n c A' n' c' ∧ OBox (vo w A n c A' n' c' o BA cb) (w.heap.size + 1) o BA cb ∧ IBox (vo w A n c A' n' c' o BA cb) (w.heap.size + 2) none 0 0 none 0 0 := by
  refine ⟨?_, ?_, ?_⟩
  · unfold vo
    exact (ibox_new w _ _ _ _ _ _).on (((Below.refl _ _).alloc (Nat.le_refl _) _).alloc (by simp) _)
  · unfold vo
    have := (obox_new (w.alloc (.cells #[.slice A n c, .slice A' n' c'] 25)) o BA cb).on ((Below.refl _ _).alloc (Nat.le_refl _) (.cells #[.slice none 0 0, .slice none 0 0] 25))
    simpa using this
  · unfold vo
    have := ibox_new ((w.alloc (.cells #[.slice A n c, .slice A' n' c'] 25)).alloc (.cells #[.int .i64 o.kind, .int .i64 o.ino, .int .i64 o.pos, .int .i64 o.size, .bool o.keep, .string o.name, .string o.to, .slice BA o.bs.length cb] 42)) none 0 0 none 0 0
    simpa using this

set_option maxHeartbeats 8000000 in
theorem apply_any (A : Option Addr) (c : Nat) (A' : Option Addr) (c' : Nat) (N : List Nm) (Z : List Nz) (o : Opv) (BA : Option Addr) (cb : Nat) (K : Nat) (w : World) (h : Im w A N.length c A' Z.length c' N Z) (hn : N.length ≤ 1000) (hk : Z.length ≤ 1000) (hl : Lens K (ig N Z)) (ho : OpIn w o BA cb) (hs : Small o) (hK : K + 60 ≤ 10000) (z : Bool) (hz : GoodI (ig N Z) ↔ z = true) (I : Ig) (hT : z = true → applyS (ig N Z) o = I) (hF : z = false → ig N Z = I) :
    Calls Tryz.prog 23 #[iv A N.length c A' Z.length c', ov o BA cb] w (AllPost I w) := by
  obtain ⟨W, hW⟩ : ∃ W, vo w A N.length c A' Z.length c' o BA cb = W := ⟨_, rfl⟩
  have HW := Lib.hid (show ((w.alloc (.cells #[.slice A N.length c, .slice A' Z.length c'] 25)).alloc (.cells #[.int .i64 o.kind, .int .i64 o.ino, .int .i64 o.pos, .int .i64 o.size, .bool o.keep, .string o.name, .string o.to, .slice BA o.bs.length cb] 42)).alloc (.cells #[.slice none 0 0, .slice none 0 0] 25) = W from hW)
  have KW := Lib.hid (show Below w.heap.size w W by rw [← hW]; exact (((Below.refl _ _).alloc (Nat.le_refl _) _).alloc (by simp) _).alloc (by simp; omega) _)
  have HB := Lib.hid (show IBox W w.heap.size A N.length c A' Z.length c' ∧ OBox W (w.heap.size + 1) o BA cb ∧ IBox W (w.heap.size + 2) none 0 0 none 0 0 by
    rw [← hW]; exact vo_boxes _ _ _ _ _ _ _ _ _ _)
  have HS := Lib.hid (show W.heap.size = w.heap.size + 3 by rw [← hW]; simp [vo])
  have H := Lib.hid (h.on KW.out); have HO := Lib.hid (ho.on KW.out)
  clear h hW ho
  show Calls Tryz.prog 23 #[.agg #[.slice A N.length c, .slice A' Z.length c'], .agg #[.int .i64 o.kind, .int .i64 o.ino, .int .i64 o.pos, .int .i64 o.size, .bool o.keep, .string o.name, .string o.to, .slice BA o.bs.length cb]] w _
  go_enter Tryz.func23, Tryz.ntmps23
  go_upto_region 1 with fail
  rw [HW.out]
  have b0 := HB.out.1.c0; have b1 := HB.out.1.c1
  have o0 := HB.out.2.1.c0; have o1 := HB.out.2.1.c1; have o2 := HB.out.2.1.c2; have o3 := HB.out.2.1.c3; have o4 := HB.out.2.1.c4; have o5 := HB.out.2.1.c5; have o6 := HB.out.2.1.c6; have o7 := HB.out.2.1.c7
  go_wp2_with (with_reducible refine st_oneE tyO rfl (.tmp 6) rfl (⟨o, BA, cb⟩ : Om) rfl ?_; intro b w1 hb q1 k1; have K1 := Lib.hid k1; have Q1 := Lib.hid q1; clear q1 k1 hb)
  refine (all_any A c A' c' N Z (some ⟨b, 0, none⟩) 1 1 [⟨o, BA, cb⟩] K w1 (H.out.on K1.out) hn hk hl ⟨sl_one (E := elO) Q1.out, by simpa using HO.out.on K1.out⟩ (by simpa using hs) (by omega) z hz I hT hF).mono ?_
  rintro e w2 ⟨D, d, D', d', M, Y, hi, he, him, k2⟩
  obtain rfl : e = .returned (.agg #[.slice D M.length d, .slice D' Y.length d']) := he
  have R2 := Lib.hid ((HB.out.2.2.on K1.out).on k2)
  have KK := Lib.hid (KW.out.trans ((K1.out.trans (k2.mono K1.out.size)).mono KW.out.size))
  have HIM := Lib.hid him; have HI := Lib.hid hi
  have hsz := Nat.le_trans (Nat.le_of_eq HS.out.symm) K1.out.size
  clear him hi k2 b0 b1 o0 o1 o2 o3 o4 o5 o6 o7
  have r0 := R2.out.c0; have r1 := R2.out.c1; have g0 := R2.out.f0; have g1 := R2.out.f1
  go_wp2
  have ob := only_set2 w2 (w.heap.size + 2) (.slice D M.length d) (.slice D' Y.length d')
  refine res_ibox rfl (w.heap.size + 2) _ _ _ _ _ _ rfl (R2.out.put _ _ _ _ _ _) rfl ⟨D, d, D', d', M, Y, HI.out, rfl, (HIM.out.keep ob (fun g hg he => by have := (HIM.out.lt hg).1; omega) (fun z hz hn g p he h3 => by subst h3; have := HIM.out.exts z hz; rw [he] at this; exact exts_ibox this hn R2.out)).mono (by omega), KK.out.trans (ob.below KK.out.size (fun g hg => by omega))⟩
end Go.Proofs.YtgaaieipeiekiaaGreat

namespace Go.Proofs.YtgaaieipeiekiaaGreat
open Go.RowKit
set_option maxRecDepth 100000

def IntPost (k : Int) (y : Bool) (w : World) (e : Ending) (w' : World) : Prop := e = .returned (.tuple #[.int .i64 k, .bool y]) ∧ Below w.heap.size w w'
/-- What Find, Get, Used say. -/
def findS (N : List Nm) (name : ByteArray) : Int × Bool := match fnd Nm.name N name with | some x => (x.ino, true) | none => (0, false)
def getS (Z : List Nz) (k : Int) : (Int × List Ex) × Bool := match fnd Nz.ino Z k with | some z => ((z.s, z.L), true) | none => ((0, []), false)
def usedS (Z : List Nz) : Nat := (Z.map fun z => z.L.length).sum

set_option maxHeartbeats 4000000 in
theorem find_img (A : Option Addr) (c : Nat) (A' : Option Addr) (c' : Nat) (N : List Nm) (Z : List Nz) (name : ByteArray) (w : World) (h : Im w A N.length c A' Z.length c' N Z) (hn : N.length ≤ 1000) (z : Bool) (hz : GoodI (ig N Z) ↔ z = true) (k : Int) (y : Bool) (hT : z = true → findS N name = (k, y)) (hF : z = false → ((0 : Int), false) = (k, y)) :
    Calls Tryz.prog 9 #[iv A N.length c A' Z.length c', .string name] w (IntPost k y w) := by
  obtain ⟨W, hW⟩ : ∃ W, w.alloc (.cells #[.slice A N.length c, .slice A' Z.length c'] 25) = W := ⟨_, rfl⟩
  have KW := Lib.hid (show Below w.heap.size w W by rw [← hW]; exact (Below.refl _ _).alloc (Nat.le_refl _) _)
  have B0 := Lib.hid (show IBox W w.heap.size A N.length c A' Z.length c' by rw [← hW]; exact ibox_new _ _ _ _ _ _ _)
  have H := Lib.hid (h.on KW.out); have HZ := Lib.hid hz; have HT := Lib.hid hT; have HF := Lib.hid hF
  have HW := Lib.hid hW
  clear h hz hT hF hW
  show Calls Tryz.prog 9 #[.agg #[.slice A N.length c, .slice A' Z.length c'], .string name] w _
  go_enter Tryz.func9, Tryz.ntmps9
  go_upto_region 1 with fail
  rw [HW.out]
  have b0 := B0.out.c0; have b1 := B0.out.c1
  go_wp2_with fail
  refine (mayi_any A N.length c A' Z.length c' N Z W H.out z HZ.out).mono ?_
  rintro e w1 ⟨rfl, k1⟩
  have K1 := Lib.hid (KW.out.trans (k1.mono KW.out.size))
  have B1 := Lib.hid (B0.out.on k1); have H1 := Lib.hid (H.out.on k1)
  clear k1 b0 b1
  have b0 := B1.out.c0; have b1 := B1.out.c1
  cases z with
  | false =>
    obtain ⟨e1, e2⟩ := Prod.mk.inj (HF.out (by first | rfl | trivial))
    subst e1 e2
    go_wp2
    go_ret2
    exact ⟨rfl, K1.out⟩
  | true =>
    have HG := Lib.hid (HZ.out.2 (by first | rfl | trivial))
    have HK := Lib.hid (HT.out (by first | rfl | trivial))
    obtain ⟨i, hi⟩ : ∃ i, pl ordN Nm.name N name = i := ⟨_, rfl⟩
    obtain ⟨y', hy⟩ : ∃ z, (fnd Nm.name N name).isSome = z := ⟨_, rfl⟩
    have HI := Lib.hid hi; have HY := Lib.hid hy
    clear hi hy
    go_wp2_with fail
    refine (named_any A N.length c N name w1 H1.out.names HG.out.rise (by omega) i y' HI.out HY.out).mono ?_
    rintro e w2 ⟨rfl, k2⟩
    have K2 := Lib.hid (K1.out.trans (k2.mono K1.out.size))
    have B2 := Lib.hid (B1.out.on k2); have H2 := Lib.hid (H1.out.on k2)
    clear k2 b0 b1
    have b0 := B2.out.c0; have b1 := B2.out.c1
    cases y' with
    | false =>
      have HN := Lib.hid (show fnd Nm.name N name = none by have := HY.out; simpa using this)
      have hk := HK.out
      rw [findS, HN.out] at hk
      obtain ⟨e1, e2⟩ := Prod.mk.inj hk
      subst e1 e2
      clear hk
      go_wp2
      go_ret2
      exact ⟨rfl, K2.out⟩
    | true =>
      obtain ⟨x, hx⟩ : ∃ x, fnd Nm.name N name = some x := Option.isSome_iff_exists.1 HY.out
      obtain ⟨hil, hix⟩ := fnd_at HG.out.rise hx
      have e0 : pl ordN Nm.name (ig N Z).N name = i := HI.out
      rw [e0] at hil hix
      replace hil : i < N.length := hil
      replace hix : N.getD i default = x := hix
      obtain ⟨b, o, rfl, _, _⟩ := H2.out.names.cells (by omega)
      have hc := (Nms.at H2.out.names i hil).2
      rw [hix] at hc
      have hk := HK.out
      rw [findS, hx] at hk
      obtain ⟨e1, e2⟩ := Prod.mk.inj hk
      rw [e1] at hc
      subst e2
      have hil' : (i : Int) < (N.length : Int) := by omega
      clear hk hx hix e0 e1
      go_wp2
      go_ret2
      exact ⟨rfl, K2.out⟩

set_option maxHeartbeats 4000000 in
theorem get_img (A : Option Addr) (c : Nat) (A' : Option Addr) (c' : Nat) (N : List Nm) (Z : List Nz) (no : Int) (w : World) (h : Im w A N.length c A' Z.length c' N Z) (hn : Z.length ≤ 1000) (hl : ∀ z ∈ Z, z.n ≤ 1000000) (z : Bool) (hz : GoodI (ig N Z) ↔ z = true) (s : Int) (L : List Ex) (y : Bool) (hT : z = true → getS Z no = ((s, L), y)) (hF : z = false → (((0 : Int), ([] : List Ex)), false) = ((s, L), y)) :
    Calls Tryz.prog 11 #[iv A N.length c A' Z.length c', .int .i64 no] w (CtPost y s (fun M => M = L) w) := by
  obtain ⟨W, hW⟩ : ∃ W, (w.alloc (.cells #[.slice A N.length c, .slice A' Z.length c'] 25)).alloc (.cells #[.int .i64 0, .slice none 0 0] 32) = W := ⟨_, rfl⟩
  have KW := Lib.hid (show Below w.heap.size w W by rw [← hW]; exact ((Below.refl _ _).alloc (Nat.le_refl _) _).alloc (by simp) _)
  have B0 := Lib.hid (show IBox W w.heap.size A N.length c A' Z.length c' by rw [← hW]; exact (ibox_new _ _ _ _ _ _ _).on ((Below.refl _ _).alloc (Nat.le_refl _) _))
  have R0 := Lib.hid (show Box W (w.heap.size + 1) 0 none 0 0 by
    rw [← hW]
    have := box_new (w.alloc (.cells #[.slice A N.length c, .slice A' Z.length c'] 25)) 0 none 0 0
    simpa using this)
  have HS := Lib.hid (show W.heap.size = w.heap.size + 2 by rw [← hW]; simp)
  have H := Lib.hid (h.on KW.out); have HZ := Lib.hid hz; have HT := Lib.hid hT; have HF := Lib.hid hF; have HL := Lib.hid hl
  have HW := Lib.hid hW
  clear h hz hT hF hW hl
  show Calls Tryz.prog 11 #[.agg #[.slice A N.length c, .slice A' Z.length c'], .int .i64 no] w _
  go_enter Tryz.func11, Tryz.ntmps11
  go_upto_region 1 with fail
  rw [HW.out]
  have b0 := B0.out.c0; have b1 := B0.out.c1
  go_wp2_with fail
  refine (mayi_any A N.length c A' Z.length c' N Z W H.out z HZ.out).mono ?_
  rintro e w1 ⟨rfl, k1⟩
  have K1 := Lib.hid (KW.out.trans (k1.mono KW.out.size))
  have B1 := Lib.hid (B0.out.on k1); have H1 := Lib.hid (H.out.on k1); have R1 := Lib.hid (R0.out.on k1)
  have hs1 := Nat.le_trans (Nat.le_of_eq HS.out.symm) k1.size
  clear k1 b0 b1
  have b0 := B1.out.c0; have b1 := B1.out.c1; have r0 := R1.out.c0; have r1 := R1.out.c1; have g0 := R1.out.f0; have g1 := R1.out.f1
  cases z with
  | false =>
    obtain ⟨e0, e2⟩ := Prod.mk.inj (HF.out (by first | rfl | trivial))
    obtain ⟨e1, e3⟩ := Prod.mk.inj e0
    subst e1 e2 e3
    go_wp2
    have X := R1.out.put 0 none 0 0
    exact res_box2 rfl (w.heap.size + 1) 0 none 0 0 rfl X rfl ⟨none, 0, 0, [], rfl, rfl, mut_nil _ _, below_put K1.out _ (by omega) _ _⟩
  | true =>
    have HG := Lib.hid (HZ.out.2 (by first | rfl | trivial))
    have HK := Lib.hid (HT.out (by first | rfl | trivial))
    have HU := Lib.hid (rise_d.1 HG.out.up)
    obtain ⟨i, hi⟩ : ∃ i, pl ordI Nz.ino Z no = i := ⟨_, rfl⟩
    obtain ⟨y', hy⟩ : ∃ z, (fnd Nz.ino Z no).isSome = z := ⟨_, rfl⟩
    have HI := Lib.hid hi; have HY := Lib.hid hy
    clear hi hy r0 r1 g0 g1
    go_wp2_with fail
    refine (numbered_any A' Z.length c' Z no w1 H1.out.nodes HU.out (by omega) i y' HI.out HY.out).mono ?_
    rintro e w2 ⟨rfl, k2⟩
    have K2 := Lib.hid (K1.out.trans (k2.mono K1.out.size))
    have B2 := Lib.hid (B1.out.on k2); have H2 := Lib.hid (H1.out.on k2); have R2 := Lib.hid (R1.out.on k2)
    have hs2 := Nat.le_trans hs1 k2.size
    clear k2 b0 b1
    have b0 := B2.out.c0; have b1 := B2.out.c1
    cases y' with
    | false =>
      have HN := Lib.hid (show fnd Nz.ino Z no = none by have := HY.out; simpa using this)
      have hk := HK.out
      rw [getS, HN.out] at hk
      obtain ⟨e0, e2⟩ := Prod.mk.inj hk
      obtain ⟨e1, e3⟩ := Prod.mk.inj e0
      subst e1 e2 e3
      clear hk e0
      have r0 := R2.out.c0; have r1 := R2.out.c1; have g0 := R2.out.f0; have g1 := R2.out.f1
      go_wp2
      have X := R2.out.put 0 none 0 0
      exact res_box2 rfl (w.heap.size + 1) 0 none 0 0 rfl X rfl ⟨none, 0, 0, [], rfl, rfl, mut_nil _ _, below_put K2.out _ (by omega) _ _⟩
    | true =>
      obtain ⟨x, hx⟩ : ∃ x, fnd Nz.ino Z no = some x := Option.isSome_iff_exists.1 HY.out
      obtain ⟨hil, hix⟩ := fnd_at HU.out hx
      rw [HI.out] at hil hix
      obtain ⟨b, o, rfl, _, _⟩ := H2.out.nodes.cells (by omega)
      obtain ⟨_, hc1, hc2⟩ := Nds.at H2.out.nodes i hil
      rw [hix] at hc1 hc2
      have hk := HK.out
      rw [getS, hx] at hk
      obtain ⟨e0, e2⟩ := Prod.mk.inj hk
      obtain ⟨e1, e3⟩ := Prod.mk.inj e0
      subst e1 e2 e3
      have hxm := (fnd_mem hx).1
      have HE := Lib.hid (H2.out.exts x hxm)
      have hxn := HL.out x hxm
      have hil' : (i : Int) < (Z.length : Int) := by omega
      clear hk hx hix e0
      obtain ⟨xi, xs, xA, xn, xc, xL⟩ := x
      simp only at hc1 hc2 HE hxn
      go_wp2_with fail
      refine (copied_any xs xA xn xc xL w2 HE.out hxn).mono ?_
      rintro e w3 ⟨F, f, he, hm, k3⟩
      obtain rfl : e = .returned (.agg #[.int .i64 xs, .slice F xL.length f]) := he
      have R3 := Lib.hid (R2.out.on k3)
      have K3 := Lib.hid (K2.out.trans (k3.mono K2.out.size))
      have HM := Lib.hid hm
      clear k3 hm b0 b1
      have r0 := R3.out.c0; have r1 := R3.out.c1; have g0 := R3.out.f0; have g1 := R3.out.f1
      go_wp2
      have X := R3.out.put xs F xL.length f
      exact res_box2 rfl (w.heap.size + 1) _ _ _ _ rfl X rfl ⟨F, _, f, xL, rfl, rfl, HM.out.only (only_put _ _ _ _) (fun g hg hd => by omega) (by omega), below_put K3.out _ (by omega) _ _⟩
end Go.Proofs.YtgaaieipeiekiaaGreat
