/- Contracts of image's mayNames, of ContainsFunc over files, of May. / Contracts of ContainsFunc over files, of image's May. / Contract of image's All: the walk. / Contract of image's Apply. / Contracts of image's Find, Get, Used. / Contracts of image's Used, Same. / What Find, Get, Used say, told of the plain image. / Contract of the law ImageRuns, which the other laws call. -/
import Derived.Test.YtgaaieipeiekiaaPkJ
import Derived.WalkKit
import Derived.WalkSpells
import Derived.WalkLawsBesides
import Derived.IntWalk
import Derived.Lib.Hide
import Derived.BigQuiet
import Derived.Deep.RegionHeld3
import Derived.Test.YtgaaieipeiekiaaPkC
namespace Go.Proofs.Ytgaaieipeiekiaa
open Go.RowKit
set_option maxRecDepth 100000

theorem nle_is (a b : ByteArray) : (Op.bytesLess a.toList b.toList || a.toList == b.toList) = !nlt b a := by
  cases h : nlt a b with
  | false => exact bl_le h
  | true =>
    have h' : Op.bytesLess a.toList b.toList = true := h
    have hh : nlt b a = false := ordN.asym (a := a) (b := b) h
    rw [h', Bool.true_or, hh]; rfl
/-- The first k names are right. -/
structure NamesTo (N : List Nm) (k : Nat) : Prop where
  name : ∀ x ∈ N.take k, okName x.name = true
  ino : ∀ x ∈ N.take k, okIno x.ino = true
  rise : Rise ordN Nm.name (N.take k)
theorem names_zero (N : List Nm) : NamesTo N 0 := ⟨by simp, by simp, by simp [Rise]⟩
theorem names_all {N : List Nm} (h : NamesTo N N.length) (hl : N.length ≤ 16) : NamesOk N := by
  obtain ⟨h1, h2, h3⟩ := h
  rw [List.take_length] at h1 h2 h3
  exact ⟨hl, h1, h2, h3⟩
theorem names_succ {N : List Nm} {k : Nat} (hk : k < N.length) (h : NamesTo N k) (h1 : okName (N.getD k default).name = true) (h2 : okIno (N.getD k default).ino = true) (h3 : 0 < k → nlt (N.getD (k - 1) default).name (N.getD k default).name = true) : NamesTo N (k + 1) :=
  ⟨fun x hx => (mem_take_succ hk hx).elim (h.name x) (fun e => by rw [e]; exact h1), fun x hx => (mem_take_succ hk hx).elim (h.ino x) (fun e => by rw [e]; exact h2), rise_succ hk h.rise h3⟩

set_option maxHeartbeats 8000000 in
theorem names_any (A : Option Addr) (n c : Nat) (N : List Nm) (w : World) (h : Nms w A n c N) (hs : ∀ x ∈ N, x.name.size ≤ maxLen) (z : Bool) (hz : NamesOk N ↔ z = true) :
    Calls Try.prog 29 #[.slice A n c] w (TruthPost z w) := by
  have H := Lib.hid h; have HZ := Lib.hid hz; have HS := Lib.hid hs
  have HL := Lib.hid h.len
  have hm := h.max
  clear h hz hs
  by_cases h16 : n ≤ 16
  · have HF := Lib.hid (show ¬ NamesOk N → z = false from fun h => by cases hz : z with | false => rfl | true => exact absurd (HZ.out.2 hz) h)
    go_enter Try.func29, Try.ntmps29
    go_wp2
    go_loopw [10] (fun i wr => ∃ k : Nat, k ≤ n ∧ i = .int .i64 k ∧ Hid (NamesTo N k) ∧ Hid (Below w.heap.size w wr)) (fun i _ => n - (intOf i).toNat)
    case atStart => exact ⟨0, Nat.zero_le _, rfl, names_zero N, Below.refl _ _⟩
    case round =>
      obtain ⟨k, hk, rfl, HT, K1⟩ := hrel
      by_cases hlt : k < n
      · obtain ⟨b, o, rfl, hb, _⟩ := (H.out.on K1.out).cells (by omega)
        have hat := Nms.at (H.out.on K1.out) k hlt
        have HN := Lib.hid (names_succ (by rw [HL.out]; exact hlt) HT.out)
        have HM := Lib.hid (H.out.mem k hlt)
        have HA := Lib.hid (show 0 < k → NamesOk N → nlt (N.getD (k - 1) default).name (N.getD k default).name = true from fun h0 h => rise_adj h.rise h0 (by rw [HL.out]; exact hlt))
        have HB := Lib.hid (show 0 < k → wr.cell? ⟨b, o + (k - 1) * 2, none⟩ = some (.string (N.getD (k - 1) default).name) from fun h0 => (Nms.at (H.out.on K1.out) (k - 1) (by omega)).1)
        have hki : (k : Int) < (n : Int) := by omega
        generalize N.getD k default = e at *
        generalize N.getD (k - 1) default = p at *
        obtain ⟨es, ek⟩ := e
        obtain ⟨ps, pk⟩ := p
        obtain ⟨d0, d1⟩ := hat
        simp only at d0 d1 HN HA HB
        have he := HS.out _ HM.out
        simp only at he
        have HE := Lib.hid he
        clear he
        have KW := Lib.hid (show Below w.heap.size w (wr.alloc (.cells #[.string es, .int .i64 ek] 48)) from K1.out.alloc K1.out.size _)
        obtain ⟨y1, hy1⟩ : ∃ y, okName es = y := ⟨_, rfl⟩
        have HY1 := Lib.hid hy1
        clear hy1
        cases y1 with
        | false =>
          have HX := Lib.hid (HF.out fun h => by have := h.name _ HM.out; simp only at this; rw [HY1.out] at this; cases this)
          go_wp2
          go_quiet (first | (go_at_call 10; with_reducible exact quiet_mine (name_any es _ HE.out false HY1.out)))
          go_wp2
          go_ret
          exact ⟨ret_bool HX.out.symm, below_drewN KW.out _⟩
        | true =>
          obtain ⟨y2, hy2⟩ : ∃ y, okIno ek = y := ⟨_, rfl⟩
          have HY2 := Lib.hid hy2
          clear hy2
          cases y2 with
          | false =>
            have HX := Lib.hid (HF.out fun h => by have := h.ino _ HM.out; simp only at this; rw [HY2.out] at this; cases this)
            go_wp2
            go_quiet (first | (go_at_call 10; with_reducible exact quiet_mine (name_any es _ HE.out true HY1.out)) | (go_at_call 47; with_reducible exact quiet_mine (ino_any ek _ false HY2.out)))
            go_wp2
            go_ret
            exact ⟨ret_bool HX.out.symm, below_drewN KW.out _⟩
          | true =>
            rcases Nat.eq_zero_or_pos k with hk0 | hk0
            · have HN1 := Lib.hid (HN.out HY1.out HY2.out (fun h => absurd h (by omega)))
              have hk1 : decide ((0 : Int) < (k : Int)) = false := by simp; omega
              have hk2 : decide (0 < k) = false := by simp; omega
              have hk3 : ¬ 0 < k := by omega
              replace hk0 := Lib.hid hk0
              go_wp2
              go_quiet (first | (go_at_call 10; with_reducible exact quiet_mine (name_any es _ HE.out true HY1.out)) | (go_at_call 47; with_reducible exact quiet_mine (ino_any ek _ true HY2.out)))
              go_wp2
              go_roundw
              case rel => exact ⟨k + 1, by omega, by go_num, HN1.out, below_drewN KW.out _⟩
              case measure => simp [intOf]; omega
            · have c9 := HB.out hk0
              have hk1 : (0 : Int) < (k : Int) := by omega
              have hk2 : (0 : Int) ≤ (k : Int) - 1 := by omega
              have hk3 : (k : Int) - 1 < (n : Int) := by omega
              have hk4 : ((k : Int) - 1).toNat = k - 1 := by omega
              have hk5 : IntKind.i64.wrap ((k : Int) - 1) = (k : Int) - 1 := by rw [IntKind.wrap_i64]; omega
              obtain ⟨y3, hy3⟩ : ∃ y, nlt ps es = y := ⟨_, rfl⟩
              have hle := nle_is es ps
              rw [hy3] at hle
              have HY3 := Lib.hid hy3
              clear hy3
              cases y3 with
              | true =>
                have HN1 := Lib.hid (HN.out HY1.out HY2.out (fun _ => HY3.out))
                go_wp2
                go_quiet (first | (go_at_call 10; with_reducible exact quiet_mine (name_any es _ HE.out true HY1.out)) | (go_at_call 47; with_reducible exact quiet_mine (ino_any ek _ true HY2.out)))
                go_wp2
                go_roundw
                case rel => exact ⟨k + 1, by omega, by go_num, HN1.out, below_drewN KW.out _⟩
                case measure => simp [intOf]; omega
              | false =>
                have HX := Lib.hid (HF.out fun h => by have := HA.out hk0 h; rw [HY3.out] at this; cases this)
                go_wp2
                go_quiet (first | (go_at_call 10; with_reducible exact quiet_mine (name_any es _ HE.out true HY1.out)) | (go_at_call 47; with_reducible exact quiet_mine (ino_any ek _ true HY2.out)))
                go_wp2
                go_ret
                exact ⟨ret_bool HX.out.symm, below_drewN KW.out _⟩
      · have hkn : k = n := by omega
        have HX := Lib.hid (show z = true by
          refine HZ.out.1 (names_all ?_ (by rw [HL.out]; exact h16))
          have := HT.out
          rwa [hkn, ← HL.out] at this)
        clear hkn
        go_wp2
        go_ret
        exact ⟨ret_bool HX.out.symm, K1.out⟩
  · have HX := Lib.hid (show z = false by
      cases hz : z with
      | false => rfl
      | true => have := (HZ.out.2 hz).len; rw [HL.out] at this; exact absurd this h16)
    have h17 : (16 : Int) < (n : Int) := by omega
    go_enter Try.func29, Try.ntmps29
    go_wp2
    go_ret
    exact ⟨ret_bool HX.out.symm, Below.refl _ _⟩
end Go.Proofs.Ytgaaieipeiekiaa

namespace Go.Proofs.Ytgaaieipeiekiaa
open Go.RowKit
set_option maxRecDepth 100000

set_option maxHeartbeats 400000 in
theorem notmay_any (i s : Int) (A : Option Addr) (n c : Nat) (L : List Ex) (w : World) (h : Exts w A n c L) (z : Bool) (hz : (!may s L) = z) : Calls Try.prog 32 #[.agg #[.int .i64 i, .int .i64 s, .slice A n c]] w (TruthPost z w) := by
  have HZ := Lib.hid hz
  have K1 := Lib.hid (show Below w.heap.size w (w.alloc (.cells #[.int .i64 i, .int .i64 s, .slice A n c] 60)) from (Below.refl _ _).alloc (Nat.le_refl _) _)
  have H1 := Lib.hid (h.on K1.out)
  clear h hz
  go_enter Try.func32, Try.ntmps32
  go_wp2_with fail
  obtain ⟨y, hy⟩ : ∃ y, may s L = y := ⟨_, rfl⟩
  refine (may_any s A n c L _ H1.out y hy).mono ?_
  rintro e w1 ⟨rfl, k1⟩
  have K2 := Lib.hid (K1.out.trans (k1.mono K1.out.size))
  have HY := Lib.hid hy
  clear k1 hy
  cases y with
  | true =>
    go_wp2
    go_ret
    exact ⟨ret_bool (by rw [← HZ.out, HY.out]; rfl), K2.out⟩
  | false =>
    go_wp2
    go_ret
    exact ⟨ret_bool (by rw [← HZ.out, HY.out]; rfl), K2.out⟩

set_option maxHeartbeats 1000000 in
theorem indexz_any (A : Option Addr) (n c : Nat) (Z : List Nz) (w : World) (h : Nds w A n c Z) (hx : ∀ z ∈ Z, Exts w z.A z.n z.c z.L) : Calls Try.prog 52 #[.slice A n c, .func (.func 32) #[] #[]] w (FoundPost (Z.any fun z => !may z.s z.L) w) := by
  have H := Lib.hid h; have HX := Lib.hid hx
  have HL := Lib.hid h.len
  have hm := h.max
  clear h hx
  go_enter Try.func52, Try.ntmps52
  go_wp2
  go_loopw [8] (fun i wr => ∃ j : Nat, j ≤ n ∧ i = .int .i64 j ∧ Hid (((Z.take j).any fun z => !may z.s z.L) = false) ∧ Hid (Below w.heap.size w wr)) (fun i _ => n - (intOf i).toNat)
  case atStart => exact ⟨0, Nat.zero_le _, rfl, by simp [Hid], Below.refl _ _⟩
  case round =>
    obtain ⟨j, hj, rfl, HT, K1⟩ := hrel
    by_cases hlt : j < n
    · obtain ⟨b, o, rfl, hb, _⟩ := (H.out.on K1.out).cells (by omega)
      have hat := Nds.at (H.out.on K1.out) j hlt
      have HM := Lib.hid (H.out.mem j hlt)
      have HE := Lib.hid ((HX.out _ HM.out).on K1.out)
      have HS := Lib.hid (show (Z.take (j + 1)).any (fun z => !may z.s z.L) = !may (Z.getD j default).s (Z.getD j default).L by
        rw [getD_take Z j (by rw [HL.out]; exact hlt), List.any_append, HT.out]
        simp)
      have HI := Lib.hid (show (!may (Z.getD j default).s (Z.getD j default).L) = true → (Z.any fun z => !may z.s z.L) = true from fun hz => List.any_eq_true.2 ⟨_, HM.out, hz⟩)
      have hji : (j : Int) < (n : Int) := by omega
      generalize Z.getD j default = e at *
      obtain ⟨ek, es, eA, en, ec, eL⟩ := e
      obtain ⟨c0, c1, c2⟩ := hat
      simp only at c0 c1 c2 HS HI HE
      obtain ⟨y, hy⟩ : ∃ y, (!may es eL) = y := ⟨_, rfl⟩
      have HY := Lib.hid hy
      clear hy
      cases y with
      | false =>
        go_wp2_with (go_at_call 32; refine (notmay_any ek es eA en ec eL _ HE.out false HY.out).mono ?_; rintro e' w2 ⟨rfl, k2⟩; have K2 := Lib.hid (K1.out.trans (k2.mono K1.out.size)); clear k2)
        go_roundw
        case rel => exact ⟨j + 1, by omega, by go_num, by unfold Hid; rw [HS.out, HY.out], K2.out⟩
        case measure => simp [intOf]; omega
      | true =>
        go_wp2_with (go_at_call 32; refine (notmay_any ek es eA en ec eL _ HE.out true HY.out).mono ?_; rintro e' w2 ⟨rfl, k2⟩; have K2 := Lib.hid (K1.out.trans (k2.mono K1.out.size)); clear k2)
        go_ret
        exact found_post (by rw [HI.out HY.out]; simp) K2.out
    · have hjn : j = n := by omega
      have HF := Lib.hid (show (Z.any fun z => !may z.s z.L) = false by have := HT.out; rwa [hjn, ← HL.out, List.take_length] at this)
      go_wp2
      go_ret
      exact found_post (by rw [HF.out]; rfl) K1.out

set_option maxHeartbeats 400000 in
theorem hasz_any (A : Option Addr) (n c : Nat) (Z : List Nz) (w : World) (h : Nds w A n c Z) (hx : ∀ z ∈ Z, Exts w z.A z.n z.c z.L) (z : Bool) (hz : (Z.any fun z => !may z.s z.L) = z) : Calls Try.prog 31 #[.slice A n c, .func (.func 32) #[] #[]] w (TruthPost z w) := by
  subst hz
  have H := Lib.hid h; have HX := Lib.hid hx
  clear h hx
  go_enter Try.func31, Try.ntmps31
  go_wp2_with fail
  refine (indexz_any A n c Z w H.out HX.out).mono ?_
  rintro e w1 ⟨i, rfl, hi, k⟩
  have HI := Lib.hid hi; have K := Lib.hid k
  clear hi k
  by_cases h0 : 0 ≤ i
  · go_wp2
    go_ret
    exact ⟨by rw [← HI.out]; simp [h0], K.out⟩
  · go_wp2
    go_ret
    exact ⟨by rw [← HI.out]; simp, K.out⟩

theorem cont_is (Z : List Nz) : ((Z.any fun z => !may z.s z.L) = false) ↔ ∀ d ∈ Z.map Nz.d, may d.s d.L = true := by
  rw [List.any_eq_false]
  simp only [Bool.not_eq_true', Bool.not_eq_false, List.mem_map]
  constructor
  · rintro h d ⟨z, hz, rfl⟩; exact h z hz
  · intro h z hz; exact h _ ⟨z, hz, rfl⟩

set_option maxHeartbeats 2000000 in
theorem mayi_any (A : Option Addr) (n c : Nat) (A' : Option Addr) (n' c' : Nat) (N : List Nm) (Z : List Nz) (w : World) (h : Im w A n c A' n' c' N Z) (z : Bool) (hz : GoodI (ig N Z) ↔ z = true) :
    Calls Try.prog 16 #[iv A n c A' n' c'] w (TruthPost z w) := by
  have HZ := Lib.hid hz
  have K0 := Lib.hid (show Below w.heap.size w (w.alloc (.cells #[.slice A n c, .slice A' n' c'] 25)) from (Below.refl _ _).alloc (Nat.le_refl _) _)
  have B0 := Lib.hid (ibox_new w A n c A' n' c')
  have H0 := Lib.hid (h.on K0.out)
  clear h hz
  show Calls Try.prog 16 #[.agg #[.slice A n c, .slice A' n' c']] w _
  go_enter Try.func16, Try.ntmps16
  go_wp2_with fail
  obtain ⟨y1, hy1⟩ : ∃ y : Bool, (NamesOk N ↔ y = true) := by
    by_cases hc : NamesOk N
    · exact ⟨true, by simp [hc]⟩
    · exact ⟨false, by simp [hc]⟩
  refine (names_any A n c N _ H0.out.names H0.out.str y1 hy1).mono ?_
  rintro e w1 ⟨rfl, k1⟩
  have HY1 := Lib.hid hy1
  have K1 := Lib.hid (K0.out.trans (k1.mono K0.out.size))
  have B1 := Lib.hid (B0.out.on k1)
  have H1 := Lib.hid (H0.out.on k1)
  clear k1 hy1 B0
  have c0 := B1.out.c0; have c1 := B1.out.c1
  cases y1 with
  | false =>
    have HX := Lib.hid (show false = z by
      cases hz : z with
      | false => rfl
      | true => have := ((good_iff _).1 (HZ.out.2 hz)).1; exact HY1.out.1 this)
    go_wp2
    go_ret
    exact ⟨ret_bool HX.out, K1.out⟩
  | true =>
    obtain ⟨y2, hy2⟩ : ∃ y : Bool, (PairOk N (Z.map Nz.d) ↔ y = true) := by
      by_cases hc : PairOk N (Z.map Nz.d)
      · exact ⟨true, by simp [hc]⟩
      · exact ⟨false, by simp [hc]⟩
    have HN := Lib.hid (HY1.out.2 rfl)
    have hn : n ≤ 1000 := by have := HN.out.len; rw [H1.out.names.len] at this; omega
    go_wp2_with fail
    refine (paired_any A n c N A' n' c' Z w1 H1.out.names H1.out.nodes hn y2 hy2).mono ?_
    rintro e w2 ⟨rfl, k2⟩
    have HY2 := Lib.hid hy2
    have K2 := Lib.hid (K1.out.trans (k2.mono K1.out.size))
    have B2 := Lib.hid (B1.out.on k2)
    have H2 := Lib.hid (H1.out.on k2)
    clear k2 hy2 c0 c1 B1
    have c0 := B2.out.c0; have c1 := B2.out.c1
    cases y2 with
    | false =>
      have HX := Lib.hid (show false = z by
        cases hz : z with
        | false => rfl
        | true => have := ((good_iff _).1 (HZ.out.2 hz)).2.1; exact HY2.out.1 this)
      go_wp2
      go_ret
      exact ⟨ret_bool HX.out, K2.out⟩
    | true =>
      obtain ⟨y3, hy3⟩ : ∃ y, (Z.any fun z => !may z.s z.L) = y := ⟨_, rfl⟩
      go_wp2_with fail
      refine (hasz_any A' n' c' Z w2 H2.out.nodes H2.out.exts y3 hy3).mono ?_
      rintro e w3 ⟨rfl, k3⟩
      have HY3 := Lib.hid hy3
      have K3 := Lib.hid (K2.out.trans (k3.mono K2.out.size))
      have HX := Lib.hid (show (!y3) = z by
        rw [Bool.eq_iff_iff, ← HZ.out, good_iff, Bool.not_eq_true', ← HY3.out, cont_is]
        exact ⟨fun h => ⟨HN.out, HY2.out.2 (by first | rfl | trivial), h⟩, fun h => h.2.2⟩)
      clear k3 hy3
      cases y3 with
      | true =>
        go_wp2
        go_ret
        exact ⟨ret_bool HX.out, K3.out⟩
      | false =>
        go_wp2
        go_ret
        exact ⟨ret_bool HX.out, K3.out⟩
end Go.Proofs.Ytgaaieipeiekiaa

namespace Go.Proofs.Ytgaaieipeiekiaa
open Go.RowKit
set_option maxRecDepth 100000

set_option maxHeartbeats 8000000 in
theorem all_any (A : Option Addr) (c : Nat) (A' : Option Addr) (c' : Nat) (N : List Nm) (Z : List Nz) (OA : Option Addr) (on oc : Nat) (L : List Om) (K : Nat) (w : World) (h : Im w A N.length c A' Z.length c' N Z) (hn : N.length ≤ 1000) (hk : Z.length ≤ 1000) (hl : Lens K (ig N Z)) (ho : OpsIn w OA on oc L) (hs : ∀ x ∈ L, Small x.o) (hK : K + 60 * on ≤ 10000) (z : Bool) (hz : GoodI (ig N Z) ↔ z = true) (I : Ig) (hT : z = true → allS (ig N Z) (L.map Om.o) = I) (hF : z = false → ig N Z = I) :
    Calls Try.prog 6 #[iv A N.length c A' Z.length c', .slice OA on oc] w (AllPost I w) := by
  obtain ⟨W, hW⟩ : ∃ W, entry w A N.length c A' Z.length c' = W := ⟨_, rfl⟩
  have HW := Lib.hid (show (w.alloc (.cells #[.slice A N.length c, .slice A' Z.length c'] 25)).alloc (.cells #[.slice none 0 0, .slice none 0 0] 25) = W from hW)
  have KW := Lib.hid (show Below w.heap.size w W by rw [← hW]; exact entry_below _ _ _ _ _ _ _)
  have B0 := Lib.hid (show IBox W w.heap.size A N.length c A' Z.length c' by
    rw [← hW]; exact (ibox_new w _ _ _ _ _ _).on ((Below.refl _ _).alloc (Nat.le_refl _) _))
  have R0 := Lib.hid (show IBox W (w.heap.size + 1) none 0 0 none 0 0 by
    rw [← hW]
    have := ibox_new (w.alloc (.cells #[.slice A N.length c, .slice A' Z.length c'] 25)) none 0 0 none 0 0
    simpa [entry] using this)
  have HS := Lib.hid (show W.heap.size = w.heap.size + 2 by rw [← hW]; simp [entry])
  have H := Lib.hid (h.on KW.out); have HO := Lib.hid ho; have HL := Lib.hid hl; have HZ := Lib.hid hz; have HT := Lib.hid hT; have HF := Lib.hid hF; have HSm := Lib.hid hs
  have HLn := Lib.hid ho.sl.len
  have hom := ho.sl.max
  clear h hl hW ho hz hT hF hs
  show Calls Try.prog 6 #[.agg #[.slice A N.length c, .slice A' Z.length c'], .slice OA on oc] w _
  go_enter Try.func6, Try.ntmps6
  go_upto_region 1 with fail
  rw [HW.out]
  have b0 := B0.out.c0; have b1 := B0.out.c1
  go_wp2_with fail
  refine (renewed_any A c A' c' N Z W H.out hn hk (lens_z (K := 1000000) (fun d hd => by have := HL.out d hd; omega) H.out.exts)).mono ?_
  rintro e w1 ⟨D, d, D', d', Y, he, hmap, him, k1⟩
  obtain rfl : e = .returned (.agg #[.slice D N.length d, .slice D' Y.length d']) := he
  obtain ⟨W2, hW2⟩ : ∃ W2, w1.alloc (.cells #[.slice D N.length d, .slice D' Y.length d'] 25) = W2 := ⟨_, rfl⟩
  have KW2 := Lib.hid (show Below w1.heap.size w1 W2 by rw [← hW2]; exact (Below.refl _ _).alloc (Nat.le_refl _) _)
  have HIG := Lib.hid (show ig N Y = ig N Z by unfold ig; rw [hmap])
  have HIM := Lib.hid him; have K1 := Lib.hid k1
  have A0 := Lib.hid (fun L' => show Al w W2 w1.heap.size (ig N Z) L' K 0 D d D' d' N Y from ⟨HIG.out, by rw [HIG.out]; exact HL.out, by rw [← HS.out]; exact him.on KW2.out, by rw [← hW2]; exact ibox_new _ _ _ _ _ _ _, (R0.out.on k1).on KW2.out, (KW.out.trans (k1.mono KW.out.size)).trans (KW2.out.mono (by have := k1.size; have := KW.out.size; omega)), by have := k1.size; have := HS.out; omega⟩)
  have HW2 := Lib.hid hW2
  obtain ⟨q, hq⟩ : ∃ q, w1.heap.size = q := ⟨_, rfl⟩
  rw [hq] at A0
  have HQ := Lib.hid hq
  clear hW2 hmap him k1 b0 b1 hq
  go_upto_region 2 with fail
  rw [HW2.out, HQ.out]
  have b0 := (A0.out []).box.c0; have b1 := (A0.out []).box.c1
  go_wp2_with fail
  refine (mayi_any D N.length d D' Y.length d' N Y W2 (A0.out []).img.im z (by rw [HIG.out]; exact HZ.out)).mono ?_
  rintro e w3 ⟨rfl, k3⟩
  have A1 := Lib.hid (fun L' => (A0.out L').on k3)
  clear k3 A0 b0 b1
  have b0 := (A1.out []).box.c0; have b1 := (A1.out []).box.c1
  cases z with
  | false =>
    have r0 := (A1.out []).res.c0; have r1 := (A1.out []).res.c1; have g0 := (A1.out []).res.f0; have g1 := (A1.out []).res.f1
    go_wp2
    have X := (A1.out []).done rfl
    have hI : allS (ig N Z) ([].map Om.o) = I := HF.out (by first | rfl | trivial)
    rw [hI] at X
    exact res_ibox rfl (w.heap.size + 1) _ _ _ _ _ _ rfl X.1 rfl X.2
  | true =>
    have HG := Lib.hid (HZ.out.2 (by first | rfl | trivial))
    have HI := Lib.hid (HT.out (by first | rfl | trivial))
    go_wp2
    go_loopw [16] (fun i wr => ∃ (j : Nat) (D : Option Addr) (d : Nat) (D' : Option Addr) (d' : Nat) (M : List Nm) (Y : List Nz), j ≤ on ∧ i = .int .i64 j ∧ Hid (Al w wr q (ig N Z) L K j D d D' d' M Y)) (fun i _ => on - (intOf i).toNat)
    case atStart => exact ⟨0, D, d, D', d', N, Y, Nat.zero_le _, rfl, A1.out L⟩
    case round =>
      clear A1 b0 b1 HIM HIG KW2 HW2 HQ K1
      obtain ⟨j, D, d, D', d', M, Y, hj, rfl, X⟩ := hrel
      by_cases hlt : j < on
      · have HOr := Lib.hid (HO.out.on X.out.below)
        obtain ⟨b, o, rfl, hb, _⟩ := HOr.out.sl.cells (by omega)
        have hat := Ops.at HOr.out.sl j hlt
        have hji : (j : Int) < (on : Int) := by omega
        have HOp := Lib.hid (HOr.out.op _ (HOr.out.sl.mem j hlt))
        have HNx := Lib.hid (fun w' (k : Below wr.heap.size wr w') w2 F f F' f' M2 Y2 hi n => (X.out.on k).next (w2 := w2) (F := F) (f := f) (F' := F') (f' := f') (M2 := M2) (Y2 := Y2) HG.out (by rw [HLn.out]; exact hlt) HSm.out hi n)
        have hjK : K + 60 * j ≤ 10000 := by omega
        generalize L.getD j default = x at *
        obtain ⟨x, xA, xc⟩ := x
        simp only at hat HOp HNx
        obtain ⟨e0, e1, e2, e3, e4, e5, e6, e7⟩ := hat
        go_upto_region 7 with fail
        obtain ⟨W3, hW3⟩ : ∃ W3, wr.alloc (.cells #[.int .i64 x.kind, .int .i64 x.ino, .int .i64 x.pos, .int .i64 x.size, .bool x.keep, .string x.name, .string x.to, .slice xA x.bs.length xc] 29) = W3 := ⟨_, rfl⟩
        have K3 := Lib.hid (show Below wr.heap.size wr W3 by rw [← hW3]; exact (Below.refl _ _).alloc (Nat.le_refl _) _)
        have O3 := Lib.hid (show OBox W3 wr.heap.size x xA xc by rw [← hW3]; exact obox_new _ _ _ _)
        have HW3 := Lib.hid hW3
        have X3 := Lib.hid (X.out.on K3.out)
        have HOp3 := Lib.hid (HOp.out.on K3.out)
        clear hW3 e0 e1 e2 e3 e4 e5 e6 e7
        rw [HW3.out]
        have b0 := X3.out.box.c0; have b1 := X3.out.box.c1
        have e0 := O3.out.c0; have e1 := O3.out.c1; have e2 := O3.out.c2; have e3 := O3.out.c3; have e4 := O3.out.c4; have e5 := O3.out.c5; have e6 := O3.out.c6; have e7 := O3.out.c7
        go_wp2_with fail
        refine (changed_any (w.heap.size + 2) D d D' d' M Y x xA xc W3 X3.out.img (by rw [X3.out.is]; exact good_all HG.out _) (lens_z (K := 10000) (fun a ha => Nat.le_trans (X3.out.lens a ha) hjK) X3.out.img.exts) HOp3.out (Nat.le_trans (by have := X3.out.res.lt; omega) (Nat.le_refl W3.heap.size))).mono ?_
        rintro e w4 ⟨M2, Y2, hi2, F, f, F', f', he, n4⟩
        obtain rfl : e = .returned (.agg #[.slice F M2.length f, .slice F' Y2.length f']) := he
        have XN := Lib.hid (HNx.out W3 K3.out _ _ _ _ _ _ _ hi2 n4)
        obtain ⟨sb, sr⟩ := X3.out.seen n4.only
        clear n4 hi2 b0 b1 e0 e1 e2 e3 e4 e5 e6 e7
        have b0 := sb.c0; have b1 := sb.c1; have f0 := sb.f0; have f1 := sb.f1
        clear sb sr
        go_wp2
        go_roundw
        case rel => exact ⟨j + 1, F, f, F', f', M2, Y2, by omega, by go_num, XN.out⟩
        case measure => simp [intOf]; omega
      · have hjn : j = on := by omega
        have b0 := X.out.box.c0; have b1 := X.out.box.c1
        have r0 := X.out.res.c0; have r1 := X.out.res.c1; have g0 := X.out.res.f0; have g1 := X.out.res.f1
        have HX := Lib.hid (X.out.done (by rw [HLn.out, hjn]))
        clear hjn
        go_wp2
        have Q := HX.out
        rw [HI.out] at Q
        exact res_ibox rfl (w.heap.size + 1) _ _ _ _ _ _ rfl Q.1 rfl Q.2
end Go.Proofs.Ytgaaieipeiekiaa

namespace Go.Proofs.Ytgaaieipeiekiaa
open Go.RowKit
set_option maxRecDepth 100000

theorem vo_boxes (w : World) (A : Option Addr) (n c : Nat) (A' : Option Addr) (n' c' : Nat) (o : Opv) (BA : Option Addr) (cb : Nat) : IBox (vo w A n c A' n' c' o BA cb) w.heap.size A n c A' n' c' ∧ OBox (vo w A n c A' n' c' o BA cb) (w.heap.size + 1) o BA cb ∧ IBox (vo w A n c A' n' c' o BA cb) (w.heap.size + 2) none 0 0 none 0 0 := by
  refine ⟨?_, ?_, ?_⟩
  · unfold vo
    exact (ibox_new w _ _ _ _ _ _).on (((Below.refl _ _).alloc (Nat.le_refl _) _).alloc (by simp) _)
  · unfold vo
    have := (obox_new (w.alloc (.cells #[.slice A n c, .slice A' n' c'] 25)) o BA cb).on ((Below.refl _ _).alloc (Nat.le_refl _) (.cells #[.slice none 0 0, .slice none 0 0] 25))
    simpa using this
  · unfold vo
    have := ibox_new ((w.alloc (.cells #[.slice A n c, .slice A' n' c'] 25)).alloc (.cells #[.int .i64 o.kind, .int .i64 o.ino, .int .i64 o.pos, .int .i64 o.size, .bool o.keep, .string o.name, .string o.to, .slice BA o.bs.length cb] 29)) none 0 0 none 0 0
    simpa using this

set_option maxHeartbeats 8000000 in
theorem apply_any (A : Option Addr) (c : Nat) (A' : Option Addr) (c' : Nat) (N : List Nm) (Z : List Nz) (o : Opv) (BA : Option Addr) (cb : Nat) (K : Nat) (w : World) (h : Im w A N.length c A' Z.length c' N Z) (hn : N.length ≤ 1000) (hk : Z.length ≤ 1000) (hl : Lens K (ig N Z)) (ho : OpIn w o BA cb) (hs : Small o) (hK : K + 60 ≤ 10000) (z : Bool) (hz : GoodI (ig N Z) ↔ z = true) (I : Ig) (hT : z = true → applyS (ig N Z) o = I) (hF : z = false → ig N Z = I) :
    Calls Try.prog 13 #[iv A N.length c A' Z.length c', ov o BA cb] w (AllPost I w) := by
  obtain ⟨W, hW⟩ : ∃ W, vo w A N.length c A' Z.length c' o BA cb = W := ⟨_, rfl⟩
  have HW := Lib.hid (show ((w.alloc (.cells #[.slice A N.length c, .slice A' Z.length c'] 25)).alloc (.cells #[.int .i64 o.kind, .int .i64 o.ino, .int .i64 o.pos, .int .i64 o.size, .bool o.keep, .string o.name, .string o.to, .slice BA o.bs.length cb] 29)).alloc (.cells #[.slice none 0 0, .slice none 0 0] 25) = W from hW)
  have KW := Lib.hid (show Below w.heap.size w W by rw [← hW]; exact (((Below.refl _ _).alloc (Nat.le_refl _) _).alloc (by simp) _).alloc (by simp; omega) _)
  have HB := Lib.hid (show IBox W w.heap.size A N.length c A' Z.length c' ∧ OBox W (w.heap.size + 1) o BA cb ∧ IBox W (w.heap.size + 2) none 0 0 none 0 0 by
    rw [← hW]; exact vo_boxes _ _ _ _ _ _ _ _ _ _)
  have HS := Lib.hid (show W.heap.size = w.heap.size + 3 by rw [← hW]; simp [vo])
  have H := Lib.hid (h.on KW.out); have HO := Lib.hid (ho.on KW.out)
  clear h hW ho
  show Calls Try.prog 13 #[.agg #[.slice A N.length c, .slice A' Z.length c'], .agg #[.int .i64 o.kind, .int .i64 o.ino, .int .i64 o.pos, .int .i64 o.size, .bool o.keep, .string o.name, .string o.to, .slice BA o.bs.length cb]] w _
  go_enter Try.func13, Try.ntmps13
  go_upto_region 1 with fail
  rw [HW.out]
  have b0 := HB.out.1.c0; have b1 := HB.out.1.c1
  have o0 := HB.out.2.1.c0; have o1 := HB.out.2.1.c1; have o2 := HB.out.2.1.c2; have o3 := HB.out.2.1.c3; have o4 := HB.out.2.1.c4; have o5 := HB.out.2.1.c5; have o6 := HB.out.2.1.c6; have o7 := HB.out.2.1.c7
  go_wp2_with (with_reducible refine st_oneE tyO rfl (.tmp 6) rfl (⟨o, BA, cb⟩ : Om) rfl ?_; intro b w1 hb q1 k1; have K1 := Lib.hid k1; have Q1 := Lib.hid q1; clear q1 k1 hb)
  refine (all_any A c A' c' N Z (some ⟨b, 0, none⟩) 1 1 [⟨o, BA, cb⟩] K w1 (H.out.on K1.out) hn hk hl ⟨sl_one (E := elO) Q1.out, by simpa using HO.out.on K1.out⟩ (by simpa using hs) (by omega) z hz I hT hF).mono ?_
  rintro e w2 ⟨D, d, D', d', M, Y, hi, he, him, k2⟩
  obtain rfl : e = .returned (.agg #[.slice D M.length d, .slice D' Y.length d']) := he
  have R2 := Lib.hid ((HB.out.2.2.on K1.out).on k2)
  have KK := Lib.hid (KW.out.trans ((K1.out.trans (k2.mono K1.out.size)).mono KW.out.size))
  have HIM := Lib.hid him; have HI := Lib.hid hi
  have hsz := Nat.le_trans (Nat.le_of_eq HS.out.symm) K1.out.size
  clear him hi k2 b0 b1 o0 o1 o2 o3 o4 o5 o6 o7
  have r0 := R2.out.c0; have r1 := R2.out.c1; have g0 := R2.out.f0; have g1 := R2.out.f1
  go_wp2
  have ob := only_set2 w2 (w.heap.size + 2) (.slice D M.length d) (.slice D' Y.length d')
  refine res_ibox rfl (w.heap.size + 2) _ _ _ _ _ _ rfl (R2.out.put _ _ _ _ _ _) rfl ⟨D, d, D', d', M, Y, HI.out, rfl, (HIM.out.keep ob (fun g hg he => by have := (HIM.out.lt hg).1; omega) (fun z hz hn g p he h3 => by subst h3; have := HIM.out.exts z hz; rw [he] at this; exact exts_ibox this hn R2.out)).mono (by omega), KK.out.trans (ob.below KK.out.size (fun g hg => by omega))⟩
end Go.Proofs.Ytgaaieipeiekiaa

namespace Go.Proofs.Ytgaaieipeiekiaa
open Go.RowKit
set_option maxRecDepth 100000

def IntPost (k : Int) (y : Bool) (w : World) (e : Ending) (w' : World) : Prop := e = .returned (.tuple #[.int .i64 k, .bool y]) ∧ Below w.heap.size w w'
/-- What Find, Get, Used say. -/
def findS (N : List Nm) (name : ByteArray) : Int × Bool := match fnd Nm.name N name with | some x => (x.ino, true) | none => (0, false)
def getS (Z : List Nz) (k : Int) : (Int × List Ex) × Bool := match fnd Nz.ino Z k with | some z => ((z.s, z.L), true) | none => ((0, []), false)
def usedS (Z : List Nz) : Nat := (Z.map fun z => z.L.length).sum

set_option maxHeartbeats 4000000 in
theorem find_img (A : Option Addr) (c : Nat) (A' : Option Addr) (c' : Nat) (N : List Nm) (Z : List Nz) (name : ByteArray) (w : World) (h : Im w A N.length c A' Z.length c' N Z) (hn : N.length ≤ 1000) (z : Bool) (hz : GoodI (ig N Z) ↔ z = true) (k : Int) (y : Bool) (hT : z = true → findS N name = (k, y)) (hF : z = false → ((0 : Int), false) = (k, y)) :
    Calls Try.prog 7 #[iv A N.length c A' Z.length c', .string name] w (IntPost k y w) := by
  obtain ⟨W, hW⟩ : ∃ W, w.alloc (.cells #[.slice A N.length c, .slice A' Z.length c'] 25) = W := ⟨_, rfl⟩
  have KW := Lib.hid (show Below w.heap.size w W by rw [← hW]; exact (Below.refl _ _).alloc (Nat.le_refl _) _)
  have B0 := Lib.hid (show IBox W w.heap.size A N.length c A' Z.length c' by rw [← hW]; exact ibox_new _ _ _ _ _ _ _)
  have H := Lib.hid (h.on KW.out); have HZ := Lib.hid hz; have HT := Lib.hid hT; have HF := Lib.hid hF
  have HW := Lib.hid hW
  clear h hz hT hF hW
  show Calls Try.prog 7 #[.agg #[.slice A N.length c, .slice A' Z.length c'], .string name] w _
  go_enter Try.func7, Try.ntmps7
  go_upto_region 1 with fail
  rw [HW.out]
  have b0 := B0.out.c0; have b1 := B0.out.c1
  go_wp2_with fail
  refine (mayi_any A N.length c A' Z.length c' N Z W H.out z HZ.out).mono ?_
  rintro e w1 ⟨rfl, k1⟩
  have K1 := Lib.hid (KW.out.trans (k1.mono KW.out.size))
  have B1 := Lib.hid (B0.out.on k1); have H1 := Lib.hid (H.out.on k1)
  clear k1 b0 b1
  have b0 := B1.out.c0; have b1 := B1.out.c1
  cases z with
  | false =>
    obtain ⟨e1, e2⟩ := Prod.mk.inj (HF.out (by first | rfl | trivial))
    subst e1 e2
    go_wp2
    go_ret2
    exact ⟨rfl, K1.out⟩
  | true =>
    have HG := Lib.hid (HZ.out.2 (by first | rfl | trivial))
    have HK := Lib.hid (HT.out (by first | rfl | trivial))
    obtain ⟨i, hi⟩ : ∃ i, pl ordN Nm.name N name = i := ⟨_, rfl⟩
    obtain ⟨y', hy⟩ : ∃ z, (fnd Nm.name N name).isSome = z := ⟨_, rfl⟩
    have HI := Lib.hid hi; have HY := Lib.hid hy
    clear hi hy
    go_wp2_with fail
    refine (named_any A N.length c N name w1 H1.out.names HG.out.rise (by omega) i y' HI.out HY.out).mono ?_
    rintro e w2 ⟨rfl, k2⟩
    have K2 := Lib.hid (K1.out.trans (k2.mono K1.out.size))
    have B2 := Lib.hid (B1.out.on k2); have H2 := Lib.hid (H1.out.on k2)
    clear k2 b0 b1
    have b0 := B2.out.c0; have b1 := B2.out.c1
    cases y' with
    | false =>
      have HN := Lib.hid (show fnd Nm.name N name = none by have := HY.out; simpa using this)
      have hk := HK.out
      rw [findS, HN.out] at hk
      obtain ⟨e1, e2⟩ := Prod.mk.inj hk
      subst e1 e2
      clear hk
      go_wp2
      go_ret2
      exact ⟨rfl, K2.out⟩
    | true =>
      obtain ⟨x, hx⟩ : ∃ x, fnd Nm.name N name = some x := Option.isSome_iff_exists.1 HY.out
      obtain ⟨hil, hix⟩ := fnd_at HG.out.rise hx
      have e0 : pl ordN Nm.name (ig N Z).N name = i := HI.out
      rw [e0] at hil hix
      replace hil : i < N.length := hil
      replace hix : N.getD i default = x := hix
      obtain ⟨b, o, rfl, _, _⟩ := H2.out.names.cells (by omega)
      have hc := (Nms.at H2.out.names i hil).2
      rw [hix] at hc
      have hk := HK.out
      rw [findS, hx] at hk
      obtain ⟨e1, e2⟩ := Prod.mk.inj hk
      rw [e1] at hc
      subst e2
      have hil' : (i : Int) < (N.length : Int) := by omega
      clear hk hx hix e0 e1
      go_wp2
      go_ret2
      exact ⟨rfl, K2.out⟩

set_option maxHeartbeats 4000000 in
theorem get_img (A : Option Addr) (c : Nat) (A' : Option Addr) (c' : Nat) (N : List Nm) (Z : List Nz) (no : Int) (w : World) (h : Im w A N.length c A' Z.length c' N Z) (hn : Z.length ≤ 1000) (hl : ∀ z ∈ Z, z.n ≤ 1000000) (z : Bool) (hz : GoodI (ig N Z) ↔ z = true) (s : Int) (L : List Ex) (y : Bool) (hT : z = true → getS Z no = ((s, L), y)) (hF : z = false → (((0 : Int), ([] : List Ex)), false) = ((s, L), y)) :
    Calls Try.prog 8 #[iv A N.length c A' Z.length c', .int .i64 no] w (CtPost y s (fun M => M = L) w) := by
  obtain ⟨W, hW⟩ : ∃ W, (w.alloc (.cells #[.slice A N.length c, .slice A' Z.length c'] 25)).alloc (.cells #[.int .i64 0, .slice none 0 0] 34) = W := ⟨_, rfl⟩
  have KW := Lib.hid (show Below w.heap.size w W by rw [← hW]; exact ((Below.refl _ _).alloc (Nat.le_refl _) _).alloc (by simp) _)
  have B0 := Lib.hid (show IBox W w.heap.size A N.length c A' Z.length c' by rw [← hW]; exact (ibox_new _ _ _ _ _ _ _).on ((Below.refl _ _).alloc (Nat.le_refl _) _))
  have R0 := Lib.hid (show Box W (w.heap.size + 1) 0 none 0 0 by
    rw [← hW]
    have := box_new (w.alloc (.cells #[.slice A N.length c, .slice A' Z.length c'] 25)) 0 none 0 0
    simpa using this)
  have HS := Lib.hid (show W.heap.size = w.heap.size + 2 by rw [← hW]; simp)
  have H := Lib.hid (h.on KW.out); have HZ := Lib.hid hz; have HT := Lib.hid hT; have HF := Lib.hid hF; have HL := Lib.hid hl
  have HW := Lib.hid hW
  clear h hz hT hF hW hl
  show Calls Try.prog 8 #[.agg #[.slice A N.length c, .slice A' Z.length c'], .int .i64 no] w _
  go_enter Try.func8, Try.ntmps8
  go_upto_region 1 with fail
  rw [HW.out]
  have b0 := B0.out.c0; have b1 := B0.out.c1
  go_wp2_with fail
  refine (mayi_any A N.length c A' Z.length c' N Z W H.out z HZ.out).mono ?_
  rintro e w1 ⟨rfl, k1⟩
  have K1 := Lib.hid (KW.out.trans (k1.mono KW.out.size))
  have B1 := Lib.hid (B0.out.on k1); have H1 := Lib.hid (H.out.on k1); have R1 := Lib.hid (R0.out.on k1)
  have hs1 := Nat.le_trans (Nat.le_of_eq HS.out.symm) k1.size
  clear k1 b0 b1
  have b0 := B1.out.c0; have b1 := B1.out.c1; have r0 := R1.out.c0; have r1 := R1.out.c1; have g0 := R1.out.f0; have g1 := R1.out.f1
  cases z with
  | false =>
    obtain ⟨e0, e2⟩ := Prod.mk.inj (HF.out (by first | rfl | trivial))
    obtain ⟨e1, e3⟩ := Prod.mk.inj e0
    subst e1 e2 e3
    go_wp2
    have X := R1.out.put 0 none 0 0
    exact res_box2 rfl (w.heap.size + 1) 0 none 0 0 rfl X rfl ⟨none, 0, 0, [], rfl, rfl, mut_nil _ _, below_put K1.out _ (by omega) _ _⟩
  | true =>
    have HG := Lib.hid (HZ.out.2 (by first | rfl | trivial))
    have HK := Lib.hid (HT.out (by first | rfl | trivial))
    have HU := Lib.hid (rise_d.1 HG.out.up)
    obtain ⟨i, hi⟩ : ∃ i, pl ordI Nz.ino Z no = i := ⟨_, rfl⟩
    obtain ⟨y', hy⟩ : ∃ z, (fnd Nz.ino Z no).isSome = z := ⟨_, rfl⟩
    have HI := Lib.hid hi; have HY := Lib.hid hy
    clear hi hy r0 r1 g0 g1
    go_wp2_with fail
    refine (numbered_any A' Z.length c' Z no w1 H1.out.nodes HU.out (by omega) i y' HI.out HY.out).mono ?_
    rintro e w2 ⟨rfl, k2⟩
    have K2 := Lib.hid (K1.out.trans (k2.mono K1.out.size))
    have B2 := Lib.hid (B1.out.on k2); have H2 := Lib.hid (H1.out.on k2); have R2 := Lib.hid (R1.out.on k2)
    have hs2 := Nat.le_trans hs1 k2.size
    clear k2 b0 b1
    have b0 := B2.out.c0; have b1 := B2.out.c1
    cases y' with
    | false =>
      have HN := Lib.hid (show fnd Nz.ino Z no = none by have := HY.out; simpa using this)
      have hk := HK.out
      rw [getS, HN.out] at hk
      obtain ⟨e0, e2⟩ := Prod.mk.inj hk
      obtain ⟨e1, e3⟩ := Prod.mk.inj e0
      subst e1 e2 e3
      clear hk e0
      have r0 := R2.out.c0; have r1 := R2.out.c1; have g0 := R2.out.f0; have g1 := R2.out.f1
      go_wp2
      have X := R2.out.put 0 none 0 0
      exact res_box2 rfl (w.heap.size + 1) 0 none 0 0 rfl X rfl ⟨none, 0, 0, [], rfl, rfl, mut_nil _ _, below_put K2.out _ (by omega) _ _⟩
    | true =>
      obtain ⟨x, hx⟩ : ∃ x, fnd Nz.ino Z no = some x := Option.isSome_iff_exists.1 HY.out
      obtain ⟨hil, hix⟩ := fnd_at HU.out hx
      rw [HI.out] at hil hix
      obtain ⟨b, o, rfl, _, _⟩ := H2.out.nodes.cells (by omega)
      obtain ⟨_, hc1, hc2⟩ := Nds.at H2.out.nodes i hil
      rw [hix] at hc1 hc2
      have hk := HK.out
      rw [getS, hx] at hk
      obtain ⟨e0, e2⟩ := Prod.mk.inj hk
      obtain ⟨e1, e3⟩ := Prod.mk.inj e0
      subst e1 e2 e3
      have hxm := (fnd_mem hx).1
      have HE := Lib.hid (H2.out.exts x hxm)
      have hxn := HL.out x hxm
      have hil' : (i : Int) < (Z.length : Int) := by omega
      clear hk hx hix e0
      obtain ⟨xi, xs, xA, xn, xc, xL⟩ := x
      simp only at hc1 hc2 HE hxn
      go_wp2_with fail
      refine (copied_any xs xA xn xc xL w2 HE.out hxn).mono ?_
      rintro e w3 ⟨F, f, he, hm, k3⟩
      obtain rfl : e = .returned (.agg #[.int .i64 xs, .slice F xL.length f]) := he
      have R3 := Lib.hid (R2.out.on k3)
      have K3 := Lib.hid (K2.out.trans (k3.mono K2.out.size))
      have HM := Lib.hid hm
      clear k3 hm b0 b1
      have r0 := R3.out.c0; have r1 := R3.out.c1; have g0 := R3.out.f0; have g1 := R3.out.f1
      go_wp2
      have X := R3.out.put xs F xL.length f
      exact res_box2 rfl (w.heap.size + 1) _ _ _ _ rfl X rfl ⟨F, _, f, xL, rfl, rfl, HM.out.only (only_put _ _ _ _) (fun g hg hd => by omega) (by omega), below_put K3.out _ (by omega) _ _⟩
end Go.Proofs.Ytgaaieipeiekiaa

namespace Go.Proofs.Ytgaaieipeiekiaa
open Go.RowKit
set_option maxRecDepth 100000

theorem used_succ (Z : List Nz) (j : Nat) (hj : j < Z.length) : usedS (Z.take (j + 1)) = usedS (Z.take j) + (Z.getD j default).L.length := by
  unfold usedS
  rw [getD_take Z j hj, List.map_append, List.sum_append]; simp
theorem used_le {Z : List Nz} {K : Nat} (h : ∀ z ∈ Z, z.L.length ≤ K) : usedS Z ≤ Z.length * K := by
  unfold usedS
  induction Z with
  | nil => simp
  | cons z r ih =>
    have h1 := ih (fun y hy => h y (by simp [hy]))
    have h2 := h z (by simp)
    simp only [List.map_cons, List.sum_cons, List.length_cons, Nat.succ_mul]
    omega
def NumPost (k : Int) (w : World) (e : Ending) (w' : World) : Prop := e = .returned (.int .i64 k) ∧ Below w.heap.size w w'

set_option maxHeartbeats 4000000 in
theorem used_img (A : Option Addr) (c : Nat) (A' : Option Addr) (c' : Nat) (N : List Nm) (Z : List Nz) (w : World) (h : Im w A N.length c A' Z.length c' N Z) (hn : Z.length ≤ 1000) (hl : ∀ z ∈ Z, z.L.length ≤ 1000000) (z : Bool) (hz : GoodI (ig N Z) ↔ z = true) (k : Int) (hT : z = true → (usedS Z : Int) = k) (hF : z = false → 0 = k) :
    Calls Try.prog 9 #[iv A N.length c A' Z.length c'] w (NumPost k w) := by
  obtain ⟨W, hW⟩ : ∃ W, w.alloc (.cells #[.slice A N.length c, .slice A' Z.length c'] 25) = W := ⟨_, rfl⟩
  have KW := Lib.hid (show Below w.heap.size w W by rw [← hW]; exact (Below.refl _ _).alloc (Nat.le_refl _) _)
  have B0 := Lib.hid (show IBox W w.heap.size A N.length c A' Z.length c' by rw [← hW]; exact ibox_new _ _ _ _ _ _ _)
  have H := Lib.hid (h.on KW.out); have HZ := Lib.hid hz; have HT := Lib.hid hT; have HF := Lib.hid hF; have HL := Lib.hid hl
  have HW := Lib.hid hW
  clear h hz hT hF hW hl
  show Calls Try.prog 9 #[.agg #[.slice A N.length c, .slice A' Z.length c']] w _
  go_enter Try.func9, Try.ntmps9
  go_upto_region 1 with fail
  rw [HW.out]
  have b0 := B0.out.c0; have b1 := B0.out.c1
  go_wp2_with fail
  refine (mayi_any A N.length c A' Z.length c' N Z W H.out z HZ.out).mono ?_
  rintro e w1 ⟨rfl, k1⟩
  have K1 := Lib.hid (KW.out.trans (k1.mono KW.out.size))
  have B1 := Lib.hid (B0.out.on k1); have H1 := Lib.hid (H.out.on k1)
  clear k1 b0 b1
  have b0 := B1.out.c0; have b1 := B1.out.c1
  cases z with
  | false =>
    have e1 := HF.out (by first | rfl | trivial)
    subst e1
    go_wp2
    go_ret
    exact ⟨rfl, K1.out⟩
  | true =>
    have HK := Lib.hid (HT.out (by first | rfl | trivial))
    have HLE := Lib.hid (fun j => used_le (Z := Z.take j) (K := 1000000) (fun z hz => HL.out z (List.mem_of_mem_take hz)))
    go_wp2
    go_loopw [12, 3] (fun i s wr => ∃ j : Nat, j ≤ Z.length ∧ i = .int .i64 j ∧ s = .int .i64 (usedS (Z.take j)) ∧ Hid (Below w1.heap.size w1 wr)) (fun i _ _ => Z.length - (intOf i).toNat)
    case atStart => exact ⟨0, Nat.zero_le _, rfl, rfl, Below.refl _ _⟩
    case round =>
      clear b0 b1
      obtain ⟨j, hj, rfl, rfl, KR⟩ := hrel
      have HR := Lib.hid (H1.out.on KR.out)
      by_cases hlt : j < Z.length
      · obtain ⟨b, o, rfl, hb, _⟩ := HR.out.nodes.cells (by omega)
        obtain ⟨e0, e1, e2⟩ := Nds.at HR.out.nodes j hlt
        have hji : (j : Int) < (Z.length : Int) := by omega
        have HM := Lib.hid (getD_mem' hlt)
        have HU := Lib.hid (used_succ Z j hlt)
        have HE := Lib.hid (HR.out.exts _ HM.out)
        have hle := HLE.out j
        have hlt1 : (Z.take j).length * 1000000 ≤ 1000000000 := by rw [List.length_take]; omega
        have hle2 := HL.out _ HM.out
        generalize Z.getD j default = x at *
        obtain ⟨xi, xs, xA, xn, xc, xL⟩ := x
        simp only at e0 e1 e2 HU HE hle2
        have hxl := HE.out.len
        obtain ⟨u, hu⟩ : ∃ u, usedS (Z.take j) = u := ⟨_, rfl⟩
        have HUU := Lib.hid (show usedS (Z.take (j + 1)) = u + xn by rw [HU.out, hu, hxl])
        have hu9 : u ≤ 1000000000 := by omega
        have hxn9 : xn ≤ 1000000 := by omega
        rw [hu]
        clear hu hle hlt1 HU hle2 hxl
        go_wp2
        go_roundw
        case rel => exact ⟨j + 1, by omega, by go_num, by rw [HUU.out]; go_num, KR.out.alloc KR.out.size _⟩
        case measure => simp [intOf]; omega
      · have hjn : j = Z.length := by omega
        have HX := Lib.hid (show (usedS (Z.take j) : Int) = k by rw [hjn, List.take_length]; exact HK.out)
        clear hjn
        rw [HX.out]
        go_wp2
        go_ret
        exact ⟨rfl, K1.out.trans (KR.out.mono K1.out.size)⟩

theorem run_neqn (w : World) {s t : ByteArray} {j k : Int} {q : Bool} (hq : (s = t ∧ j = k) ↔ q = true) : (binOp .neq 48 (.agg #[.string s, .int .i64 j]) (.agg #[.string t, .int .i64 k])).run Try.prog w = .ok (.bool (!q)) w := by
  rw [run_neq_struct, run_equalIn_struct w 9999 48 _ _ Try.underlying48 (by kernel_rfl)]
  have hfl : (Try.prog.fieldsOf 48).toList = [⟨ "Name", 9, 0, false, "", "", 0⟩, ⟨ "Ino", 3, 1, false, "", "", 16⟩] := by rw [Program.fieldsOf, Try.underlying48]
  have h3 := fun a b => run_equalIn_int w 9998 3 .i64 .i64 a b Try.underlying3
  have h9 := fun a b => run_equalIn_string w 9998 9 a b Try.underlying9
  rw [hfl]
  simp only [Nat.reduceAdd] at h3 h9
  simp [Op.eqFields, part, Try.isAgg3, Try.isAgg9, h3, h9, Result.andThen]
  have hst : (s.toList = t.toList) ↔ s = t := ⟨toList_inj, fun h => by rw [h]⟩
  cases q with
  | true => obtain ⟨h1, h2⟩ := hq.2 rfl; simp [h1, h2]
  | false =>
    have hn : ¬ (s = t ∧ j = k) := fun h => by have := hq.1 h; cases this
    by_cases h1 : s = t
    · have h2 : ¬ j = k := fun h => hn ⟨h1, h⟩
      simp [h1, h2]
    · have h1t : ¬ s.toList = t.toList := fun h => h1 (hst.1 h)
      simp [h1t]

def zv (z : Nz) : Value := .agg #[.int .i64 z.ino, .int .i64 z.s, .slice z.A z.n z.c]

end Go.Proofs.Ytgaaieipeiekiaa

namespace Go.Proofs.Ytgaaieipeiekiaa
open Go.RowKit
set_option maxRecDepth 100000

def findI (I : Ig) (name : ByteArray) : Int × Bool := match fnd Nm.name I.N name with | some x => (x.ino, true) | none => (0, false)
def getI (I : Ig) (k : Int) : (Int × List Ex) × Bool := match fnd Nd.ino I.D k with | some d => ((d.s, d.L), true) | none => ((0, []), false)
def usedI (I : Ig) : Nat := (I.D.map fun d => d.L.length).sum
theorem find_ig (N : List Nm) (Z : List Nz) (name : ByteArray) : findS N name = findI (ig N Z) name := rfl
theorem get_ig (N : List Nm) (Z : List Nz) (k : Int) : getS Z k = getI (ig N Z) k := by
  unfold getS getI ig
  rw [fnd_map (key := Nd.ino) (key' := Nz.ino) Nz.d (fun _ => rfl) Z k]
  cases fnd Nz.ino Z k <;> rfl
theorem used_ig (N : List Nm) (Z : List Nz) : usedS Z = usedI (ig N Z) := by
  unfold usedS usedI ig
  rw [List.map_map]
  rfl
theorem ig_len {N : List Nm} {Z : List Nz} {I : Ig} (h : ig N Z = I) : N.length = I.N.length ∧ Z.length = I.D.length := by subst h; exact ⟨rfl, by simp [ig]⟩
theorem lens_n {N : List Nm} {Z : List Nz} {K : Nat} {w : World} (hl : Lens K (ig N Z)) (hx : ∀ z ∈ Z, Exts w z.A z.n z.c z.L) : ∀ z ∈ Z, z.n ≤ K := lens_z hl hx
theorem lens_l {N : List Nm} {Z : List Nz} {K : Nat} (hl : Lens K (ig N Z)) : ∀ z ∈ Z, z.L.length ≤ K := fun z hz => hl z.d (List.mem_map_of_mem hz)

section
variable {A : Option Addr} {c : Nat} {A' : Option Addr} {c' : Nat} {N : List Nm} {Z : List Nz} {w : World} {n n' : Nat}
/-- Of an image that may be. -/
theorem find_good (h : Im w A n c A' n' c' N Z) (hg : GoodI (ig N Z)) (name : ByteArray) (k : Int) (y : Bool) (hk : findI (ig N Z) name = (k, y)) : Calls Try.prog 7 #[iv A n c A' n' c', .string name] w (IntPost k y w) := by
  obtain rfl := h.names.len
  obtain rfl := h.nodes.len
  exact find_img A c A' c' N Z name w h (by have := (good_lens hg).1; omega) true (by simpa using hg) k y (fun _ => by rw [find_ig N Z]; exact hk) (fun h => by cases h)
theorem get_good (h : Im w A n c A' n' c' N Z) (hg : GoodI (ig N Z)) (K : Nat) (hK : K ≤ 1000000) (hl : Lens K (ig N Z)) (no : Int) (s : Int) (L : List Ex) (y : Bool) (hk : getI (ig N Z) no = ((s, L), y)) : Calls Try.prog 8 #[iv A n c A' n' c', .int .i64 no] w (CtPost y s (fun M => M = L) w) := by
  obtain rfl := h.names.len
  obtain rfl := h.nodes.len
  exact get_img A c A' c' N Z no w h (by have := (good_lens hg).2; omega) (fun z hz => by have := lens_n hl h.exts z hz; omega) true (by simpa using hg) s L y (fun _ => by rw [get_ig N Z]; exact hk) (fun h => by cases h)
theorem used_good (h : Im w A n c A' n' c' N Z) (hg : GoodI (ig N Z)) (K : Nat) (hK : K ≤ 1000000) (hl : Lens K (ig N Z)) (k : Int) (hk : (usedI (ig N Z) : Int) = k) : Calls Try.prog 9 #[iv A n c A' n' c'] w (NumPost k w) := by
  obtain rfl := h.names.len
  obtain rfl := h.nodes.len
  exact used_img A c A' c' N Z w h (by have := (good_lens hg).2; omega) (fun z hz => by have := lens_l hl z hz; omega) true (by simpa using hg) k (fun _ => by rw [used_ig N Z]; exact hk) (fun h => by cases h)
end
end Go.Proofs.Ytgaaieipeiekiaa

namespace Go.Proofs.Ytgaaieipeiekiaa
open Go.RowKit
set_option maxRecDepth 100000

def oA : Opv := ⟨1, 1, 0, 0, false, ⟨#[97]⟩, ⟨#[]⟩, []⟩
def oB : Opv := ⟨2, 1, 0, 0, false, ⟨#[]⟩, ⟨#[]⟩, [5]⟩
def oC : Opv := ⟨6, 0, 0, 0, false, ⟨#[97]⟩, ⟨#[98]⟩, []⟩
def iR : Ig := ⟨[⟨⟨#[98]⟩, 1⟩], [⟨1, 1, [⟨0, [5, 0, 0, 0, 0, 0, 0, 0]⟩]⟩]⟩
theorem runs_is : allS (ig [] []) [oA, oB, oC] = iR := by kernel_rfl
theorem runs_good : GoodI iR := by rw [← runs_is]; exact good_all good_nil _
theorem runs_find1 : findI iR ⟨#[98]⟩ = (1, true) := by kernel_rfl
theorem runs_find2 : findI iR ⟨#[97]⟩ = (0, false) := by kernel_rfl
theorem runs_get : getI iR 1 = ((1, [⟨0, [5, 0, 0, 0, 0, 0, 0, 0]⟩]), true) := by kernel_rfl
theorem runs_used : usedI iR = 1 := by kernel_rfl
theorem runs_lens : Lens 1 iR := fun d hd => by simp [iR] at hd; subst hd; exact Nat.le_refl _

set_option maxHeartbeats 8000000 in
theorem law_runs (w : World) : Calls Try.prog 3 #[] w (TruthPost true w) := by
  obtain ⟨W0, hW0⟩ : ∃ W0, (w.alloc (.cells #[.int .u8 5] 5)).alloc (.cells #[.int .i64 1, .int .i64 1, .int .i64 0, .int .i64 0, .bool false, .string { data := #[97] }, .string { data := #[] }, .slice none 0 0, .int .i64 2, .int .i64 1, .int .i64 0, .int .i64 0, .bool false, .string { data := #[] }, .string { data := #[] }, .slice (some { block := w.heap.size, off := 0 }) 1 1, .int .i64 6, .int .i64 0, .int .i64 0, .int .i64 0, .bool false, .string { data := #[97] }, .string { data := #[98] }, .slice none 0 0] 29) = W0 := ⟨_, rfl⟩
  have K0 := Lib.hid (show Below w.heap.size w W0 by rw [← hW0]; exact ((Below.refl _ _).alloc (Nat.le_refl _) _).alloc (by simp) _)
  have HO := Lib.hid (show OpsIn W0 (some ⟨w.heap.size + 1, 0, none⟩) 3 3 [⟨oA, none, 0⟩, ⟨oB, some ⟨w.heap.size, 0, none⟩, 1⟩, ⟨oC, none, 0⟩] by
    have hr : Row W0 (w.heap.size + 1) 29 (elO.cells [⟨oA, none, 0⟩, ⟨oB, some ⟨w.heap.size, 0, none⟩, 1⟩, ⟨oC, none, 0⟩]).toArray := by
      rw [← hW0]
      have := Row.new (w.alloc (.cells #[.int .u8 5] 5)) 29 (elO.cells [⟨oA, none, 0⟩, ⟨oB, some ⟨w.heap.size, 0, none⟩, 1⟩, ⟨oC, none, 0⟩]).toArray
      have e : (w.alloc (.cells #[.int .u8 5] 5)).heap.size = w.heap.size + 1 := by simp
      rw [e] at this
      exact this
    refine ⟨(OwnS.mk' (E := elO) (B := 0) (L := [⟨oA, none, 0⟩, ⟨oB, some ⟨w.heap.size, 0, none⟩, 1⟩, ⟨oC, none, 0⟩]) (Nat.zero_le _) hr (Nat.le_refl 3) (by unfold maxLen; omega) rfl rfl).sl', fun x hx => ?_⟩
    have hb : Nums .u8 W0 (some ⟨w.heap.size, 0, none⟩) 1 1 [5] := by
      rw [← hW0]
      have := nums_new .u8 5 w [5] #[] 1 1 rfl (Nat.le_refl _) (by unfold maxLen; omega)
      exact (by simpa using this : Nums .u8 (w.alloc (.cells #[.int .u8 5] 5)) (some ⟨w.heap.size, 0, none⟩) 1 1 [5]).on ((Below.refl _ _).alloc (Nat.le_refl _) _)
    simp at hx
    rcases hx with rfl | rfl | rfl
    · exact ⟨nums_nil .u8 _, by simp [oA], by unfold maxLen; decide, by unfold maxLen; decide⟩
    · exact ⟨hb, by simp [oB], by show oB.name.size ≤ maxLen; unfold maxLen; decide, by show oB.to.size ≤ maxLen; unfold maxLen; decide⟩
    · exact ⟨nums_nil .u8 _, by simp [oC], by unfold maxLen; decide, by unfold maxLen; decide⟩)
  have HW0 := Lib.hid hW0
  clear hW0
  go_enter Try.func3, Try.ntmps3
  go_wp2_with fail
  rw [HW0.out]
  refine (all_any none 0 none 0 [] [] (some ⟨w.heap.size + 1, 0, none⟩) 3 3 [⟨oA, none, 0⟩, ⟨oB, some ⟨w.heap.size, 0, none⟩, 1⟩, ⟨oC, none, 0⟩] 0 W0 (im_nil W0) (by simp) (by simp) (fun d hd => by simp [ig] at hd) HO.out (by intro x hx; simp at hx; rcases hx with rfl | rfl | rfl; exact ⟨by decide, by decide⟩; (show Small oB; exact ⟨by decide, by decide⟩); exact ⟨by decide, by decide⟩) (by omega) true (by simp [good_nil, ig]) iR (fun _ => runs_is) (fun h => by cases h)).mono ?_
  rintro e w1 ⟨D, d, D', d', M, Y, hi, he, him, k1⟩
  obtain rfl : e = .returned (.agg #[.slice D M.length d, .slice D' Y.length d']) := he
  have K1 := Lib.hid (K0.out.trans (k1.mono K0.out.size))
  have HI := Lib.hid hi
  obtain ⟨W2, hW2⟩ : ∃ W2, w1.alloc (.cells #[.slice D M.length d, .slice D' Y.length d'] 25) = W2 := ⟨_, rfl⟩
  have kk : Below w1.heap.size w1 W2 := by rw [← hW2]; exact (Below.refl _ _).alloc (Nat.le_refl _) _
  have K2 := Lib.hid (K1.out.trans (kk.mono K1.out.size))
  have B2 := Lib.hid (show IBox W2 w1.heap.size D M.length d D' Y.length d' by rw [← hW2]; exact ibox_new _ _ _ _ _ _ _)
  have I2 := Lib.hid (him.im.on kk)
  have HG := Lib.hid (show GoodI (ig M Y) by rw [hi]; exact runs_good)
  have HW2 := Lib.hid hW2
  clear hi him k1 kk hW2
  go_upto_region 2 with fail
  rw [HW2.out]
  have b0 := B2.out.c0; have b1 := B2.out.c1
  go_wp2_with fail
  refine (find_good I2.out HG.out ⟨#[98]⟩ 1 true (by rw [HI.out]; exact runs_find1)).mono ?_
  rintro e w3 ⟨rfl, k3⟩
  have K3 := Lib.hid (K2.out.trans (k3.mono K2.out.size)); have B3 := Lib.hid (B2.out.on k3); have I3 := Lib.hid (I2.out.on k3)
  clear k3 b0 b1
  have b0 := B3.out.c0; have b1 := B3.out.c1
  go_wp2_with fail
  refine (get_good I3.out HG.out 1 (by omega) (by rw [HI.out]; exact runs_lens) 1 1 _ true (by rw [HI.out]; exact runs_get)).mono ?_
  rintro e w4 ⟨F, n, f, L, he, hL, hm, k4⟩
  obtain rfl : e = .returned (.tuple #[.agg #[.int .i64 1, .slice F n f], .bool true]) := he
  have K4 := Lib.hid (K3.out.trans (k4.mono K3.out.size)); have B4 := Lib.hid (B3.out.on k4); have I4 := Lib.hid (I3.out.on k4)
  clear k4 b0 b1 hm hL
  obtain ⟨W5, hW5⟩ : ∃ W5, w4.alloc (.cells #[.int .i64 1, .slice F n f] 34) = W5 := ⟨_, rfl⟩
  have kk : Below w4.heap.size w4 W5 := by rw [← hW5]; exact (Below.refl _ _).alloc (Nat.le_refl _) _
  have K5 := Lib.hid (K4.out.trans (kk.mono K4.out.size))
  have B5 := Lib.hid (B4.out.on kk); have I5 := Lib.hid (I4.out.on kk)
  have C5 := Lib.hid (show Box W5 w4.heap.size 1 F n f by rw [← hW5]; exact box_new _ _ _ _ _)
  have HW5 := Lib.hid hW5
  clear kk hW5
  go_upto_region 4 with fail
  rw [HW5.out]
  have b0 := B5.out.c0; have b1 := B5.out.c1
  go_wp2_with fail
  refine (find_good I5.out HG.out ⟨#[97]⟩ 0 false (by rw [HI.out]; exact runs_find2)).mono ?_
  rintro e w6 ⟨rfl, k6⟩
  have K6 := Lib.hid (K5.out.trans (k6.mono K5.out.size)); have B6 := Lib.hid (B5.out.on k6); have I6 := Lib.hid (I5.out.on k6); have C6 := Lib.hid (C5.out.on k6)
  clear k6 b0 b1
  have b0 := B6.out.c0; have b1 := B6.out.c1; have c0 := C6.out.c0
  go_wp2_with fail
  refine (used_good I6.out HG.out 1 (by omega) (by rw [HI.out]; exact runs_lens) 1 (by rw [HI.out, runs_used]; rfl)).mono ?_
  rintro e w7 ⟨rfl, k7⟩
  have K7 := Lib.hid (K6.out.trans (k7.mono K6.out.size))
  clear k7 b0 b1 c0
  have n1 : okName ⟨#[120, 45, 49]⟩ = true := by decide +kernel
  have n2 : okName ⟨#[45, 120]⟩ = false := by decide +kernel
  have n3 : okName ⟨#[]⟩ = false := by decide +kernel
  have N1 := Lib.hid n1; have N2 := Lib.hid n2; have N3 := Lib.hid n3
  clear n1 n2 n3
  go_wp2_with fail
  refine (name_any ⟨#[120, 45, 49]⟩ w7 (by unfold maxLen; decide) true N1.out).mono ?_
  rintro e w8 ⟨rfl, rfl⟩
  go_wp2_with fail
  refine (name_any ⟨#[45, 120]⟩ w7 (by unfold maxLen; decide) false N2.out).mono ?_
  rintro e w8 ⟨rfl, rfl⟩
  go_wp2_with fail
  refine (name_any ⟨#[]⟩ w7 (by unfold maxLen; decide) false N3.out).mono ?_
  rintro e w8 ⟨rfl, rfl⟩
  go_wp2
  go_ret
  exact ⟨rfl, K7.out⟩
end Go.Proofs.Ytgaaieipeiekiaa
