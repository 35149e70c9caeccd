/- Contract of the law ImageApplies. / Contracts of the made names. / Contract of the made bytes. / Contract of the made contents. / Contract of the made images. -/
import Derived.Test.YtgaaieipeiekiaaGreatPkL
import Derived.Test.YtgaaieipeiekiaaGreatPkN
import Derived.Test.YtgaaieipeiekiaaGreatPkO
import Derived.Test.YtgaaieipeiekiaaGreatPkR
import Derived.Deep.RegionHeld3
import Derived.Test.YtgaaieipeiekiaaGreatPkE
import Derived.Test.YtgaaieipeiekiaaGreatPkQ
namespace Go.Proofs.YtgaaieipeiekiaaGreat
open Go.RowKit
set_option maxRecDepth 100000

theorem good_bool (I : Ig) : ∃ z : Bool, GoodI I ↔ z = true := by
  by_cases h : GoodI I
  · exact ⟨true, by simpa using h⟩
  · exact ⟨false, by simpa using h⟩
theorem pick_ig (z : Bool) (I J : Ig) : ∃ K : Ig, (z = true → I = K) ∧ (z = false → J = K) := by
  cases z
  · exact ⟨J, (fun h => by cases h), fun _ => rfl⟩
  · exact ⟨I, (fun _ => rfl), fun h => by cases h⟩
theorem FewI.lens {N : List Nm} {Z : List Nz} {w : World} (h : FewI N Z) (hx : ∀ z ∈ Z, Exts w z.A z.n z.c z.L) : Lens 60 (ig N Z) := fun d hd => by
  obtain ⟨z, hz, rfl⟩ := List.mem_map.1 hd
  have := h.2.2 z hz
  have := (hx z hz).len
  show z.L.length ≤ 60
  omega
def ImOp (b : Nat) (A : Option Addr) (n c : Nat) (A' : Option Addr) (n' c' : Nat) (kind ino pos size : Int) (keep : Bool) (name to : ByteArray) (BA : Option Addr) (m cb : Nat) (w' : World) : Prop :=
  w'.cell? ⟨b, 0, none⟩ = some (.slice A n c) ∧ w'.cell? ⟨b, 1, none⟩ = some (.slice A' n' c') ∧ w'.cell? ⟨b + 1, 0, none⟩ = some (.int .i64 kind) ∧ w'.cell? ⟨b + 1, 1, none⟩ = some (.int .i64 ino) ∧ w'.cell? ⟨b + 1, 2, none⟩ = some (.int .i64 pos) ∧ w'.cell? ⟨b + 1, 3, none⟩ = some (.int .i64 size) ∧ w'.cell? ⟨b + 1, 4, none⟩ = some (.bool keep) ∧ w'.cell? ⟨b + 1, 5, none⟩ = some (.string name) ∧ w'.cell? ⟨b + 1, 6, none⟩ = some (.string to) ∧ w'.cell? ⟨b + 1, 7, none⟩ = some (.slice BA m cb)

set_option maxHeartbeats 8000000 in
theorem law_applies (A : Option Addr) (n c : Nat) (A' : Option Addr) (n' c' : Nat) (N : List Nm) (Z : List Nz) (o : Opv) (BA : Option Addr) (cb : Nat) (w : World) (h : Im w A n c A' n' c' N Z) (ho : OpIn w o BA cb) (h9 : Op9 o) :
    Calls Tryz.prog 4 #[iv A n c A' n' c', ov o BA cb] w (TruthPost true w) := by
  obtain rfl := h.names.len
  obtain rfl := h.nodes.len
  obtain ⟨kind, ino, pos, size, keep, name, to, bs⟩ := o
  obtain ⟨W, hW⟩ : ∃ W, (w.alloc (.cells #[.slice A N.length c, .slice A' Z.length c'] 25)).alloc (.cells #[.int .i64 kind, .int .i64 ino, .int .i64 pos, .int .i64 size, .bool keep, .string name, .string to, .slice BA bs.length cb] 42) = W := ⟨_, rfl⟩
  have KW := Lib.hid (show Below w.heap.size w W by rw [← hW]; exact ((Below.refl _ _).alloc (Nat.le_refl _) _).alloc (by simp) _)
  have B0 := Lib.hid (show IBox W w.heap.size A N.length c A' Z.length c' by rw [← hW]; exact (ibox_new _ _ _ _ _ _ _).on ((Below.refl _ _).alloc (Nat.le_refl _) _))
  have O0 := Lib.hid (show OBox W (w.heap.size + 1) ⟨kind, ino, pos, size, keep, name, to, bs⟩ BA cb by
    rw [← hW]
    have := obox_new (w.alloc (.cells #[.slice A N.length c, .slice A' Z.length c'] 25)) ⟨kind, ino, pos, size, keep, name, to, bs⟩ BA cb
    simpa using this)
  have H := Lib.hid (h.on KW.out); have HO := Lib.hid (ho.on KW.out); have H9 := Lib.hid h9
  have HW := Lib.hid hW
  clear h ho h9 hW
  show Calls Tryz.prog 4 #[.agg #[.slice A N.length c, .slice A' Z.length c'], .agg #[.int .i64 kind, .int .i64 ino, .int .i64 pos, .int .i64 size, .bool keep, .string name, .string to, .slice BA bs.length cb]] w _
  go_enter Tryz.func4, Tryz.ntmps4
  go_upto_region 1 with fail
  rw [HW.out]
  have b0 := B0.out.c0; have b1 := B0.out.c1
  have o0 := O0.out.c0; have o1 := O0.out.c1; have o2 := O0.out.c2; have o3 := O0.out.c3; have o4 := O0.out.c4; have o5 := O0.out.c5; have o6 := O0.out.c6; have o7 := O0.out.c7
  simp only at o0 o1 o2 o3 o4 o5 o6 o7
  go_wp2_with fail
  refine (few_img A N.length c A' Z.length c' N Z W H.out).mono ?_
  rintro e w1 ⟨x, rfl, hx, k1⟩
  have K1 := Lib.hid (KW.out.trans (k1.mono KW.out.size)); have B1 := Lib.hid (B0.out.on k1); have H1 := Lib.hid (H.out.on k1); have O1 := Lib.hid (O0.out.on k1); have HO1 := Lib.hid (HO.out.on k1)
  clear k1 b0 b1 o0 o1 o2 o3 o4 o5 o6 o7
  have b0 := B1.out.c0; have b1 := B1.out.c1
  have o0 := O1.out.c0; have o1 := O1.out.c1; have o2 := O1.out.c2; have o3 := O1.out.c3; have o4 := O1.out.c4; have o5 := O1.out.c5; have o6 := O1.out.c6; have o7 := O1.out.c7
  simp only at o0 o1 o2 o3 o4 o5 o6 o7
  cases x with
  | false =>
    clear hx
    go_wp2_with fail
    refine (law_runs _).mono ?_
    rintro e w2 ⟨rfl, k2⟩
    have K2 := Lib.hid (K1.out.trans (k2.mono K1.out.size))
    go_wp2
    go_ret
    exact ⟨rfl, K2.out⟩
  | true =>
    have HF := Lib.hid (hx rfl)
    clear hx
    go_wp2_with fail
    refine (few_op _ BA cb w1 HO1.out).mono ?_
    rintro e w2 ⟨y, rfl, hy, k2⟩
    have K2 := Lib.hid (K1.out.trans (k2.mono K1.out.size)); have B2 := Lib.hid (B1.out.on k2); have H2 := Lib.hid (H1.out.on k2); have O2 := Lib.hid (O1.out.on k2); have HO2 := Lib.hid (HO1.out.on k2)
    clear k2 b0 b1 o0 o1 o2 o3 o4 o5 o6 o7
    cases y with
    | false =>
      clear hy
      go_wp2_with fail
      refine (law_runs _).mono ?_
      rintro e w3 ⟨rfl, k3⟩
      have K3 := Lib.hid (K2.out.trans (k3.mono K2.out.size))
      go_wp2
      go_ret
      exact ⟨rfl, K3.out⟩
    | true =>
      have HS := Lib.hid (hy rfl)
      clear hy
      obtain ⟨z, hz⟩ := good_bool (ig N Z)
      obtain ⟨I, hI1, hI2⟩ := pick_ig z (applyS (ig N Z) ⟨kind, ino, pos, size, keep, name, to, bs⟩) (ig N Z)
      have HZ := Lib.hid hz; have HI1 := Lib.hid hI1; have HI2 := Lib.hid hI2
      have HN := Lib.hid (show N.length ≤ 1000 ∧ Z.length ≤ 1000 by have h1 := HF.out.1; have h2 := HF.out.2.1; exact ⟨by omega, by omega⟩)
      have HL := Lib.hid (HF.out.lens H2.out.exts)
      have Kd := Lib.hid (show Below w2.heap.size w2 w2.drew from (Below.refl _ _).drew)
      have SF := Lib.hid (fun w' (k : Below w2.heap.size w2 w') => show ImOp w.heap.size A N.length c A' Z.length c' kind ino pos size keep name to BA bs.length cb w' from ⟨(B2.out.on k).c0, (B2.out.on k).c1, (O2.out.on k).c0, (O2.out.on k).c1, (O2.out.on k).c2, (O2.out.on k).c3, (O2.out.on k).c4, (O2.out.on k).c5, (O2.out.on k).c6, (O2.out.on k).c7⟩)
      have S0 := SF.out _ Kd.out
      clear hz hI1 hI2
      go_wp2_with fail
      go_region_held3 (fun w' => w'.cell? ⟨w.heap.size, 0, none⟩ = some (.slice A N.length c) ∧ w'.cell? ⟨w.heap.size, 1, none⟩ = some (.slice A' Z.length c') ∧ w'.cell? ⟨w.heap.size + 1, 0, none⟩ = some (.int .i64 kind) ∧ w'.cell? ⟨w.heap.size + 1, 1, none⟩ = some (.int .i64 ino) ∧ w'.cell? ⟨w.heap.size + 1, 2, none⟩ = some (.int .i64 pos) ∧ w'.cell? ⟨w.heap.size + 1, 3, none⟩ = some (.int .i64 size) ∧ w'.cell? ⟨w.heap.size + 1, 4, none⟩ = some (.bool keep) ∧ w'.cell? ⟨w.heap.size + 1, 5, none⟩ = some (.string name) ∧ w'.cell? ⟨w.heap.size + 1, 6, none⟩ = some (.string to) ∧ w'.cell? ⟨w.heap.size + 1, 7, none⟩ = some (.slice BA bs.length cb))
        (first | assumption | exact S0 | exact SF.out _ Kd.out | exact SF.out _ K3.out | exact SF.out _ K4.out | exact SF.out _ K5.out | exact SF.out _ K6.out)
        (first | (go_at_call 23; refine (apply_any A c A' c' N Z ⟨kind, ino, pos, size, keep, name, to, bs⟩ BA cb 60 _ (H2.out.on Kd.out) HN.out.1 HN.out.2 HL.out (HO2.out.on Kd.out) HS.out (by omega) z HZ.out I HI1.out HI2.out).mono ?_; rintro e w3 ⟨D, d, D', d', M, Y, hi, he, him, k3⟩; obtain rfl : e = .returned (.agg #[.slice D M.length d, .slice D' Y.length d']) := he; have K3 := Lib.hid (Kd.out.trans (k3.mono Kd.out.size)); have HM3 := Lib.hid him; have HI3 := Lib.hid hi; clear k3 him hi) | (go_at_call 24; refine (rapply_any A c A' c' N Z ⟨kind, ino, pos, size, keep, name, to, bs⟩ BA cb 60 _ (H2.out.on K3.out) HN.out.1 HN.out.2 HL.out (HO2.out.on K3.out) H9.out (by omega) z HZ.out I HI1.out HI2.out).mono ?_; rintro e w4 ⟨F, f, F', f', R, X, hi, he, him, k4, _⟩; obtain rfl : e = .returned (.agg #[.slice F R.length f, .slice F' X.length f']) := he; have K4 := Lib.hid (K3.out.trans (k4.mono K3.out.size)); have HM4 := Lib.hid him; have HI4 := Lib.hid hi; have HM3' := Lib.hid (HM3.out.on k4); clear k4 him hi) | (go_at_call 21; refine (rsame_img D M.length d D' Y.length d' M Y F R.length f F' X.length f' R X _ HM3'.out.im HM4.out.im true (by simp [HI3.out, HI4.out])).mono ?_; rintro e w5 ⟨rfl, k5⟩; have K5 := Lib.hid (K4.out.trans (k5.mono K4.out.size)); clear k5) | (go_at_call 8; refine (law_runs _).mono ?_; rintro e w6 ⟨rfl, k6⟩; have K6 := Lib.hid (K5.out.trans (k6.mono K5.out.size)); clear k6))
      have KF := Lib.hid (K2.out.trans (K6.out.mono K2.out.size))
      go_wp2
      go_ret
      exact ⟨rfl, KF.out⟩
theorem law_applies_in (A : Option Addr) (n c : Nat) (A' : Option Addr) (n' c' : Nat) (N : List Nm) (Z : List Nz) (o : Opv) (BA : Option Addr) (cb : Nat) (w : World) (h : Im w A n c A' n' c' N Z) (ho : OpIn w o BA cb) (hw : (Lit.int .i64 o.pos).wf = true ∧ (Lit.int .i64 o.size).wf = true) :
    Calls Tryz.prog 4 #[iv A n c A' n' c', ov o BA cb] w (TruthPost true w) :=
  law_applies A n c A' n' c' N Z o BA cb w h ho ⟨by have := bounds_i64 hw.1; omega, by have := bounds_i64 hw.2; omega⟩
end Go.Proofs.YtgaaieipeiekiaaGreat

namespace Go.Proofs.YtgaaieipeiekiaaGreat
open Go.RowKit
set_option maxRecDepth 100000

/-- A text that answers. -/
def StrPost (P : ByteArray → Prop) (w : World) (e : Ending) (w' : World) : Prop := ∃ t, e = .returned (.string t) ∧ P t ∧ Below w.heap.size w w'

set_option maxHeartbeats 4000000 in
theorem right_any (s : Int) (w : World) (h0 : 0 ≤ s) : Calls Tryz.prog 28 #[.int .u8 s] w (StrPost (fun t => okName t = true) w) := by
  have hc : s.tmod 6 = 0 ∨ s.tmod 6 = 1 ∨ s.tmod 6 = 2 ∨ s.tmod 6 = 3 ∨ s.tmod 6 = 4 ∨ s.tmod 6 = 5 := by rw [Int.tmod_eq_emod_of_nonneg h0]; omega
  rcases hc with hr | hr | hr | hr | hr | hr <;>
  · go_enter Tryz.func28, Tryz.ntmps28
    go_wp2
    go_ret
    exact ⟨_, rfl, by decide +kernel, (Below.refl _ _).alloc (Nat.le_refl _) _⟩

set_option maxHeartbeats 4000000 in
theorem kname_any (s : Int) (w : World) (h0 : 0 ≤ s) : Calls Tryz.prog 51 #[.int .u8 s] w (StrPost (fun t => t.size ≤ 60) w) := by
  have hc : s.tmod 18 = 0 ∨ s.tmod 18 = 1 ∨ s.tmod 18 = 2 ∨ s.tmod 18 = 3 ∨ s.tmod 18 = 4 ∨ s.tmod 18 = 5 ∨ s.tmod 18 = 6 ∨ s.tmod 18 = 7 ∨ s.tmod 18 = 8 ∨ s.tmod 18 = 9 ∨ s.tmod 18 = 10 ∨ s.tmod 18 = 11 ∨ s.tmod 18 = 12 ∨ s.tmod 18 = 13 ∨ s.tmod 18 = 14 ∨ s.tmod 18 = 15 ∨ s.tmod 18 = 16 ∨ s.tmod 18 = 17 := by rw [Int.tmod_eq_emod_of_nonneg h0]; omega
  rcases hc with hr | hr | hr | hr | hr | hr | hr | hr | hr | hr | hr | hr | hr | hr | hr | hr | hr | hr <;>
  · go_enter Tryz.func51, Tryz.ntmps51
    go_wp2
    go_ret
    exact ⟨_, rfl, by decide +kernel, (Below.refl _ _).alloc (Nat.le_refl _) _⟩
end Go.Proofs.YtgaaieipeiekiaaGreat

namespace Go.Proofs.YtgaaieipeiekiaaGreat
open Go.RowKit
set_option maxRecDepth 100000

/-- Bytes of one's own. -/
def ByPost (n : Nat) (w : World) (e : Ending) (w' : World) : Prop := ∃ A c zs, e = .returned (.slice A n c) ∧ Nums .u8 w' A n c zs ∧ (∀ x ∈ zs, 0 ≤ x ∧ x ≤ 255) ∧ (∀ g o, A = some ⟨g, o, none⟩ → w.heap.size ≤ g) ∧ Below w.heap.size w w'
theorem by8_set (zs : List Int) (k : Nat) (v : Int) : (by8 zs).toArray.setIfInBounds k (.int .u8 v) = (by8 (zs.set k v)).toArray := by
  simp [by8]
/-- The bytes so far. -/
structure Bz (w wr : World) (g n : Nat) (zs : List Int) : Prop where
  row : Row wr g 5 (by8 zs).toArray
  len : zs.length = n
  byte : ∀ x ∈ zs, 0 ≤ x ∧ x ≤ 255
  below : Below w.heap.size w wr
  own : w.heap.size ≤ g
section
variable {w wr : World} {g n : Nat} {zs : List Int}
theorem Bz.cell (h : Bz w wr g n zs) (k : Nat) (hk : k < n) : wr.cell? ⟨g, k, none⟩ = some (.int .u8 (zs.getD k 0)) := by
  have := h.len
  rw [h.row.at, List.getElem?_toArray, by8, List.getElem?_map, List.getElem?_eq_getElem (by omega), List.getD_eq_getElem?_getD, List.getElem?_eq_getElem (by omega)]
  rfl
theorem Bz.set (h : Bz w wr g n zs) (k : Nat) (v : Int) (h0 : 0 ≤ v) (h1 : v ≤ 255) : Bz w (wr.setCell ⟨g, k, none⟩ (.int .u8 v)) g n (zs.set k v) := by
  refine ⟨?_, by rw [List.length_set]; exact h.len, fun x hx => ?_, h.below.setCell h.own _, h.own⟩
  · have := h.row.setv k (.int .u8 v)
    rwa [by8_set] at this
  · rcases List.mem_or_eq_of_mem_set hx with hx | rfl
    · exact h.byte x hx
    · exact ⟨h0, h1⟩
end

set_option maxHeartbeats 4000000 in
theorem bytes_any (s : Int) (n : Nat) (w : World) (h0 : 0 ≤ s) (h1 : s ≤ 255) (hn : n ≤ 1000) : Calls Tryz.prog 52 #[.int .u8 s, .int .i64 n] w (ByPost n w) := by
  go_enter Tryz.func52, Tryz.ntmps52
  go_wp2_with (refine st_makeb rfl _ _ rfl (n : Int) n rfl rfl rfl (by omega) ?_; intro g W hg hr hb)
  have H := Lib.hid (show Bz w W g n (List.replicate n 0) from ⟨hr, by simp, fun x hx => by rw [List.mem_replicate] at hx; omega, hb, hg⟩)
  clear hr hb hg
  go_wp2
  go_loopw [6] (fun i wr => ∃ (k : Nat) (zs : List Int), k ≤ n ∧ i = .int .i64 k ∧ Hid (Bz w wr g n zs)) (fun i _ => n - (intOf i).toNat)
  case atStart => exact ⟨0, _, Nat.zero_le _, rfl, H.out⟩
  case round =>
    obtain ⟨k, zs, hk, rfl, H⟩ := hrel
    by_cases hlt : k < n
    · have x0 := H.out.cell k hlt
      have x1 := H.out.row.free k
      have hki : (k : Int) < (n : Int) := by omega
      obtain ⟨q, hq⟩ : ∃ q : Bool, (((k : Int) / 8 + s) % 3 == 0) = q := ⟨_, rfl⟩
      cases q with
      | false =>
        go_wp2
        go_roundw
        case rel => exact ⟨k + 1, _, by omega, by go_num, H.out.set k _ (Int.emod_nonneg _ (by decide)) (by have := Int.emod_lt_of_pos ((wrap64 (s * 31 + (k : Int) * 7 + wrap64 ((k : Int) / 8 * s))).tmod 251) (show (0 : Int) < 256 by decide); omega)⟩
        case measure => simp [intOf]; omega
      | true =>
        go_wp2
        go_roundw
        case rel => exact ⟨k + 1, _, by omega, by go_num, (H.out.set k _ (Int.emod_nonneg _ (by decide)) (by have := Int.emod_lt_of_pos ((wrap64 (s * 31 + (k : Int) * 7 + wrap64 ((k : Int) / 8 * s))).tmod 251) (show (0 : Int) < 256 by decide); omega)).set k 0 (by decide) (by decide)⟩
        case measure => simp [intOf]; omega
    · have hkn : k = n := by omega
      have hki : ¬ (k : Int) < (n : Int) := by omega
      go_wp2
      go_ret
      have hr := H.out.row
      have hl := H.out.len
      exact ⟨_, _, zs, rfl, by have := nums_row hr (by rw [hl]; unfold maxLen; omega); rwa [hl] at this, H.out.byte, (fun g' o h => by injection h with h; injection h with h; subst h; exact H.out.own), H.out.below⟩
end Go.Proofs.YtgaaieipeiekiaaGreat

namespace Go.Proofs.YtgaaieipeiekiaaGreat
open Go.RowKit
set_option maxRecDepth 100000

/-- Of what blocks are made. -/
structure Bk where
  g : Int
  s : Int
deriving Inhabited
def elB : El Bk := ⟨111, 2, fun x => [.int .u8 x.g, .int .u8 x.s], fun _ => rfl, fun x v h => by simp at h; rcases h with rfl | rfl <;> rfl, by decide⟩
def Bk.ok (x : Bk) : Prop := (0 ≤ x.g ∧ x.g ≤ 255) ∧ (0 ≤ x.s ∧ x.s ≤ 255)
theorem Bks.at {w : World} {b o n c : Nat} {M : List Bk} (h : Sl elB w (some ⟨b, o, none⟩) n c M) (j : Nat) (hj : j < n) : w.cell? ⟨b, o + j * 2, none⟩ = some (.int .u8 (M.getD j default).g) ∧ w.cell? ⟨b, o + j * 2 + 1, none⟩ = some (.int .u8 (M.getD j default).s) := by
  obtain ⟨b', o', he, _, hc⟩ := h.cells (by omega)
  injection he with he; injection he with e1 e2; subst e1 e2
  exact ⟨hc j hj 0 _ rfl, hc j hj 1 _ rfl⟩
theorem XRow.putb {w : World} {b : Nat} {no : Int} {bs : List Int} (h : XRow w b ⟨no, bs⟩) (k : Nat) (v : Int) (h0 : 0 ≤ v) (h1 : v ≤ 255) : XRow (w.setCell ⟨b, 1 + k, none⟩ (.int .u8 v)) b ⟨no, bs.set k v⟩ := by
  refine ⟨?_, by show (bs.set k v).length = 8; rw [List.length_set]; exact h.2.1, fun x hx => ?_⟩
  · have := h.1.setv (1 + k) (.int .u8 v)
    have hx : (ecl ⟨no, bs⟩).toArray.setIfInBounds (1 + k) (.int .u8 v) = (ecl ⟨no, bs.set k v⟩).toArray := by
      simp [ecl, Nat.add_comm 1 k, List.map_set]
    rwa [hx] at this
  · rcases List.mem_or_eq_of_mem_set hx with hx | rfl
    · exact h.2.2 x hx
    · exact ⟨h0, h1⟩
/-- A made content. -/
def KcPost (w : World) (e : Ending) (w' : World) : Prop := ∃ s A c L, e = .returned (ct s A L.length c) ∧ may s L = true ∧ L.length ≤ 30 ∧ Mut w.heap.size w' A L.length c L ∧ Below w.heap.size w w'
/-- The content so far. -/
structure Cz (w wr : World) (r no : Int) (i : Nat) (A : Option Addr) (c : Nat) (L : List Ex) : Prop where
  box : Box wr (w.heap.size + 1) r A L.length c
  res : Box wr w.heap.size 0 none 0 0
  own : Own (w.heap.size + 2) wr (.slice A L.length c) L
  good : Good r L
  lt : ∀ e ∈ L, e.no ≤ no
  len : L.length = i
  below : Below w.heap.size w wr
  size : w.heap.size + 2 ≤ wr.heap.size
section
variable {w wr w2 : World} {r no : Int} {i : Nat} {A : Option Addr} {c : Nat} {L : List Ex}
theorem Cz.on (h : Cz w wr r no i A c L) (k : Below wr.heap.size wr w2) : Cz w w2 r no i A c L :=
  ⟨h.box.on k, h.res.on k, h.own.on k, h.good, h.lt, h.len, h.below.trans (k.mono h.below.size), Nat.le_trans h.size k.size⟩
theorem good_push (h : Good r L) (hl : ∀ e ∈ L, e.no ≤ no) {no' : Int} (hn : no < no') (h0 : 0 ≤ no') (h1 : no' < 137438953472) {bs : List Int} (hb : ∀ j : Nat, j < 8 → r ≤ no' * 8 + (j : Int) → bs.getD j 0 = 0) : Good r (L ++ [⟨no', bs⟩]) := by
  refine ⟨h.s0, h.s1, ?_, fun e he => ?_, fun e he => ?_⟩
  · unfold Up
    rw [List.pairwise_append]
    refine ⟨h.up, List.pairwise_singleton _ _, fun a ha b hb => ?_⟩
    rw [List.mem_singleton] at hb; subst hb
    have := hl a ha
    show a.no < no'
    omega
  · rcases List.mem_append.1 he with he | he
    · exact h.rng e he
    · rw [List.mem_singleton] at he; subst he; exact ⟨h0, h1⟩
  · rcases List.mem_append.1 he with he | he
    · exact h.bare e he
    · rw [List.mem_singleton] at he; subst he; exact bare_of hb
theorem Cz.push (h : Cz w wr r no i A c L) {no' : Int} (hn : no < no') (h0 : 0 ≤ no') (h1 : no' < 137438953472) {bs : List Int} (hb : ∀ j : Nat, j < 8 → r ≤ no' * 8 + (j : Int) → bs.getD j 0 = 0) {w5 : World} {A5 : Option Addr} {N5 d5 : Nat} (q : Own (w.heap.size + 2) w5 (.slice A5 N5 d5) (L ++ [(⟨no', bs⟩ : Ex)])) (k : Below (w.heap.size + 2) wr w5) :
    Cz w (w5.setCell ⟨w.heap.size + 1, 1, none⟩ (.slice A5 N5 d5)) r no' (i + 1) A5 d5 (L ++ [(⟨no', bs⟩ : Ex)]) := by
  obtain ⟨A6, c6, hv, hm⟩ := q.mut
  injection hv with e1 e2 e3
  subst e1 e2 e3
  have hb1 : Box w5 (w.heap.size + 1) r A L.length c := (k.block _ (by omega)).trans h.box
  have hb0 : Box w5 w.heap.size 0 none 0 0 := (k.block _ (by omega)).trans h.res
  have ho := (Only.refl (fun d => d = w.heap.size + 1) w5).setCell ⟨w.heap.size + 1, 1, none⟩ (fun _ => rfl) (.slice A5 (L ++ [(⟨no', bs⟩ : Ex)]).length d5)
  refine ⟨Row.setv hb1 1 _, Row.past hb0 _ _ _ (by omega), ?_, good_push h.good h.lt hn h0 h1 hb, fun e he => ?_, by rw [List.length_append, h.len]; rfl, (h.below.trans (k.mono (by omega))).setCell (Nat.le_add_right _ _) _, ?_⟩
  · obtain ⟨hl, hh⟩ := q.row
    rcases hh with ⟨he, hz⟩ | ⟨g, cap, cur, he, hB, hg, hr⟩
    · exact ⟨⟨hl, .inl ⟨he, hz⟩⟩, q.ok⟩
    · refine ⟨⟨hl, .inr ⟨g, cap, cur, he, hB, ?_, hr⟩⟩, q.ok⟩
      exact (ho.block g (Array.getElem?_eq_some_iff.1 hg).1 (by omega)).trans hg
  · rcases List.mem_append.1 he with he | he
    · have := h.lt e he; omega
    · rw [List.mem_singleton] at he; subst he; exact Int.le_refl _
  · have := k.size; have := h.size
    simp [World.setCell]; omega
end

set_option maxHeartbeats 8000000 in
theorem content_any (A : Option Addr) (n c : Nat) (M : List Bk) (t : Int) (w : World) (h : Sl elB w A n c M) (hM : ∀ x ∈ M, x.ok) (h0 : 0 ≤ t) : Calls Tryz.prog 50 #[.slice A n c, .int .u16 t] w (KcPost w) := by
  obtain ⟨r, hr, r0, r1⟩ : ∃ r : Int, t.tmod 500 = r ∧ 0 ≤ r ∧ r < 500 := ⟨_, rfl, by rw [Int.tmod_eq_emod_of_nonneg h0]; omega, by rw [Int.tmod_eq_emod_of_nonneg h0]; omega⟩
  have hn := h.max
  have HMo := Lib.hid hM
  obtain ⟨W, hW⟩ : ∃ W, (w.alloc (.cells #[.int .i64 0, .slice none 0 0] 32)).alloc (.cells #[.int .i64 r, .slice none 0 0] 32) = W := ⟨_, rfl⟩
  have KW := Lib.hid (show Below w.heap.size w W by rw [← hW]; exact ((Below.refl _ _).alloc (Nat.le_refl _) _).alloc (by simp) _)
  have H := Lib.hid h
  have C0 := Lib.hid (show Cz w W r (-1) 0 none 0 [] by
    refine ⟨?_, ?_, own_nil _ _, ⟨r0, by omega, List.Pairwise.nil, by simp, by simp⟩, by simp, rfl, KW.out, by rw [← hW]; simp⟩
    · rw [← hW]
      have := box_new (w.alloc (.cells #[.int .i64 0, .slice none 0 0] 32)) r none 0 0
      simpa using this
    · rw [← hW]; exact (box_new w 0 none 0 0).on ((Below.refl _ _).alloc (Nat.le_refl _) _))
  have HW := Lib.hid hW
  clear h hM KW hW
  go_enter Tryz.func50, Tryz.ntmps50
  go_upto_region 2 with fail
  rw [HW.out]
  go_wp2
  go_loopw [6, 7] (fun x y wr => ∃ (i : Nat) (no : Int) (A : Option Addr) (c : Nat) (L : List Ex), i ≤ n ∧ i ≤ 30 ∧ -1 ≤ no ∧ no ≤ 3 * (i : Int) ∧ x = .int .i64 no ∧ y = .int .i64 i ∧ Hid (Cz w wr r no i A c L)) (fun _ y _ => n - (intOf y).toNat)
  case atStart => exact ⟨0, -1, none, 0, [], Nat.zero_le _, Nat.zero_le _, Int.le_refl _, by omega, rfl, rfl, C0.out⟩
  case round =>
    obtain ⟨i, no, F, f, L, hi, hi30, hno, hno3, rfl, rfl, C⟩ := hrel
    clear C0
    by_cases hlt : i < n
    · by_cases h30 : i < 30
      · obtain ⟨b, o, rfl, hbl, _⟩ := H.out.cells (by omega)
        have HX := Lib.hid (fun (v : World) (k : Below wr.heap.size wr v) => Bks.at (H.out.on (C.out.below.trans (k.mono C.out.below.size))) i hlt)
        have hok := HMo.out _ (H.out.mem i hlt)
        obtain ⟨x, hx⟩ : ∃ x, M.getD i default = x := ⟨_, rfl⟩
        rw [hx] at HX hok
        clear hx
        obtain ⟨xg, xs⟩ := x
        obtain ⟨⟨g0, g1⟩, s0, s1⟩ := hok
        simp only at g0 g1 s0 s1
        obtain ⟨x0, _⟩ := HX.out _ (Below.refl _ _)
        simp only at x0
        obtain ⟨y, hy, y0, y1⟩ : ∃ y : Int, xg.tmod 3 = y ∧ 0 ≤ y ∧ y < 3 := ⟨_, rfl, by rw [Int.tmod_eq_emod_of_nonneg g0]; omega, by rw [Int.tmod_eq_emod_of_nonneg g0]; omega⟩
        have hin : (i : Int) < (n : Int) := by omega
        have h30i : (i : Int) < 30 := by omega
        clear h30
        obtain ⟨no', hno', q0, q1, q2⟩ : ∃ no' : Int, no + 1 + y = no' ∧ 0 ≤ no' ∧ no < no' ∧ no' ≤ 3 * ((i + 1 : Nat) : Int) := ⟨_, rfl, by omega, by omega, by omega⟩
        have HOK := Lib.hid (ok_nul no')
        go_wp2_with (first | (refine st_build rfl _ rfl no' rfl ?_) | (refine st_allocx rfl rfl ?_; intro b1 w3 hb1 x1' k3; have X1 := Lib.hid x1'; have K3 := Lib.hid k3; clear x1' k3) | (refine st_storev rfl _ _ rfl b1 rfl (⟨no', nul8⟩ : Ex) rfl HOK.out _ X1.out ?_; intro w4 x2 o2 s2; have X2 := Lib.hid x2; have K4 := Lib.hid (K3.out.trans (o2.below K3.out.size (fun d hd => by omega))); clear x2 o2 s2; obtain ⟨_, x4⟩ := HX.out _ K4.out; simp only at x4))
        refine (bytes_any xs 8 w4 s0 s1 (by omega)).mono ?_
        rintro e w5 ⟨B, cb, zs, rfl, hz, hzb, hzn, k5⟩
        have X5 := Lib.hid (X2.out.on k5); have K5 := Lib.hid (K4.out.trans (k5.mono K4.out.size))
        have C5 := Lib.hid (C.out.on K5.out)
        have HB1 := Lib.hid (show b1 ≠ w.heap.size + 1 ∧ b1 < w4.heap.size by have := C.out.size; have := X2.out.lt; exact ⟨by omega, this⟩)
        obtain ⟨zb, zo, rfl, hzl, hzc⟩ := hz.cells (by omega)
        have HZ := Lib.hid hz; have HZb := Lib.hid hzb
        have hzz := hzn zb zo rfl
        have HZn := Lib.hid (show zb ≠ b1 by have := HB1.out; omega)
        have HC6 := Lib.hid (fun (v : World) (k : Only (fun d => d = b1) w5 v) => C.out.on (K5.out.trans (k.below K5.out.size (fun d hd => by subst hd; exact hb1))))
        have HZx := Lib.hid (fun (v : World) (k : Only (fun d => d = b1) w5 v) (j : Nat) (hj : j < 8) => (k.cell (p := ⟨zb, zo + j, none⟩) hzl HZn.out).trans (hzc j hj))
        clear hz hzb hzc k5 x4 x0 X2 X1 K3 K4 hzn hzz
        go_wp2
        go_loopw [10] (fun z w6 => ∃ (k : Nat) (bs : List Int), k ≤ 8 ∧ z = .int .i64 k ∧ Hid (XRow w6 b1 ⟨no', bs⟩ ∧ (∀ j : Nat, r ≤ no' * 8 + (j : Int) → bs.getD j 0 = 0) ∧ Only (fun d => d = b1) w5 w6)) (fun z _ => 8 - (intOf z).toNat)
        case atStart => exact ⟨0, nul8, Nat.zero_le _, rfl, X5.out, fun j _ => by
          rw [List.getD_eq_getElem?_getD]
          rcases Nat.lt_or_ge j 8 with h | h
          · have : j = 0 ∨ j = 1 ∨ j = 2 ∨ j = 3 ∨ j = 4 ∨ j = 5 ∨ j = 6 ∨ j = 7 := by omega
            rcases this with rfl | rfl | rfl | rfl | rfl | rfl | rfl | rfl <;> rfl
          · rw [List.getElem?_eq_none (by simpa [nul8] using h)]; rfl, Only.refl _ _⟩
        case round =>
          obtain ⟨k, bs, hk8, rfl, HK⟩ := hrel
          have c0 := (HC6.out _ HK.out.2.2).box.c0
          by_cases hk : k < 8
          · have z0 := HZx.out _ HK.out.2.2 k hk
            have y0' := HK.out.1.byte k hk
            have y1' := HK.out.1.free (1 + k)
            have hk8i : (k : Int) < 8 := by omega
            have hbk := HZb.out (zs.getD k 0) (by rw [List.getD_eq_getElem?_getD, List.getElem?_eq_getElem (by have := HZ.out.len; omega)]; exact List.getElem_mem _)
            obtain ⟨v, hv⟩ : ∃ v, zs.getD k 0 = v := ⟨_, rfl⟩
            rw [hv] at z0 hbk
            clear hv
            by_cases hp : no' * 8 + (k : Int) < r
            · have HN := Lib.hid (And.intro (HK.out.1.putb k v hbk.1 hbk.2) (And.intro (fun (j : Nat) (hj : r ≤ no' * 8 + (j : Int)) => (show (bs.set k v).getD j 0 = 0 by rw [List.getD_eq_getElem?_getD, List.getElem?_set_ne (by omega), ← List.getD_eq_getElem?_getD]; exact HK.out.2.1 j hj)) (HK.out.2.2.setCell ⟨b1, 1 + k, none⟩ (fun _ => rfl) (.int .u8 v))))
              go_wp2
              go_roundw
              case rel => exact ⟨k + 1, _, by omega, by go_num, HN.out⟩
              case measure => simp [intOf]; omega
            · go_wp2
              go_roundw
              case rel => exact ⟨k + 1, _, by omega, by go_num, HK.out⟩
              case measure => simp [intOf]; omega
          · have hk8i : ¬ (k : Int) < 8 := by omega
            have C7 := Lib.hid (HC6.out _ HK.out.2.2)
            have HE := Lib.hid HK.out.1.2
            have HR := Lib.hid HK.out.1.range
            have HZr := Lib.hid HK.out.2.1
            have hL := C7.out.len
            have hL30 : L.length + 1 ≤ 1000000 := by omega
            have hs7 := C7.out.size
            have HL := Lib.hid hL
            have c1 := C7.out.box.c1
            clear hL
            go_wp2_with (first | (refine st_loadx rfl _ rfl b1 0 rfl (⟨no', bs⟩ : Ex) HR.out HE.out ?_) | (refine st_one rfl _ rfl (⟨no', bs⟩ : Ex) rfl HE.out ?_; intro b7 w7 hb7 r7 k7; have E7 := Lib.hid (exts_one r7 HE.out); have K7 := Lib.hid k7; clear r7 k7) | (at_builtin; refine st_cat rfl _ _ rfl (w.heap.size + 2) (.slice F L.length f) L rfl (C7.out.own.on K7.out) _ _ _ [(⟨no', bs⟩ : Ex)] rfl E7.out hL30 (Nat.le_trans hs7 K7.out.size) ?_; intro v8 w8 q8 k8; obtain ⟨A8, d8, N8, hv8⟩ : ∃ A8 d8 N8, v8 = Value.slice A8 N8 d8 := (by obtain ⟨A8, d8, hv8, _⟩ := q8.mut; exact ⟨_, _, _, hv8⟩); subst hv8; have Q8 := Lib.hid q8; have K8 := Lib.hid ((K7.out.mono hs7).trans k8); clear q8 k8; have HB8 := Lib.hid (show Box w8 (w.heap.size + 1) r F L.length f from (K8.out.block _ (by omega)).trans C7.out.box); clear c1 c0; have c0 := HB8.out.c0; have c1 := HB8.out.c1; have f1 := HB8.out.f1))
            have HN := Lib.hid (C7.out.push q1 q0 (by omega) (fun j _ => HZr.out j) Q8.out K8.out)
            go_roundw
            case rel => exact ⟨i + 1, no', _, _, _, by omega, by omega, by omega, q2, rfl, by go_num, HN.out⟩
            case measure => simp [intOf]; omega
      · have h30i : ¬ (i : Int) < 30 := by omega
        have hin : (i : Int) < (n : Int) := by omega
        have c0 := C.out.box.c0; have c1 := C.out.box.c1; have d0 := C.out.res.c0; have d1 := C.out.res.c1; have e0 := C.out.res.f0; have e1 := C.out.res.f1
        go_wp2
        have X := C.out.res.put r F L.length f
        obtain ⟨A6, c6, hv, hm⟩ := C.out.own.mut
        injection hv with v1 v2 v3; subst v1 v3
        exact res_box1 rfl w.heap.size _ _ _ _ rfl X rfl ⟨r, F, f, L, rfl, (may_iff _ _).2 C.out.good, by have := C.out.len; omega, hm.only (only_put _ _ _ _) (fun g hg hd => by omega) (by omega), below_put C.out.below _ (Nat.le_refl _) _ _⟩
    · have hin : ¬ (i : Int) < (n : Int) := by omega
      have c0 := C.out.box.c0; have c1 := C.out.box.c1; have d0 := C.out.res.c0; have d1 := C.out.res.c1; have e0 := C.out.res.f0; have e1 := C.out.res.f1
      go_wp2
      have X := C.out.res.put r F L.length f
      obtain ⟨A6, c6, hv, hm⟩ := C.out.own.mut
      injection hv with v1 v2 v3; subst v1 v3
      exact res_box1 rfl w.heap.size _ _ _ _ rfl X rfl ⟨r, F, f, L, rfl, (may_iff _ _).2 C.out.good, by have := C.out.len; omega, hm.only (only_put _ _ _ _) (fun g hg hd => by omega) (by omega), below_put C.out.below _ (Nat.le_refl _) _ _⟩
end Go.Proofs.YtgaaieipeiekiaaGreat

namespace Go.Proofs.YtgaaieipeiekiaaGreat
open Go.RowKit
set_option maxRecDepth 100000

/-- Of what files are made. -/
structure Kp where
  name : Int
  size : Int
  A : Option Addr
  n : Nat
  c : Nat
  L : List Bk
deriving Inhabited
def elK : El Kp := ⟨87, 3, fun x => [.int .u8 x.name, .int .u16 x.size, .slice x.A x.n x.c], fun _ => rfl, fun x v h => by simp at h; rcases h with rfl | rfl | rfl <;> rfl, by decide⟩
structure Kp.ok (w : World) (x : Kp) : Prop where
  n0 : 0 ≤ x.name
  s0 : 0 ≤ x.size
  sl : Sl elB w x.A x.n x.c x.L
  bk : ∀ y ∈ x.L, y.ok
structure KpsIn (w : World) (A : Option Addr) (n c : Nat) (P : List Kp) : Prop where
  sl : Sl elK w A n c P
  ok : ∀ x ∈ P, x.ok w
theorem Kp.ok.on {w w' : World} {x : Kp} (h : x.ok w) (k : Below w.heap.size w w') : x.ok w' := ⟨h.n0, h.s0, h.sl.on k, h.bk⟩
theorem KpsIn.on {w w' : World} {A : Option Addr} {n c : Nat} {P : List Kp} (h : KpsIn w A n c P) (k : Below w.heap.size w w') : KpsIn w' A n c P := ⟨h.sl.on k, fun x hx => (h.ok x hx).on k⟩
theorem Kps.at {w : World} {b o n c : Nat} {M : List Kp} (h : Sl elK w (some ⟨b, o, none⟩) n c M) (j : Nat) (hj : j < n) : w.cell? ⟨b, o + j * 3, none⟩ = some (.int .u8 (M.getD j default).name) ∧ w.cell? ⟨b, o + j * 3 + 1, none⟩ = some (.int .u16 (M.getD j default).size) ∧ w.cell? ⟨b, o + j * 3 + 2, none⟩ = some (.slice (M.getD j default).A (M.getD j default).n (M.getD j default).c) := by
  obtain ⟨b', o', he, _, hc⟩ := h.cells (by omega)
  injection he with he; injection he with e1 e2; subst e1 e2
  exact ⟨hc j hj 0 _ rfl, hc j hj 1 _ rfl, hc j hj 2 _ rfl⟩

def nmL : List ByteArray := [⟨#[97]⟩, ⟨#[98]⟩, ⟨#[99]⟩, ⟨#[100, 115, 116]⟩, ⟨#[109, 97, 112]⟩, ⟨#[120, 45, 49]⟩]
def nmT (j : Nat) : ByteArray := nmL.getD j default
theorem nm_lt : ∀ k < 6, ∀ j < k, nlt (nmT j) (nmT k) = true := by decide +kernel
theorem nm_ok : ∀ k < 6, okName (nmT k) = true := by decide +kernel
theorem nm_size : ∀ k < 6, (nmT k).size ≤ 20 := by decide +kernel
theorem nm_list (j : Nat) (hj : j < 6) : ([Value.string { data := #[97] }, Value.string { data := #[98] }, Value.string { data := #[99] }, Value.string { data := #[100, 115, 116] }, Value.string { data := #[109, 97, 112] }, Value.string { data := #[120, 45, 49] }])[j] = Value.string (nmT j) := by
  have : j = 0 ∨ j = 1 ∨ j = 2 ∨ j = 3 ∨ j = 4 ∨ j = 5 := by omega
  rcases this with rfl | rfl | rfl | rfl | rfl | rfl <;> rfl

/-- The files so far: the first k names were looked for. -/
structure Ok (k : Nat) (M : List Nm) (Y : List Nz) : Prop where
  good : GoodI (ig M Y)
  at_ : ∀ x ∈ M, ∃ j, j < k ∧ x = ⟨nmT j, 10 - (j : Int)⟩
  len : M.length ≤ k
  lens : Lens 30 (ig M Y)
theorem ok_nil : Ok 0 [] [] := ⟨good_nil, by simp, Nat.le_refl _, fun d hd => by simp [ig] at hd⟩
theorem Ok.next {k : Nat} {M : List Nm} {Y : List Nz} (h : Ok k M Y) : Ok (k + 1) M Y :=
  ⟨h.good, fun x hx => by obtain ⟨j, hj, he⟩ := h.at_ x hx; exact ⟨j, by omega, he⟩, by have := h.len; omega, h.lens⟩
theorem Ok.push {k : Nat} {M : List Nm} {Y : List Nz} (h : Ok k M Y) (hk : k < 6) {s : Int} {A : Option Addr} {n c : Nat} {L : List Ex} (hm : may s L = true) (hL : L.length ≤ 30) : Ok (k + 1) (M ++ [⟨nmT k, 10 - (k : Int)⟩]) (⟨10 - (k : Int), s, A, n, c, L⟩ :: Y) := by
  have hl := h.len
  refine ⟨⟨?_, fun x hx => ?_, fun x hx => ?_, ?_, ?_, ?_, fun d hd => ?_⟩, fun x hx => ?_, by rw [List.length_append]; simp; omega, fun d hd => ?_⟩
  · show (M ++ [_]).length ≤ 16
    rw [List.length_append]; simp; omega
  · rcases List.mem_append.1 hx with hx | hx
    · exact h.good.name x hx
    · rw [List.mem_singleton] at hx; subst hx; exact nm_ok k hk
  · rcases List.mem_append.1 hx with hx | hx
    · exact h.good.ino x hx
    · rw [List.mem_singleton] at hx; subst hx
      simp only [okIno, Bool.and_eq_true, decide_eq_true_eq]; omega
  · show Rise ordN Nm.name (M ++ [_])
    unfold Rise
    rw [List.pairwise_append]
    refine ⟨h.good.rise, List.pairwise_singleton _ _, fun a ha b hb => ?_⟩
    rw [List.mem_singleton] at hb; subst hb
    obtain ⟨j, hj, rfl⟩ := h.at_ a ha
    exact nm_lt k hk j hj
  · show Rise ordI Nd.ino (_ :: Y.map Nz.d)
    unfold Rise
    rw [List.pairwise_cons]
    refine ⟨fun d hd => ?_, h.good.up⟩
    have : d.ino ∈ (ig M Y).N.map Nm.ino := h.good.perm.mem_iff.2 (List.mem_map_of_mem hd)
    obtain ⟨x, hx, he⟩ := List.mem_map.1 this
    obtain ⟨j, hj, rfl⟩ := h.at_ x hx
    show decide (_ < _) = true
    rw [← he]
    show decide ((10 : Int) - (k : Int) < 10 - (j : Int)) = true
    exact decide_eq_true (by omega)
  · show ((M ++ [_]).map Nm.ino).Perm ((_ :: Y.map Nz.d).map Nd.ino)
    rw [List.map_append, List.map_cons]
    exact (List.perm_append_comm).trans (h.good.perm.cons _)
  · rcases List.mem_cons.1 hd with rfl | hd
    · exact hm
    · exact h.good.cont d hd
  · rcases List.mem_append.1 hx with hx | hx
    · obtain ⟨j, hj, he⟩ := h.at_ x hx; exact ⟨j, by omega, he⟩
    · rw [List.mem_singleton] at hx; exact ⟨k, by omega, hx⟩
  · rcases List.mem_cons.1 hd with rfl | hd
    · exact hL
    · exact h.lens d hd
theorem Ok.ino {k : Nat} {M : List Nm} {Y : List Nz} (h : Ok k M Y) (hk : k ≤ 6) : ∀ x ∈ M, 5 ≤ x.ino ∧ x.ino ≤ 10 := fun x hx => by
  obtain ⟨j, hj, rfl⟩ := h.at_ x hx
  show 5 ≤ 10 - (j : Int) ∧ 10 - (j : Int) ≤ 10
  omega
/-- A made image. -/
def OfPost (w : World) (e : Ending) (w' : World) : Prop := ∃ D d D' d' M Y, e = .returned (iv D M.length d D' Y.length d') ∧ Ok 6 M Y ∧ Img w.heap.size w' D d D' d' M Y ∧ Below w.heap.size w w'
/-- The image in the variable. -/
structure Io (w wr : World) (D : Option Addr) (d : Nat) (D' : Option Addr) (d' : Nat) (M : List Nm) (Y : List Nz) : Prop where
  img : Img (w.heap.size + 2) wr D d D' d' M Y
  box : IBox wr (w.heap.size + 1) D M.length d D' Y.length d'
  res : IBox wr w.heap.size none 0 0 none 0 0
  off : ∀ z ∈ Y, 0 < z.n → ∀ g p, z.A = some ⟨g, p, none⟩ → w.heap.size + 2 ≤ g
  below : Below w.heap.size w wr
  size : w.heap.size + 2 ≤ wr.heap.size
section
variable {w wr w2 w3 : World} {k : Nat} {D : Option Addr} {d : Nat} {D' : Option Addr} {d' : Nat} {M : List Nm} {Y : List Nz}
theorem Io.on (h : Io w wr D d D' d' M Y) (b : Below wr.heap.size wr w2) : Io w w2 D d D' d' M Y :=
  ⟨h.img.on b, h.box.on b, h.res.on b, h.off, h.below.trans (b.mono h.below.size), Nat.le_trans h.size b.size⟩
/-- Names changed, and stored. -/
theorem Io.names (h : Io w wr D d D' d' M Y) {F : Option Addr} {f m : Nat} {R : List Nm} (q : OwnS elN (w.heap.size + 2) w3 (.slice F m f) R) (hm : R.length = m) (o : Only (fun d => D = some ⟨d, 0, none⟩) wr w3) (s : ∀ g, F = some ⟨g, 0, none⟩ → D = some ⟨g, 0, none⟩ ∨ wr.heap.size ≤ g) (hs : ∀ x ∈ R, x.name.size ≤ maxLen) :
    IBox w3 (w.heap.size + 1) D M.length d D' Y.length d' ∧ Io w (w3.setCell ⟨w.heap.size + 1, 0, none⟩ (.slice F m f)) F f D' d' R Y := by
  subst hm
  have n1 := h.img.setN q rfl o s hs
  have hD : ∀ g, D = some ⟨g, 0, none⟩ → w.heap.size + 2 ≤ g := fun g hg => (h.img.lt (.inl hg)).1
  have bx : IBox w3 (w.heap.size + 1) D M.length d D' Y.length d' := Row.only h.box o (fun hd => by have := hD _ hd; omega)
  have rx : IBox w3 w.heap.size none 0 0 none 0 0 := Row.only h.res o (fun hd => by have := hD _ hd; omega)
  have ob := only_set1 w3 (w.heap.size + 1) 0 (.slice F R.length f)
  refine ⟨bx, n1.img.keep ob (fun g hg he => by have := (n1.img.lt hg).1; omega) (fun z hz hn g p he h2 => by have := h.off z hz hn g p he; omega), Row.setv bx 0 _, Row.only rx ob (by omega), h.off, ?_, ?_⟩
  · exact (h.below.trans (o.below h.below.size (fun g hg => by have := hD g hg; omega))).setCell (Nat.le_add_right _ _) _
  · have := h.size; have := o.size
    simp [World.setCell]; omega
/-- A file put ahead, and stored. -/
theorem Io.nodes (h : Io w wr D d D' d' M Y) {F : Option Addr} {f m : Nat} {z : Nz} (q : OwnS elZ (w.heap.size + 2) w3 (.slice F m f) (z :: Y)) (hm : (z :: Y).length = m) (o : Below wr.heap.size wr w3) (s : ∀ g, F = some ⟨g, 0, none⟩ → wr.heap.size ≤ g) (hz : Exts w3 z.A z.n z.c z.L) (hzo : ∀ g p, z.A = some ⟨g, p, none⟩ → wr.heap.size ≤ g) (hzf : ∀ g p, 0 < z.n → z.A = some ⟨g, p, none⟩ → F ≠ some ⟨g, 0, none⟩) :
    IBox w3 (w.heap.size + 1) D M.length d D' Y.length d' ∧ Io w (w3.setCell ⟨w.heap.size + 1, 1, none⟩ (.slice F m f)) D d F f M (z :: Y) := by
  subst hm
  have h3 := h.on o
  have hsz := h.size
  have hoff : ∀ x ∈ z :: Y, 0 < x.n → ∀ g p, x.A = some ⟨g, p, none⟩ → w.heap.size + 2 ≤ g := fun x hx hn g p he => by
    rcases List.mem_cons.1 hx with rfl | hx
    · have := hzo g p he; omega
    · exact h.off x hx hn g p he
  have n1 : Img (w.heap.size + 2) w3 D d F f M (z :: Y) := by
    refine ⟨h3.img.names, q, fun x hx => ?_, fun x hx hn g p he hS => ?_, h.img.str⟩
    · rcases List.mem_cons.1 hx with rfl | hx
      · exact hz
      · exact h3.img.exts x hx
    · rcases List.mem_cons.1 hx with rfl | hx
      · rcases hS with hS | hS
        · have := hzo g p he; have := (h.img.lt (.inl hS)).2; omega
        · exact hzf g p hn he hS
      · rcases hS with hS | hS
        · exact h.img.apart x hx hn g p he (.inl hS)
        · have := s g hS; have h1 := h.img.exts x hx; rw [he] at h1; have := h1.lt hn; omega
  have ob := only_set1 w3 (w.heap.size + 1) 1 (.slice F (z :: Y).length f)
  refine ⟨h3.box, n1.keep ob (fun g hg he => by have := (n1.lt hg).1; omega) (fun x hx hn g p he h2 => by have := hoff x hx hn g p he; omega), Row.setv h3.box 1 _, Row.only h3.res ob (by omega), hoff, h3.below.setCell (Nat.le_add_right _ _) _, ?_⟩
  have := h3.size
  simp [World.setCell]; omega
end
/-- One element built. -/
theorem own_one {α : Type} {E : El α} {B : Nat} {w : World} {b : Nat} {e : α} (hB : B ≤ b) (h : Row w b E.t (E.enc e).toArray) : OwnS E B w (.slice (some ⟨b, 0, none⟩) 1 1) [e] :=
  OwnS.mk' (L := [e]) hB h (Nat.le_refl _) (by unfold maxLen; omega) (by simp [E.len]) (by rw [E.cells_one]; exact List.take_of_length_le (by rw [E.len]; simp))

set_option maxHeartbeats 8000000 in
theorem of_any (A : Option Addr) (n c : Nat) (P : List Kp) (w : World) (h : KpsIn w A n c P) : Calls Tryz.prog 25 #[.slice A n c] w (OfPost w) := by
  have hn := h.sl.max
  have H := Lib.hid h
  obtain ⟨W, hW⟩ : ∃ W, (w.alloc (.cells #[.slice none 0 0, .slice none 0 0] 25)).alloc (.cells #[.slice none 0 0, .slice none 0 0] 25) = W := ⟨_, rfl⟩
  have KW := Lib.hid (show Below w.heap.size w W by rw [← hW]; exact ((Below.refl _ _).alloc (Nat.le_refl _) _).alloc (by simp) _)
  have C0 := Lib.hid (show Io w W none 0 none 0 [] [] by
    refine ⟨⟨owns_nil _ _, owns_nil _ _, by simp, by simp, by simp⟩, ?_, ?_, by simp, KW.out, by rw [← hW]; simp⟩
    · rw [← hW]
      have := ibox_new (w.alloc (.cells #[.slice none 0 0, .slice none 0 0] 25)) none 0 0 none 0 0
      simpa using this
    · rw [← hW]; exact (ibox_new w none 0 0 none 0 0).on ((Below.refl _ _).alloc (Nat.le_refl _) _))
  have HW := Lib.hid hW
  clear h KW hW
  go_enter Tryz.func25, Tryz.ntmps25
  go_upto_region 2 with fail
  rw [HW.out]
  go_wp2
  go_loopw [4] (fun x wr => ∃ (k : Nat) (D : Option Addr) (d : Nat) (D' : Option Addr) (d' : Nat) (M : List Nm) (Y : List Nz), k ≤ 6 ∧ x = .int .u8 k ∧ Hid (Ok k M Y) ∧ Hid (Io w wr D d D' d' M Y)) (fun x _ => 6 - (intOf x).toNat)
  case atStart => exact ⟨0, none, 0, none, 0, [], [], by omega, rfl, ok_nil, C0.out⟩
  case round =>
    obtain ⟨k, D, d, D', d', M, Y, hk, rfl, HO, C⟩ := hrel
    clear C0 HW
    by_cases hlt : k < 6
    · have hki : (k : Int) < 6 := by omega
      have hT := nm_list k hlt
      go_wp2
      go_loopw [6] (fun x w2 => ∃ (i : Nat), i ≤ n ∧ i ≤ 12 ∧ x = .int .i64 i ∧ Hid (Io w w2 D d D' d' M Y)) (fun x _ => n - (intOf x).toNat)
      case atStart => exact ⟨0, Nat.zero_le _, by omega, rfl, C.out.on ((Below.refl _ _).alloc (Nat.le_refl _) _)⟩
      case round =>
        obtain ⟨i, hi, hi12, rfl, C2⟩ := hrel
        clear C hT
        by_cases hin : i < n
        · by_cases hi2 : i < 12
          · obtain ⟨b, o, rfl, hbl, _⟩ := H.out.sl.cells (by omega)
            have HX := Lib.hid (fun (v : World) (k : Below w.heap.size w v) => Kps.at (H.out.sl.on k) i hin)
            have hok := H.out.ok _ (H.out.sl.mem i hin)
            obtain ⟨x, hx⟩ : ∃ x, P.getD i default = x := ⟨_, rfl⟩
            rw [hx] at HX hok
            clear hx
            obtain ⟨xm, xs, xA, xn, xc, xL⟩ := x
            have HOx := Lib.hid hok
            have hx0 : 0 ≤ xm := hok.n0
            have hs0 : 0 ≤ xs := hok.s0
            simp only at HX
            obtain ⟨x0, x1, x2⟩ := HX.out _ C2.out.below
            have hini : (i : Int) < (n : Int) := by omega
            have hi2i : (i : Int) < 12 := by omega
            clear hok
            go_wp2_with fail
            refine (right_any xm _ hx0).mono ?_
            rintro e w3 ⟨t, rfl, ht, k3⟩
            have K3 := Lib.hid k3
            have C3 := Lib.hid (C2.out.on k3)
            clear k3 x0 x1 x2
            by_cases hte : t = nmT k
            · subst hte
              have c0 := C3.out.box.c0; have c1 := C3.out.box.c1; have f0 := C3.out.box.f0
              have hsz := nm_size k hlt
              have hM30 : M.length + 1 ≤ 1000000 := by have := HO.out.len; omega
              have HAd := Lib.hid (show D = none ∨ ∃ g, D = some ⟨g, 0, none⟩ from C3.out.img.names.addr.imp id (fun ⟨g, hg, _⟩ => ⟨g, hg⟩))
              have hs3 := C3.out.size
              have hlm : (M ++ [(⟨nmT k, 10 - (k : Int)⟩ : Nm)]).length = M.length + 1 := by rw [List.length_append]; rfl
              have hstr : ∀ x ∈ M ++ [(⟨nmT k, 10 - (k : Int)⟩ : Nm)], x.name.size ≤ maxLen := fun x hx => by
                rcases List.mem_append.1 hx with hx | hx
                · exact C3.out.img.str x hx
                · rw [List.mem_singleton] at hx; subst hx; unfold maxLen; show (nmT k).size ≤ _; omega
              have HStr := Lib.hid hstr; have HLM := Lib.hid hlm
              clear hstr hlm
              obtain ⟨y, hy⟩ : ∃ y : Int, 10 - (k : Int) = y := ⟨_, rfl⟩
              rw [hy] at HStr HLM
              have HY := Lib.hid hy
              clear hsz
              go_upto_region 11 with (first | (with_reducible refine st_oneE tyN rfl (.tmp 39) rfl (⟨nmT k, y⟩ : Nm) rfl ?_; intro vb w4 hvb r4 k4; have R4 := Lib.hid r4; have K4 := Lib.hid k4; have HV4 := Lib.hid hvb; clear r4 k4 hvb) | (at_builtin; refine st_catE tyN rfl _ _ rfl (w.heap.size + 2) (.slice D M.length d) M rfl (C3.out.on K4.out).img.names (some ⟨vb, 0, none⟩) 1 1 [(⟨nmT k, y⟩ : Nm)] rfl (sl_one (E := elN) R4.out) hM30 (Nat.le_trans hs3 K4.out.size) (M ++ [(⟨nmT k, y⟩ : Nm)]) (M.length + 1) rfl HLM.out ?_; intro G g' w5 q5 o5 s5; have Q5 := Lib.hid q5; have O5 := Lib.hid (own_only HAd.out o5); have HS5 := Lib.hid s5; clear q5 o5 s5; obtain ⟨bx5, XN⟩ := (C3.out.on K4.out).names Q5.out HLM.out O5.out (fun g hg => (HS5.out g hg).imp (own_src HAd.out) id) HStr.out; clear c0 c1 f0; have c0 := bx5.c0; have f0 := bx5.f0; obtain ⟨W5, hW5⟩ : ∃ W5, w5.setCell ⟨w.heap.size + 1, 0, none⟩ (.slice G (M.length + 1) g') = W5 := ⟨_, rfl⟩; rw [hW5] at XN; have C5 := Lib.hid XN; clear XN bx5))
              have qq1 := fun u : Wb W5 => (C5.out.on u.k).box.c1
              have qx1 := fun u : Wb W5 => (HX.out _ (C5.out.below.trans (u.k.mono C5.out.below.size))).2.1
              have qx2 := fun u : Wb W5 => (HX.out _ (C5.out.below.trans (u.k.mono C5.out.below.size))).2.2
              have HB5 := Lib.hid (HOx.out.on (C5.out.below.trans ((Below.refl W5.heap.size W5).drew.mono C5.out.below.size)))
              have Kd := Lib.hid (show Below W5.heap.size W5 W5.drew from (Below.refl _ _).drew)
              have hY30 : 1 + Y.length ≤ 1000000 := by have := (good_lens HO.out.good).2; omega
              have hs5 := C5.out.size
              clear c0 f0 hW5 hM30 hs3
              refine wp_region_p (fun w' => ∃ u : Wb W5, w' = u.v) 19 [(0, 13), (16, 2)] [(13, 3), (18, 1)] _ (by kernel_rfl) rfl (by kernel_rfl) (by kernel_rfl) (by kernel_rfl) ⟨⟨W5.drew, Kd.out⟩, rfl⟩ ?_
              simp only [pieces, List.flatMap_cons, List.flatMap_nil, List.take_succ_cons, List.take_zero, List.drop_succ_cons, List.drop_zero, List.append_nil, List.cons_append, List.nil_append]
              repeat (go_big_quiet_step (fail))
              refine wpQuiet_nil ?_
              clear qq1 qx1 qx2
              refine tail_cons ?_
              go_wp2_with (go_at_call 50; refine (content_any xA xn xc xL xs _ HB5.out.sl HB5.out.bk hs0).mono ?_; rintro e w6 ⟨s, F, f, L, he, hmay, hL30, hm6, k6⟩; obtain rfl : e = .returned (.agg #[.int .i64 s, .slice F L.length f]) := he; have K6 := Lib.hid (Kd.out.trans (k6.mono Kd.out.size)); have HM6 := Lib.hid hm6; have HL := Lib.hid (And.intro hmay hL30); clear k6 hm6 hmay hL30)
              refine tail_done ⟨⟨⟨w6, K6.out⟩, rfl⟩, tail_cons ?_⟩
              go_wp2
              refine tail_done ⟨⟨⟨w6, K6.out⟩, rfl⟩, tail_cons ?_⟩
              go_wp2_with (with_reducible refine st_oneE tyZ rfl (.tmp 57) rfl (⟨y, s, F, L.length, f, L⟩ : Nz) rfl ?_; intro ub w7 hub r7 k7; have R7 := Lib.hid r7; have K67 := Lib.hid k7; have K7 := Lib.hid (K6.out.trans (k7.mono K6.out.size)); have HU := Lib.hid hub; clear r7 k7 hub)
              refine tail_done ⟨⟨⟨w7, K7.out⟩, rfl⟩, tail_cons ?_⟩
              have hub : w.heap.size + 2 ≤ ub := by have := HU.out; have := K6.out.size; omega
              have hs7 : w.heap.size + 2 ≤ w7.heap.size := Nat.le_trans hs5 K7.out.size
              go_wp2_with (at_builtin; refine st_catE tyZ rfl _ _ rfl (w.heap.size + 2) (.slice (some ⟨ub, 0, none⟩) 1 1) [(⟨y, s, F, L.length, f, L⟩ : Nz)] rfl (own_one (E := elZ) hub R7.out) D' Y.length d' Y rfl (C5.out.on K7.out).img.nodes.sl' hY30 hs7 ((⟨y, s, F, L.length, f, L⟩ : Nz) :: Y) (Y.length + 1) rfl rfl ?_; intro G2 g2 w8 q8 o8 s8; have Q8 := Lib.hid q8; have O8 := Lib.hid o8; have HS8 := Lib.hid s8; clear q8 o8 s8)
              have HUe := Lib.hid (fun (x : Nat) (h : (Value.slice (some ⟨ub, 0, none⟩) 1 1).ownBlock = some x) => (show ub = x from Option.some.inj h))
              have K78 := Lib.hid (show Below w6.heap.size w7 w8 from O8.out.below K67.out.size (fun x hx => by have := HUe.out x hx; have := HU.out; omega))
              have K8 := Lib.hid (K7.out.trans (K78.out.mono K6.out.size))
              refine tail_done ⟨⟨⟨w8, K8.out⟩, rfl⟩, tail_end ?_⟩
              have hG2 : ∀ g, G2 = some ⟨g, 0, none⟩ → w6.heap.size ≤ g := fun g hg => by
                rcases HS8.out g hg with h1 | h1
                · have := HUe.out g h1; have := HU.out; omega
                · exact Nat.le_trans K67.out.size h1
              obtain ⟨bx8, XN⟩ := C5.out.nodes Q8.out rfl K8.out (fun g hg => Nat.le_trans K6.out.size (hG2 g hg)) (HM6.out.exts.on (K67.out.trans K78.out)) (fun g p he => (HM6.out.own g p he).1) (fun g p _ he hG => by have := hG2 g hG; have := (HM6.out.own g p he).2.1; omega)
              have C8 := Lib.hid XN
              have c1 := bx8.c1; have f1 := bx8.f1
              have HO8 := Lib.hid (HO.out.push hlt HL.out.1 HL.out.2 (A := F) (n := L.length) (c := f))
              rw [HY.out] at HO8
              clear bx8 XN
              go_wp2
              refine tail_done ?_
              go_wp2
              go_roundw
              case rel => exact ⟨k + 1, _, _, _, _, _, _, by omega, by go_num, HO8.out, C8.out⟩
              case measure => simp [intOf]; omega
            · have hne : (t.toList == (nmT k).toList) = false := beq_eq_false_iff_ne.2 (fun h => hte (toList_inj h))
              go_wp2
              go_roundw
              case rel => exact ⟨i + 1, by omega, by omega, by go_num, C3.out⟩
              case measure => simp [intOf]; omega
          · have hi2i : ¬ (i : Int) < 12 := by omega
            have hini : (i : Int) < (n : Int) := by omega
            go_wp2
            go_roundw
            case rel => exact ⟨k + 1, _, _, _, _, _, _, by omega, by go_num, HO.out.next, C2.out⟩
            case measure => simp [intOf]; omega
        · have hini : ¬ (i : Int) < (n : Int) := by omega
          go_wp2
          go_roundw
          case rel => exact ⟨k + 1, _, _, _, _, _, _, by omega, by go_num, HO.out.next, C2.out⟩
          case measure => simp [intOf]; omega
    · have hk6 : k = 6 := by omega
      have hki : ¬ (k : Int) < 6 := by omega
      have c0 := C.out.box.c0; have c1 := C.out.box.c1; have d0 := C.out.res.c0; have d1 := C.out.res.c1; have e0 := C.out.res.f0; have e1 := C.out.res.f1
      have HO6 := Lib.hid (show Ok 6 M Y by have := HO.out; rwa [hk6] at this)
      clear hk6
      go_wp2
      have X := C.out.res.put D M.length d D' Y.length d'
      exact res_ibox rfl w.heap.size _ _ _ _ _ _ rfl X rfl ⟨D, d, D', d', M, Y, rfl, HO6.out, (C.out.img.keep (only_set2 _ w.heap.size (.slice D M.length d) (.slice D' Y.length d')) (fun g hg he => by have := (C.out.img.lt hg).1; omega) (fun z hz hn g p he h2 => by have := C.out.off z hz hn g p he; omega)).mono (by omega), below_put C.out.below _ (Nat.le_refl _) _ _⟩
end Go.Proofs.YtgaaieipeiekiaaGreat
