/- The reference's Apply: what is told of its variables. -/
import Derived.Test.YtgaaieipeiekiaaGreatPkQ
import Derived.Test.YtgaaieipeiekiaaGreatPkM
namespace Go.Proofs.YtgaaieipeiekiaaGreat
open Go.RowKit
set_option maxRecDepth 100000

structure Ra (w wr : World) (q : Nat) (A : Option Addr) (c : Nat) (A' : Option Addr) (c' : Nat) (N : List Nm) (Z : List Nz) (o : Opv) (BA : Option Addr) (cb : Nat) (D : Option Addr) (d : Nat) (D' : Option Addr) (d' : Nat) (M : List Nm) (Y : List Nz) : Prop where
  img : Img (w.heap.size + 3) wr D d D' d' M Y
  var : IBox wr q D M.length d D' Y.length d'
  box : IBox wr w.heap.size A N.length c A' Z.length c'
  bo : OBox wr (w.heap.size + 1) o BA cb
  res : IBox wr (w.heap.size + 2) none 0 0 none 0 0
  im0 : Im w A N.length c A' Z.length c' N Z
  op0 : OpIn w o BA cb
  below : Below w.heap.size w wr
  q0 : w.heap.size + 3 ≤ q
  new : ∀ z ∈ Y, 0 < z.n → ∀ g p, z.A = some ⟨g, p, none⟩ → w.heap.size ≤ g
/-- What Apply of the reference answers: new memory, its blocks, too. -/
def AllPostN (I : Ig) (w : World) (e : Ending) (w' : World) : Prop := ∃ D d D' d' M Y, ig M Y = I ∧ e = .returned (iv D M.length d D' Y.length d') ∧ Img w.heap.size w' D d D' d' M Y ∧ Below w.heap.size w w' ∧ (∀ z ∈ Y, 0 < z.n → ∀ g p, z.A = some ⟨g, p, none⟩ → w.heap.size ≤ g)
section
variable {w wr w3 : World} {q : Nat} {A : Option Addr} {c : Nat} {A' : Option Addr} {c' : Nat} {N : List Nm} {Z : List Nz} {o : Opv} {BA : Option Addr} {cb : Nat} {D : Option Addr} {d : Nat} {D' : Option Addr} {d' : Nat} {M : List Nm} {Y : List Nz}
theorem Ra.on (h : Ra w wr q A c A' c' N Z o BA cb D d D' d' M Y) (k : Below wr.heap.size wr w3) : Ra w w3 q A c A' c' N Z o BA cb D d D' d' M Y :=
  ⟨h.img.on k, h.var.on k, h.box.on k, h.bo.on k, h.res.on k, h.im0, h.op0, h.below.trans (k.mono h.below.size), h.q0, h.new⟩
theorem Ra.im (h : Ra w wr q A c A' c' N Z o BA cb D d D' d' M Y) : Im wr A N.length c A' Z.length c' N Z := h.im0.on h.below
theorem Ra.op (h : Ra w wr q A c A' c' N Z o BA cb D d D' d' M Y) : OpIn wr o BA cb := h.op0.on h.below
/-- The variable holds other rows. -/
theorem Ra.next (h : Ra w wr q A c A' c' N Z o BA cb D d D' d' M Y) {G : Option Addr} {g : Nat} {G' : Option Addr} {g' : Nat} {M' : List Nm} {Y' : List Nz} (hv : IBox w3 q G M'.length g G' Y'.length g') (hN : OwnS elN (w.heap.size + 3) w3 (.slice G M'.length g) M') (hZ : OwnS elZ (w.heap.size + 3) w3 (.slice G' Y'.length g') Y') (o' : Only (fun d => d = q) wr w3) (hG : ∀ a, S2 G G' a → S2 D D' a ∨ wr.heap.size ≤ a) (hs : ∀ x ∈ M', x.name.size ≤ maxLen) (hY : ∀ y ∈ Y', y ∈ Y ∨ (y.n = 0 ∧ Exts w3 y.A y.n y.c y.L)) :
    Ra w w3 q A c A' c' N Z o BA cb G g G' g' M' Y' := by
  have hq0 := h.q0
  refine ⟨⟨hN, hZ, fun y hy => ?_, fun y hy hn a p he hS => ?_, hs⟩, hv, Row.only h.box o' (by omega), Row.only h.bo o' (by omega), Row.only h.res o' (by omega), h.im0, h.op0, h.below.trans (o'.below h.below.size (fun a ha => by omega)), h.q0, fun y hy hn a p he => (hY y hy).elim (fun hy => h.new y hy hn a p he) (fun hy => by omega)⟩
  · rcases hY y hy with hy | hy
    · exact (h.img.exts y hy).only o' (fun a p he hn hd => by subst hd; have := h.img.exts y hy; rw [he] at this; exact exts_ibox this hn h.var)
    · exact hy.2
  · rcases hY y hy with hy | hy
    · rcases hG a hS with h1 | h1
      · exact h.img.apart y hy hn a p he h1
      · have := h.img.exts y hy; rw [he] at this; have := this.lt hn; omega
    · omega
/-- A row of the image changed in place. -/
theorem Ra.row (h : Ra w wr q A c A' c' N Z o BA cb D d D' d' M Y) {Y' : List Nz} (n : Next (w.heap.size + 3) wr w3 D D' D d D' d' M Y') (hl : Y'.length = Y.length) (hw : ∀ y ∈ Y', y ∈ Y ∨ ∀ g p, y.A = some ⟨g, p, none⟩ → w.heap.size ≤ g) : Ra w w3 q A c A' c' N Z o BA cb D d D' d' M Y' := by
  have hS : ∀ a, S2 D D' a → w.heap.size + 3 ≤ a := fun a ha => (h.img.lt ha).1
  have hv : IBox w3 q D M.length d D' Y'.length d' := by rw [hl]; exact Row.only h.var n.only (h.img.ne h.var (by decide) (by decide))
  exact ⟨n.img, hv, Row.only h.box n.only (h.img.ne h.box (by decide) (by decide)), Row.only h.bo n.only (h.img.ne h.bo (by decide) (by decide)), Row.only h.res n.only (h.img.ne h.res (by decide) (by decide)), h.im0, h.op0, h.below.trans (n.only.below h.below.size (fun a ha => by have := hS a ha; omega)), h.q0, fun y hy hn a p he => (hw y hy).elim (fun hy => h.new y hy hn a p he) (fun hy => hy a p he)⟩
/-- Answered, stored. -/
theorem Ra.done (h : Ra w wr q A c A' c' N Z o BA cb D d D' d' M Y) {I : Ig} (hi : ig M Y = I) :
    IBox ((wr.setCell ⟨w.heap.size + 2, 0, none⟩ (.slice D M.length d)).setCell ⟨w.heap.size + 2, 1, none⟩ (.slice D' Y.length d')) (w.heap.size + 2) D M.length d D' Y.length d' ∧
    AllPostN I w (.returned (iv D M.length d D' Y.length d')) ((wr.setCell ⟨w.heap.size + 2, 0, none⟩ (.slice D M.length d)).setCell ⟨w.heap.size + 2, 1, none⟩ (.slice D' Y.length d')) := by
  have ob := only_set2 wr (w.heap.size + 2) (.slice D M.length d) (.slice D' Y.length d')
  refine ⟨h.res.put _ _ _ _ _ _, D, d, D', d', M, Y, hi, rfl, (h.img.keep ob (fun g hg he => by have := (h.img.lt hg).1; omega) (fun z hz hn g p he h3 => by subst h3; have := h.img.exts z hz; rw [he] at this; exact exts_ibox this hn h.res)).mono (by omega), h.below.trans (ob.below h.below.size (fun g hg => by omega)), h.new⟩
end

/-- The way behind the switch, and out. -/
theorem fnd_ig {Z Y : List Nz} (hy : Y.map Nz.d = Z.map Nz.d) (k : Int) : (fnd Nz.ino Y k).map Nz.d = (fnd Nz.ino Z k).map Nz.d := by
  rw [← fnd_map (key := Nd.ino) (key' := Nz.ino) Nz.d (fun _ => rfl), ← fnd_map (key := Nd.ino) (key' := Nz.ino) Nz.d (fun _ => rfl), hy]
theorem pl_keys {α K : Type} {O : Ord K} {key : α → K} (L : List α) (k : K) : pl O key L k = ((L.map key).takeWhile fun a => O.lt a k).length := by
  unfold pl ahd
  rw [List.takeWhile_map, List.length_map]; rfl
theorem map_ino {Z Y : List Nz} (h : Y.map Nz.d = Z.map Nz.d) : Y.map Nz.ino = Z.map Nz.ino := by
  have := congrArg (List.map Nd.ino) h
  rw [List.map_map, List.map_map] at this
  exact this
theorem apply_other {N : List Nm} {Z : List Nz} {o : Opv} (h1 : o.kind ≠ 1) (h6 : o.kind ≠ 6) (h7 : o.kind ≠ 7) : applyS (ig N Z) o = (match fnd Nz.ino Z o.ino with
    | none => ig N Z
    | some x => match chg o x.s x.L with
      | none => ig N Z
      | some r => ⟨N, updk Nd.ino (Z.map Nz.d) o.ino ⟨o.ino, r.1, r.2⟩⟩) := by
  unfold applyS
  rw [if_neg h1, if_neg h6, if_neg h7]
  show (match fnd Nd.ino (Z.map Nz.d) o.ino with | none => _ | some d => _) = _
  rw [fnd_map (key' := Nz.ino) Nz.d (fun _ => rfl)]
  cases fnd Nz.ino Z o.ino <;> rfl
def RCells2 (b g off j n c' : Nat) (x : Nz) (o : Opv) (BA : Option Addr) (cb : Nat) (w' : World) : Prop := w'.cell? ⟨b, 1, none⟩ = some (.slice (some ⟨g, off, none⟩) n c') ∧ w'.cell? ⟨g, off + j * 3 + 1, none⟩ = some (.int .i64 x.s) ∧ w'.cell? ⟨g, off + j * 3 + 2, none⟩ = some (.slice x.A x.n x.c) ∧ w'.cell? ⟨b + 1, 0, none⟩ = some (.int .i64 o.kind) ∧ w'.cell? ⟨b + 1, 1, none⟩ = some (.int .i64 o.ino) ∧ w'.cell? ⟨b + 1, 2, none⟩ = some (.int .i64 o.pos) ∧ w'.cell? ⟨b + 1, 3, none⟩ = some (.int .i64 o.size) ∧ w'.cell? ⟨b + 1, 4, none⟩ = some (.bool o.keep) ∧ w'.cell? ⟨b + 1, 5, none⟩ = some (.string o.name) ∧ w'.cell? ⟨b + 1, 6, none⟩ = some (.string o.to) ∧ w'.cell? ⟨b + 1, 7, none⟩ = some (.slice BA o.bs.length cb)
theorem Ra.cells {w wr : World} {q : Nat} {A : Option Addr} {c g off c' : Nat} {N : List Nm} {Z : List Nz} {o : Opv} {BA : Option Addr} {cb : Nat} {D : Option Addr} {d : Nat} {D' : Option Addr} {d' : Nat} {M : List Nm} {Y : List Nz} (h : Ra w wr q A c (some ⟨g, off, none⟩) c' N Z o BA cb D d D' d' M Y) {j : Nat} {x : Nz} (hj : j < Z.length) (hx : Z.getD j default = x) : RCells2 w.heap.size g off j Z.length c' x o BA cb wr := by
  have hcx := (Nds.at h.im.nodes j hj).2
  rw [hx] at hcx
  exact ⟨h.box.c1, hcx.1, hcx.2, h.bo.c0, h.bo.c1, h.bo.c2, h.bo.c3, h.bo.c4, h.bo.c5, h.bo.c6, h.bo.c7⟩
set_option maxHeartbeats 16000000 in
theorem rapply_any (A : Option Addr) (c : Nat) (A' : Option Addr) (c' : Nat) (N : List Nm) (Z : List Nz) (o : Opv) (BA : Option Addr) (cb : Nat) (K : Nat) (w : World) (h : Im w A N.length c A' Z.length c' N Z) (hn : N.length ≤ 1000) (hk : Z.length ≤ 1000) (hl : Lens K (ig N Z)) (ho : OpIn w o BA cb) (h9 : Op9 o) (hK : K + 60 ≤ 10000) (z : Bool) (hz : GoodI (ig N Z) ↔ z = true) (I : Ig) (hT : z = true → applyS (ig N Z) o = I) (hF : z = false → ig N Z = I) :
    Calls Tryz.prog 24 #[iv A N.length c A' Z.length c', ov o BA cb] w (AllPostN I w) := by
  obtain ⟨W, hW⟩ : ∃ W, vo w A N.length c A' Z.length c' o BA cb = W := ⟨_, rfl⟩
  have HW := Lib.hid (show ((w.alloc (.cells #[.slice A N.length c, .slice A' Z.length c'] 25)).alloc (.cells #[.int .i64 o.kind, .int .i64 o.ino, .int .i64 o.pos, .int .i64 o.size, .bool o.keep, .string o.name, .string o.to, .slice BA o.bs.length cb] 42)).alloc (.cells #[.slice none 0 0, .slice none 0 0] 25) = W from hW)
  have KW := Lib.hid (show Below w.heap.size w W by rw [← hW]; exact (((Below.refl _ _).alloc (Nat.le_refl _) _).alloc (by simp) _).alloc (by simp; omega) _)
  have HB := Lib.hid (show IBox W w.heap.size A N.length c A' Z.length c' ∧ OBox W (w.heap.size + 1) o BA cb ∧ IBox W (w.heap.size + 2) none 0 0 none 0 0 by
    rw [← hW]; exact vo_boxes _ _ _ _ _ _ _ _ _ _)
  have HS := Lib.hid (show W.heap.size = w.heap.size + 3 by rw [← hW]; simp [vo])
  have H := Lib.hid h; have HO := Lib.hid ho; have HZ := Lib.hid hz; have HT := Lib.hid hT; have HF := Lib.hid hF; have HLn := Lib.hid hl; have H9 := Lib.hid h9
  clear h hW ho hz hT hF hl h9
  show Calls Tryz.prog 24 #[.agg #[.slice A N.length c, .slice A' Z.length c'], .agg #[.int .i64 o.kind, .int .i64 o.ino, .int .i64 o.pos, .int .i64 o.size, .bool o.keep, .string o.name, .string o.to, .slice BA o.bs.length cb]] w _
  go_enter Tryz.func24, Tryz.ntmps24
  go_upto_region 1 with fail
  rw [HW.out]
  have b0 := HB.out.1.c0; have b1 := HB.out.1.c1
  go_wp2_with fail
  refine (rcopy_img A c A' c' N Z W (H.out.on KW.out) hn hk (lens_z (K := 1000000) (fun d hd => by have := HLn.out d hd; omega) (H.out.on KW.out).exts)).mono ?_
  rintro e w1 ⟨D, d, D', d', Y, he, hmap, him, k1, hnw⟩
  obtain rfl : e = .returned (.agg #[.slice D N.length d, .slice D' Y.length d']) := he
  obtain ⟨W2, hW2⟩ : ∃ W2, w1.alloc (.cells #[.slice D N.length d, .slice D' Y.length d'] 25) = W2 := ⟨_, rfl⟩
  have KW2 := Lib.hid (show Below w1.heap.size w1 W2 by rw [← hW2]; exact (Below.refl _ _).alloc (Nat.le_refl _) _)
  have HMP := Lib.hid hmap
  have KX := Lib.hid (k1.trans (KW2.out.mono k1.size))
  have R0 := Lib.hid (show Ra w W2 w1.heap.size A c A' c' N Z o BA cb D d D' d' N Y from ⟨by rw [← HS.out]; exact him.on KW2.out, by rw [← hW2]; exact ibox_new _ _ _ _ _ _ _, HB.out.1.on KX.out, HB.out.2.1.on KX.out, HB.out.2.2.on KX.out, H.out, HO.out, KW.out.trans (KX.out.mono KW.out.size), by have := k1.size; have := HS.out; omega, fun z hz hn g p he => Nat.le_trans KW.out.size (hnw z hz hn g p he)⟩)
  have HW2 := Lib.hid hW2
  obtain ⟨q, hq⟩ : ∃ q, w1.heap.size = q := ⟨_, rfl⟩
  rw [hq] at R0
  have HQ := Lib.hid hq
  clear hW2 hmap him k1 b0 b1 hq hnw
  go_upto_region 2 with fail
  rw [HW2.out, HQ.out]
  have b0 := R0.out.box.c0; have b1 := R0.out.box.c1
  go_wp2_with fail
  refine (rmayi_any A N.length c A' Z.length c' N Z W2 R0.out.im z HZ.out).mono ?_
  rintro e w3 ⟨rfl, k3⟩
  have R1 := Lib.hid (R0.out.on k3)
  clear k3 R0 b0 b1
  have b0 := R1.out.box.c0; have b1 := R1.out.box.c1; have v0 := R1.out.var.c0; have v1 := R1.out.var.c1
  have r0 := R1.out.res.c0; have r1 := R1.out.res.c1; have g0 := R1.out.res.f0; have g1 := R1.out.res.f1
  cases z with
  | false =>
    go_wp2
    have X := R1.out.done (I := I) (by unfold ig; rw [HMP.out]; exact HF.out (by first | rfl | trivial))
    exact res_ibox rfl (w.heap.size + 2) _ _ _ _ _ _ rfl X.1 rfl X.2
  | true =>
    have HG := Lib.hid (HZ.out.2 (by first | rfl | trivial))
    have HA := Lib.hid (HT.out (by first | rfl | trivial))
    have hu := Lib.hid (rise_d.1 HG.out.up)
    clear HZ HT HF HW2 HQ KW2 KX
    have HuY := Lib.hid (show Rise ordI Nz.ino Y by rw [← rise_d, HMP.out, rise_d]; exact hu.out)
    have HGN := Lib.hid (show ∀ t x, fnd Nm.name N t = some x → ∃ y, fnd Nz.ino Y x.ino = some y from fun t x hx => by
      obtain ⟨y, hy⟩ := good_node HG.out t x hx
      have h1 := fnd_ig HMP.out x.ino
      rw [hy] at h1
      obtain ⟨y', hy', _⟩ := Option.map_eq_some_iff.1 h1
      exact ⟨y', hy'⟩)
    obtain ⟨hn16, hk16⟩ := good_lens HG.out
    have HYl := Lib.hid (show Y.length = Z.length by have := congrArg List.length HMP.out; simpa using this)
    have HOp := Lib.hid R1.out.op
    have hsn := HO.out.sn; have hst := HO.out.st
    have o0 := R1.out.bo.c0; have o1 := R1.out.bo.c1; have o5 := R1.out.bo.c5; have o6 := R1.out.bo.c6
    obtain ⟨kind, ino, pos, size, keep, name, to, bs⟩ := o
    simp only at o0 o1 o5 o6 hsn hst
    have hcase : kind = 1 ∨ kind = 6 ∨ kind = 7 ∨ (kind ≠ 1 ∧ kind ≠ 6 ∧ kind ≠ 7) := by omega
    rcases hcase with hkd | hkd | hkd | hkd
    · subst hkd
      obtain ⟨M, Y2, hMY, hYes, hNo⟩ := apply_create (N := N) (Z := Y) (o := ⟨1, ino, pos, size, keep, name, to, bs⟩) hn16 rfl
      simp only at hYes hNo
      have HIG := Lib.hid (show ig N Y = ig N Z by unfold ig; rw [HMP.out])
      have HIM := Lib.hid (show ig M Y2 = I by rw [hMY, HIG.out]; exact HA.out)
      have HYes := Lib.hid hYes; have HNo := Lib.hid hNo
      have HUn := Lib.hid (show ¬ mayCr N Y name ino → ig N Y = I from fun h => by obtain ⟨e1, e2⟩ := HNo.out h; rw [← HIM.out, e1, e2])
      clear hMY hYes hNo
      obtain ⟨ra, hra⟩ : ∃ r, ixOf Nm.name N name = r := ⟨_, rfl⟩
      obtain ⟨rb, hrb⟩ : ∃ r, ixOf Nz.ino Z ino = r := ⟨_, rfl⟩
      have HRa := Lib.hid hra; have HRb := Lib.hid hrb
      obtain ⟨y1, h1⟩ : ∃ z, okName name = z := ⟨_, rfl⟩
      have H1 := Lib.hid h1
      clear hra hrb h1
      cases y1 with
      | false =>
        have HI := Lib.hid (HUn.out (fun h => by have := h.1; rw [H1.out] at this; cases this))
        go_wp2_with (first | (go_at_call 14; refine (rname_any name _ hsn false H1.out).mono ?_; rintro e' w' ⟨rfl, rfl⟩))
        have X := R1.out.done HI.out
        exact res_ibox rfl (w.heap.size + 2) _ _ _ _ _ _ rfl X.1 rfl X.2
      | true =>
        by_cases ha : ra < 0
        · have HNa := Lib.hid (show fnd Nm.name N name = none from ix_neg.1 (by rw [HRa.out]; exact ha))
          by_cases i1 : 1 ≤ ino
          · by_cases i2 : ino ≤ 4611686018427387904
            · have HOK := Lib.hid (show okIno ino = true by simp [okIno, i1, i2])
              by_cases hb : rb < 0
              · have HNb := Lib.hid (show fnd Nz.ino Y ino = none by have h2 : fnd Nz.ino Z ino = none := ix_neg.1 (by rw [HRb.out]; exact hb); have := fnd_ig HMP.out ino; rw [h2] at this; exact Option.map_eq_none_iff.1 this)
                by_cases hl6 : N.length < 16
                · have hl6' : (N.length : Int) < 16 := by omega
                  obtain ⟨hM, hY2⟩ := HYes.out ⟨H1.out, HNa.out, HOK.out, HNb.out, by omega⟩
                  have HM := Lib.hid hM; have HY2 := Lib.hid hY2
                  clear hM hY2
                  go_upto_region 12 with (first | (go_at_call 14; refine (rname_any name _ hsn true H1.out).mono ?_; rintro e' w' ⟨rfl, rfl⟩) | (go_at_call 31; refine (rnamed_any A N.length c A' Z.length c' N Z name w3 R1.out.im ra HRa.out).mono ?_; rintro e' w4 ⟨rfl, k4⟩; have R2 := Lib.hid (R1.out.on k4); clear k4; clear b0 b1 v0 v1 r0 r1 g0 g1 o0 o1 o5 o6; have b0 := R2.out.box.c0; have b1 := R2.out.box.c1; have v0 := R2.out.var.c0; have v1 := R2.out.var.c1; have r0 := R2.out.res.c0; have r1 := R2.out.res.c1; have g0 := R2.out.res.f0; have g1 := R2.out.res.f1; have o0 := R2.out.bo.c0; have o1 := R2.out.bo.c1; have o5 := R2.out.bo.c5; have o6 := R2.out.bo.c6; simp only at o0 o1 o5 o6) | (go_at_call 34; refine (rnode_any A N.length c A' Z.length c' N Z ino w4 R2.out.im rb HRb.out).mono ?_; rintro e' w5 ⟨rfl, k5⟩; have R3 := Lib.hid (R2.out.on k5); clear k5; clear b0 b1 v0 v1 r0 r1 g0 g1 o0 o1 o5 o6; have b0 := R3.out.box.c0; have b1 := R3.out.box.c1; have v0 := R3.out.var.c0; have v1 := R3.out.var.c1; have r0 := R3.out.res.c0; have r1 := R3.out.res.c1; have g0 := R3.out.res.f0; have g1 := R3.out.res.f1; have o0 := R3.out.bo.c0; have o1 := R3.out.bo.c1; have o5 := R3.out.bo.c5; have o6 := R3.out.bo.c6; simp only at o0 o1 o5 o6))
                  go_wp2_with fail
                  refine (called_any q D N.length d D' Y.length d' N name ino w5 R3.out.var R3.out.img.im.names hn M HM.out).mono ?_
                  rintro e w6 ⟨G, g, rfl, hv6, q6, o6'⟩
                  have hsz6 : w.heap.size + 3 ≤ w5.heap.size := by have := R3.out.res.lt; omega
                  have R4 := Lib.hid (R3.out.next hv6 (q6.mono hsz6) (R3.out.img.nodes.only o6' (fun a ha hd => R3.out.img.ne R3.out.var (by decide) (by decide) (by subst hd; exact .inr ha))) o6' (fun a ha => by
                    rcases ha with ha | ha
                    · exact .inr (own_low q6 (d := a) (by rw [ha]; rfl))
                    · exact .inl (.inr ha)) (fun y hy => by
                      rw [← HM.out] at hy
                      rcases mem_ins.1 hy with rfl | hy
                      · exact hsn
                      · exact R3.out.img.str y hy) (fun y hy => .inl hy))
                  clear hv6 q6 o6'
                  clear b0 b1 v0 v1 r0 r1 g0 g1 o0 o1 o5 o6
                  have hYl9 : Y.length ≤ 1000 := by have := HYl.out; omega
                  go_wp2
                  go_loopw [6] (fun i wr => ∃ j : Nat, j ≤ Y.length ∧ i = .int .i64 j ∧ Hid (∀ i, i < j → (Y.getD i default).ino < ino) ∧ Hid (Below w6.heap.size w6 wr)) (fun i _ => Y.length - (intOf i).toNat)
                  case atStart => exact ⟨0, Nat.zero_le _, rfl, fun i hi => absurd hi (by omega), Below.refl _ _⟩
                  case round =>
                    obtain ⟨j, hj, rfl, HTt, KR⟩ := hrel
                    have R5 := Lib.hid (R4.out.on KR.out)
                    have v1 := R5.out.var.c1; have o1 := R5.out.bo.c1; have v0 := R5.out.var.c0
                    simp only at o1
                    by_cases hlt : j < Y.length
                    · obtain ⟨yg, rfl⟩ : ∃ yg, D' = some ⟨yg, 0, none⟩ := by
                        rcases R5.out.img.nodes.addr with h0 | ⟨g, he, _⟩
                        · have := R5.out.img.im.nodes.nil h0; omega
                        · exact ⟨g, he⟩
                      have e0 := (Nds.at0 R5.out.img.nodes.sl' j hlt).1
                      have hji : (j : Int) < (Y.length : Int) := by omega
                      by_cases hy1 : (Y.getD j default).ino < ino
                      · have HS := Lib.hid (show ∀ i, i < j + 1 → (Y.getD i default).ino < ino from fun i hi => by
                          rcases Nat.lt_or_ge i j with h1 | h1
                          · exact HTt.out i h1
                          · obtain rfl : i = j := by omega
                            exact hy1)
                        generalize (Y.getD j default).ino = yi at *
                        go_wp2
                        go_quiet (fail)
                        go_wp2
                        go_roundw
                        case rel => exact ⟨j + 1, by omega, by go_num, HS.out, below_drewN KR.out _⟩
                        case measure => simp [intOf]; omega
                      · have HX := Lib.hid (show pl ordI Nz.ino Y ino = j from pl_unique hj (fun i hi => decide_eq_true (HTt.out i hi)) (fun _ => decide_eq_false hy1))
                        generalize (Y.getD j default).ino = yi at *
                        have hyd : decide (yi < ino) = false := by simp; omega
                        go_wp2
                        go_quiet (fail)
                        go_upto_region 16 with fail
                        have R6 := Lib.hid (R5.out.on (below_drewN (Below.refl _ _) nq))
                        clear v0 v1 o1
                        generalize wr.drewN nq = wv at *
                        have HMt := Lib.hid (show Y.take j ++ [nzE ino] ++ Y.drop j = Y2 by rw [← HY2.out, ← ins_pl]; show _ = Y.take (pl ordI Nz.ino Y ino) ++ _ :: Y.drop (pl ordI Nz.ino Y ino); rw [HX.out, List.append_assoc]; rfl)
                        have hML := Lib.hid (show Y2.length = Y.length + 1 by rw [← HMt.out]; simp; omega)
                        obtain ⟨A1, d1, hs1, hx1⟩ := cut_hE tyZ R6.out.img.nodes.sl' j hj
                        obtain ⟨A2, d2, hs2, hx2⟩ := cut_lE tyZ R6.out.img.nodes.sl' j hj
                        have X1 := Lib.hid hx1; have X2 := Lib.hid hx2
                        have hl1 : (([] : List Nz).length + j) ≤ 1000000 := by simp; omega
                        have hm1 : (Y.take j).length = j := by rw [List.length_take]; omega
                        have v1 := R6.out.var.c1
                        clear hx1 hx2
                        go_upto_region 17 with (at_builtin; refine st_catE tyZ rfl _ _ rfl wv.heap.size _ [] rfl (owns_nil _ _) A1 j d1 (Y.take j) rfl X1.out hl1 (Nat.le_refl _) (Y.take j) j rfl hm1 ?_; intro D1 e1 wa q1 k1 _; have Q1 := Lib.hid q1; have K1 := Lib.hid (k1.below (B := wv.heap.size) (Nat.le_refl _) (fun d hd => by cases hd)); clear q1 k1)
                        have hm2 : (Y.take j ++ [nzE ino]).length = j + 1 := by rw [List.length_append, hm1]; rfl
                        have hl2 : (Y.take j).length + 1 ≤ 1000000 := by omega
                        have o1 := (R6.out.on K1.out).bo.c1
                        simp only at o1
                        go_upto_region 18 with (first | (with_reducible refine st_oneE tyZ rfl (.tmp 110) rfl (nzE ino) rfl ?_; intro vb wb hvb r2 k2; have Rb := Lib.hid (sl_one (E := elZ) r2); have K2 := Lib.hid (K1.out.trans (k2.mono K1.out.size)); have Q2 := Lib.hid (Q1.out.on k2); clear r2 k2 hvb) | (at_builtin; refine st_catE tyZ rfl _ _ rfl wv.heap.size _ (Y.take j) rfl Q2.out (some ⟨vb, 0, none⟩) 1 1 [nzE ino] rfl Rb.out hl2 K2.out.size _ (j + 1) rfl hm2 ?_; intro D3 e3 wc q3 k3 _; have Q3 := Lib.hid q3; have K3 := Lib.hid (K2.out.trans (k3.below (B := wv.heap.size) K2.out.size (fun d hd => own_low Q2.out hd))); clear q3 k3))
                        have hl3 : (Y.take j ++ [nzE ino]).length + (Y.length - j) ≤ 1000000 := by rw [hm2]; omega
                        have hm3 : (Y.take j ++ [nzE ino] ++ Y.drop j).length = Y2.length := by rw [HMt.out]
                        clear v1 o1
                        have v1 := (R6.out.on K3.out).var.c1
                        go_upto_region 29 with (at_builtin; refine st_catE tyZ rfl _ _ rfl wv.heap.size _ _ rfl Q3.out A2 (Y.length - j) d2 (Y.drop j) rfl (X2.out.on K3.out) hl3 K3.out.size _ Y2.length rfl hm3 ?_; intro D4 e4 wd q4 k4 _; have Q4 := Lib.hid q4; have K4 := Lib.hid (K3.out.trans (k4.below (B := wv.heap.size) K3.out.size (fun d hd => own_low Q3.out hd))); clear q4 k4 v1; have v1 := (R6.out.on K4.out).var.c1; have i1 := (R6.out.on K4.out).var.f1)
                        obtain ⟨W8, hW8⟩ : ∃ W8, wd.setCell ⟨q, 1, none⟩ (.slice D4 Y2.length e4) = W8 := ⟨_, rfl⟩
                        have R7 := R6.out.on K4.out
                        have ob := only_set1 wd q 1 (.slice D4 Y2.length e4)
                        have q9 := Q4.out
                        rw [HMt.out] at q9
                        have hsv : w.heap.size + 3 ≤ wv.heap.size := by have := R6.out.res.lt; omega
                        have hqv : q < wv.heap.size := R6.out.var.lt
                        have R8 := Lib.hid (show Ra w W8 q A c A' c' N Z ⟨1, ino, pos, size, keep, name, to, bs⟩ BA cb G g D4 e4 M Y2 by
                          rw [← hW8]
                          exact R6.out.next (Row.setv R7.var 1 _) (R7.img.names.only ob (fun a ha hd => R7.img.ne R7.var (by decide) (by decide) (by subst hd; exact .inl ha))) ((q9.mono hsv).only ob (fun a ha hd => by
                            subst hd
                            have := own_low q9 (d := a) (by rw [ha]; rfl)
                            omega)) ((Only.of_below K4.out).trans ob (fun d hd _ => hd)) (fun a ha => by
                            rcases ha with ha | ha
                            · exact .inl (.inl ha)
                            · exact .inr (own_low q9 (d := a) (by rw [ha]; rfl))) R6.out.img.str (fun y hy => by
                            rw [← HY2.out] at hy
                            rcases mem_ins.1 hy with rfl | hy
                            · exact .inr ⟨rfl, exts_nil _⟩
                            · exact .inl hy))
                        have HW8 := Lib.hid hW8
                        clear hW8 ob q9 R7 v1 i1
                        rw [HW8.out]
                        have v0 := R8.out.var.c0; have v1 := R8.out.var.c1; have r0 := R8.out.res.c0; have r1 := R8.out.res.c1; have g0 := R8.out.res.f0; have g1 := R8.out.res.f1
                        go_wp2
                        have X := R8.out.done HIM.out
                        exact res_ibox rfl (w.heap.size + 2) _ _ _ _ _ _ rfl X.1 rfl X.2
                    · have HX := Lib.hid (show pl ordI Nz.ino Y ino = j from pl_unique hj (fun i hi => decide_eq_true (HTt.out i hi)) (fun hh => absurd hh hlt))
                      have hji : ¬ (j : Int) < (Y.length : Int) := by omega
                      go_wp2
                      go_quiet (fail)
                      go_upto_region 16 with fail
                      have R6 := Lib.hid (R5.out.on (below_drewN (Below.refl _ _) nq))
                      clear v0 v1 o1
                      generalize wr.drewN nq = wv at *
                      have HMt := Lib.hid (show Y.take j ++ [nzE ino] ++ Y.drop j = Y2 by rw [← HY2.out, ← ins_pl]; show _ = Y.take (pl ordI Nz.ino Y ino) ++ _ :: Y.drop (pl ordI Nz.ino Y ino); rw [HX.out, List.append_assoc]; rfl)
                      have hML := Lib.hid (show Y2.length = Y.length + 1 by rw [← HMt.out]; simp; omega)
                      obtain ⟨A1, d1, hs1, hx1⟩ := cut_hE tyZ R6.out.img.nodes.sl' j hj
                      obtain ⟨A2, d2, hs2, hx2⟩ := cut_lE tyZ R6.out.img.nodes.sl' j hj
                      have X1 := Lib.hid hx1; have X2 := Lib.hid hx2
                      have hl1 : (([] : List Nz).length + j) ≤ 1000000 := by simp; omega
                      have hm1 : (Y.take j).length = j := by rw [List.length_take]; omega
                      have v1 := R6.out.var.c1
                      clear hx1 hx2
                      go_upto_region 17 with (at_builtin; refine st_catE tyZ rfl _ _ rfl wv.heap.size _ [] rfl (owns_nil _ _) A1 j d1 (Y.take j) rfl X1.out hl1 (Nat.le_refl _) (Y.take j) j rfl hm1 ?_; intro D1 e1 wa q1 k1 _; have Q1 := Lib.hid q1; have K1 := Lib.hid (k1.below (B := wv.heap.size) (Nat.le_refl _) (fun d hd => by cases hd)); clear q1 k1)
                      have hm2 : (Y.take j ++ [nzE ino]).length = j + 1 := by rw [List.length_append, hm1]; rfl
                      have hl2 : (Y.take j).length + 1 ≤ 1000000 := by omega
                      have o1 := (R6.out.on K1.out).bo.c1
                      simp only at o1
                      go_upto_region 18 with (first | (with_reducible refine st_oneE tyZ rfl (.tmp 110) rfl (nzE ino) rfl ?_; intro vb wb hvb r2 k2; have Rb := Lib.hid (sl_one (E := elZ) r2); have K2 := Lib.hid (K1.out.trans (k2.mono K1.out.size)); have Q2 := Lib.hid (Q1.out.on k2); clear r2 k2 hvb) | (at_builtin; refine st_catE tyZ rfl _ _ rfl wv.heap.size _ (Y.take j) rfl Q2.out (some ⟨vb, 0, none⟩) 1 1 [nzE ino] rfl Rb.out hl2 K2.out.size _ (j + 1) rfl hm2 ?_; intro D3 e3 wc q3 k3 _; have Q3 := Lib.hid q3; have K3 := Lib.hid (K2.out.trans (k3.below (B := wv.heap.size) K2.out.size (fun d hd => own_low Q2.out hd))); clear q3 k3))
                      have hl3 : (Y.take j ++ [nzE ino]).length + (Y.length - j) ≤ 1000000 := by rw [hm2]; omega
                      have hm3 : (Y.take j ++ [nzE ino] ++ Y.drop j).length = Y2.length := by rw [HMt.out]
                      clear v1 o1
                      have v1 := (R6.out.on K3.out).var.c1
                      go_upto_region 29 with (at_builtin; refine st_catE tyZ rfl _ _ rfl wv.heap.size _ _ rfl Q3.out A2 (Y.length - j) d2 (Y.drop j) rfl (X2.out.on K3.out) hl3 K3.out.size _ Y2.length rfl hm3 ?_; intro D4 e4 wd q4 k4 _; have Q4 := Lib.hid q4; have K4 := Lib.hid (K3.out.trans (k4.below (B := wv.heap.size) K3.out.size (fun d hd => own_low Q3.out hd))); clear q4 k4 v1; have v1 := (R6.out.on K4.out).var.c1; have i1 := (R6.out.on K4.out).var.f1)
                      obtain ⟨W8, hW8⟩ : ∃ W8, wd.setCell ⟨q, 1, none⟩ (.slice D4 Y2.length e4) = W8 := ⟨_, rfl⟩
                      have R7 := R6.out.on K4.out
                      have ob := only_set1 wd q 1 (.slice D4 Y2.length e4)
                      have q9 := Q4.out
                      rw [HMt.out] at q9
                      have hsv : w.heap.size + 3 ≤ wv.heap.size := by have := R6.out.res.lt; omega
                      have hqv : q < wv.heap.size := R6.out.var.lt
                      have R8 := Lib.hid (show Ra w W8 q A c A' c' N Z ⟨1, ino, pos, size, keep, name, to, bs⟩ BA cb G g D4 e4 M Y2 by
                        rw [← hW8]
                        exact R6.out.next (Row.setv R7.var 1 _) (R7.img.names.only ob (fun a ha hd => R7.img.ne R7.var (by decide) (by decide) (by subst hd; exact .inl ha))) ((q9.mono hsv).only ob (fun a ha hd => by
                          subst hd
                          have := own_low q9 (d := a) (by rw [ha]; rfl)
                          omega)) ((Only.of_below K4.out).trans ob (fun d hd _ => hd)) (fun a ha => by
                          rcases ha with ha | ha
                          · exact .inl (.inl ha)
                          · exact .inr (own_low q9 (d := a) (by rw [ha]; rfl))) R6.out.img.str (fun y hy => by
                          rw [← HY2.out] at hy
                          rcases mem_ins.1 hy with rfl | hy
                          · exact .inr ⟨rfl, exts_nil _⟩
                          · exact .inl hy))
                      have HW8 := Lib.hid hW8
                      clear hW8 ob q9 R7 v1 i1
                      rw [HW8.out]
                      have v0 := R8.out.var.c0; have v1 := R8.out.var.c1; have r0 := R8.out.res.c0; have r1 := R8.out.res.c1; have g0 := R8.out.res.f0; have g1 := R8.out.res.f1
                      go_wp2
                      have X := R8.out.done HIM.out
                      exact res_ibox rfl (w.heap.size + 2) _ _ _ _ _ _ rfl X.1 rfl X.2
                · have hl6' : ¬ (N.length : Int) < 16 := by omega
                  have HI := Lib.hid (HUn.out (fun h => h.2.2.2.2 (by omega)))
                  go_wp2_with (first | (go_at_call 14; refine (rname_any name _ hsn true H1.out).mono ?_; rintro e' w' ⟨rfl, rfl⟩) | (go_at_call 31; refine (rnamed_any A N.length c A' Z.length c' N Z name w3 R1.out.im ra HRa.out).mono ?_; rintro e' w4 ⟨rfl, k4⟩; have R2 := Lib.hid (R1.out.on k4); clear k4; clear b0 b1 v0 v1 r0 r1 g0 g1 o0 o1 o5 o6; have b0 := R2.out.box.c0; have b1 := R2.out.box.c1; have v0 := R2.out.var.c0; have v1 := R2.out.var.c1; have r0 := R2.out.res.c0; have r1 := R2.out.res.c1; have g0 := R2.out.res.f0; have g1 := R2.out.res.f1; have o0 := R2.out.bo.c0; have o1 := R2.out.bo.c1; have o5 := R2.out.bo.c5; have o6 := R2.out.bo.c6; simp only at o0 o1 o5 o6) | (go_at_call 34; refine (rnode_any A N.length c A' Z.length c' N Z ino w4 R2.out.im rb HRb.out).mono ?_; rintro e' w5 ⟨rfl, k5⟩; have R3 := Lib.hid (R2.out.on k5); clear k5; clear b0 b1 v0 v1 r0 r1 g0 g1 o0 o1 o5 o6; have b0 := R3.out.box.c0; have b1 := R3.out.box.c1; have v0 := R3.out.var.c0; have v1 := R3.out.var.c1; have r0 := R3.out.res.c0; have r1 := R3.out.res.c1; have g0 := R3.out.res.f0; have g1 := R3.out.res.f1; have o0 := R3.out.bo.c0; have o1 := R3.out.bo.c1; have o5 := R3.out.bo.c5; have o6 := R3.out.bo.c6; simp only at o0 o1 o5 o6))
                  have X := R3.out.done HI.out
                  exact res_ibox rfl (w.heap.size + 2) _ _ _ _ _ _ rfl X.1 rfl X.2
              · have HNb : fnd Nz.ino Y ino ≠ none := fun hf => hb (by
                  rw [← HRb.out]; refine ix_neg.2 ?_
                  have := fnd_ig HMP.out ino; rw [hf] at this; exact Option.map_eq_none_iff.1 this.symm)
                have HNb2 := Lib.hid HNb
                clear HNb
                have HI := Lib.hid (HUn.out (fun h => HNb2.out h.2.2.2.1))
                go_wp2_with (first | (go_at_call 14; refine (rname_any name _ hsn true H1.out).mono ?_; rintro e' w' ⟨rfl, rfl⟩) | (go_at_call 31; refine (rnamed_any A N.length c A' Z.length c' N Z name w3 R1.out.im ra HRa.out).mono ?_; rintro e' w4 ⟨rfl, k4⟩; have R2 := Lib.hid (R1.out.on k4); clear k4; clear b0 b1 v0 v1 r0 r1 g0 g1 o0 o1 o5 o6; have b0 := R2.out.box.c0; have b1 := R2.out.box.c1; have v0 := R2.out.var.c0; have v1 := R2.out.var.c1; have r0 := R2.out.res.c0; have r1 := R2.out.res.c1; have g0 := R2.out.res.f0; have g1 := R2.out.res.f1; have o0 := R2.out.bo.c0; have o1 := R2.out.bo.c1; have o5 := R2.out.bo.c5; have o6 := R2.out.bo.c6; simp only at o0 o1 o5 o6) | (go_at_call 34; refine (rnode_any A N.length c A' Z.length c' N Z ino w4 R2.out.im rb HRb.out).mono ?_; rintro e' w5 ⟨rfl, k5⟩; have R3 := Lib.hid (R2.out.on k5); clear k5; clear b0 b1 v0 v1 r0 r1 g0 g1 o0 o1 o5 o6; have b0 := R3.out.box.c0; have b1 := R3.out.box.c1; have v0 := R3.out.var.c0; have v1 := R3.out.var.c1; have r0 := R3.out.res.c0; have r1 := R3.out.res.c1; have g0 := R3.out.res.f0; have g1 := R3.out.res.f1; have o0 := R3.out.bo.c0; have o1 := R3.out.bo.c1; have o5 := R3.out.bo.c5; have o6 := R3.out.bo.c6; simp only at o0 o1 o5 o6))
                have X := R3.out.done HI.out
                exact res_ibox rfl (w.heap.size + 2) _ _ _ _ _ _ rfl X.1 rfl X.2
            · have HOK := Lib.hid (show okIno ino = false by simp [okIno, i2])
              have HI := Lib.hid (HUn.out (fun h => by have := h.2.2.1; rw [HOK.out] at this; cases this))
              go_wp2_with (first | (go_at_call 14; refine (rname_any name _ hsn true H1.out).mono ?_; rintro e' w' ⟨rfl, rfl⟩) | (go_at_call 31; refine (rnamed_any A N.length c A' Z.length c' N Z name w3 R1.out.im ra HRa.out).mono ?_; rintro e' w4 ⟨rfl, k4⟩; have R2 := Lib.hid (R1.out.on k4); clear k4; clear b0 b1 v0 v1 r0 r1 g0 g1 o0 o1 o5 o6; have b0 := R2.out.box.c0; have b1 := R2.out.box.c1; have v0 := R2.out.var.c0; have v1 := R2.out.var.c1; have r0 := R2.out.res.c0; have r1 := R2.out.res.c1; have g0 := R2.out.res.f0; have g1 := R2.out.res.f1; have o0 := R2.out.bo.c0; have o1 := R2.out.bo.c1; have o5 := R2.out.bo.c5; have o6 := R2.out.bo.c6; simp only at o0 o1 o5 o6))
              have X := R2.out.done HI.out
              exact res_ibox rfl (w.heap.size + 2) _ _ _ _ _ _ rfl X.1 rfl X.2
          · have HOK := Lib.hid (show okIno ino = false by simp [okIno, i1])
            have HI := Lib.hid (HUn.out (fun h => by have := h.2.2.1; rw [HOK.out] at this; cases this))
            go_wp2_with (first | (go_at_call 14; refine (rname_any name _ hsn true H1.out).mono ?_; rintro e' w' ⟨rfl, rfl⟩) | (go_at_call 31; refine (rnamed_any A N.length c A' Z.length c' N Z name w3 R1.out.im ra HRa.out).mono ?_; rintro e' w4 ⟨rfl, k4⟩; have R2 := Lib.hid (R1.out.on k4); clear k4; clear b0 b1 v0 v1 r0 r1 g0 g1 o0 o1 o5 o6; have b0 := R2.out.box.c0; have b1 := R2.out.box.c1; have v0 := R2.out.var.c0; have v1 := R2.out.var.c1; have r0 := R2.out.res.c0; have r1 := R2.out.res.c1; have g0 := R2.out.res.f0; have g1 := R2.out.res.f1; have o0 := R2.out.bo.c0; have o1 := R2.out.bo.c1; have o5 := R2.out.bo.c5; have o6 := R2.out.bo.c6; simp only at o0 o1 o5 o6))
            have X := R2.out.done HI.out
            exact res_ibox rfl (w.heap.size + 2) _ _ _ _ _ _ rfl X.1 rfl X.2
        · have HNa := Lib.hid (show fnd Nm.name N name ≠ none from fun hf => ha (by rw [← HRa.out]; exact ix_neg.2 hf))
          have HI := Lib.hid (HUn.out (fun h => HNa.out h.2.1))
          go_wp2_with (first | (go_at_call 14; refine (rname_any name _ hsn true H1.out).mono ?_; rintro e' w' ⟨rfl, rfl⟩) | (go_at_call 31; refine (rnamed_any A N.length c A' Z.length c' N Z name w3 R1.out.im ra HRa.out).mono ?_; rintro e' w4 ⟨rfl, k4⟩; have R2 := Lib.hid (R1.out.on k4); clear k4; clear b0 b1 v0 v1 r0 r1 g0 g1 o0 o1 o5 o6; have b0 := R2.out.box.c0; have b1 := R2.out.box.c1; have v0 := R2.out.var.c0; have v1 := R2.out.var.c1; have r0 := R2.out.res.c0; have r1 := R2.out.res.c1; have g0 := R2.out.res.f0; have g1 := R2.out.res.f1; have o0 := R2.out.bo.c0; have o1 := R2.out.bo.c1; have o5 := R2.out.bo.c5; have o6 := R2.out.bo.c6; simp only at o0 o1 o5 o6))
          have X := R2.out.done HI.out
          exact res_ibox rfl (w.heap.size + 2) _ _ _ _ _ _ rfl X.1 rfl X.2
    · subst hkd
      obtain ⟨M, Y2, hMY, hYes, hNo⟩ := apply_rename (N := N) (Z := Y) (o := ⟨6, ino, pos, size, keep, name, to, bs⟩) rfl
      simp only at hYes hNo
      have HIG := Lib.hid (show ig N Y = ig N Z by unfold ig; rw [HMP.out])
      have HIM := Lib.hid (show ig M Y2 = I by rw [hMY, HIG.out]; exact HA.out)
      have HYes := Lib.hid hYes; have HNo := Lib.hid hNo
      have HUn := Lib.hid (show ¬ mayRn N name to → ig N Y = I from fun h => by obtain ⟨e1, e2⟩ := HNo.out h; rw [← HIM.out, e1, e2])
      clear hMY hYes hNo
      obtain ⟨r, hr⟩ : ∃ r, ixOf Nm.name N name = r := ⟨_, rfl⟩
      have HR := Lib.hid hr
      clear hr
      go_wp2_with fail
      refine (rnamed_any A N.length c A' Z.length c' N Z name w3 R1.out.im r HR.out).mono ?_
      rintro e w4 ⟨rfl, k4⟩
      have R2 := Lib.hid (R1.out.on k4)
      clear k4 b0 b1 v0 v1 r0 r1 g0 g1 o0 o1 o5 o6
      have v0 := R2.out.var.c0; have v1 := R2.out.var.c1; have o5 := R2.out.bo.c5; have o6 := R2.out.bo.c6
      have r0 := R2.out.res.c0; have r1 := R2.out.res.c1; have g0 := R2.out.res.f0; have g1 := R2.out.res.f1
      simp only at o5 o6
      by_cases hr0 : r < 0
      · have hf : fnd Nm.name N name = none := ix_neg.1 (by rw [HR.out]; exact hr0)
        have HI := Lib.hid (HUn.out (fun h => by have := h.1; rw [hf] at this; cases this))
        have hrd : decide ((0 : Int) ≤ r) = false := by simp; omega
        clear hf
        go_wp2
        have X := R2.out.done HI.out
        exact res_ibox rfl (w.heap.size + 2) _ _ _ _ _ _ rfl X.1 rfl X.2
      · obtain ⟨x, hx⟩ : ∃ x, fnd Nm.name N name = some x := by
          cases hf : fnd Nm.name N name with
          | none => exact absurd (by rw [← HR.out]; exact ix_neg.2 hf) hr0
          | some x => exact ⟨x, rfl⟩
        have hrd : decide ((0 : Int) ≤ r) = true := by simp; omega
        obtain ⟨y3, h3⟩ : ∃ z, okName to = z := ⟨_, rfl⟩
        have H3 := Lib.hid h3
        clear h3
        cases y3 with
        | false =>
          have HI := Lib.hid (HUn.out (fun h => by have := h.2.1; rw [H3.out] at this; cases this))
          clear hx
          go_wp2_with (go_at_call 14; refine (rname_any to _ hst false H3.out).mono ?_; rintro e' w' ⟨rfl, rfl⟩)
          have X := R2.out.done HI.out
          exact res_ibox rfl (w.heap.size + 2) _ _ _ _ _ _ rfl X.1 rfl X.2
        | true =>
          by_cases heq : to = name
          · have HI := Lib.hid (HUn.out (fun h => h.2.2 heq))
            have hl1 : (to.toList == name.toList) = true := by rw [heq]; simp
            clear hx heq
            go_wp2_with (go_at_call 14; refine (rname_any to _ hst true H3.out).mono ?_; rintro e' w' ⟨rfl, rfl⟩)
            have X := R2.out.done HI.out
            exact res_ibox rfl (w.heap.size + 2) _ _ _ _ _ _ rfl X.1 rfl X.2
          · have hl1 : (to.toList == name.toList) = false := by
              cases hb : (to.toList == name.toList) with
              | false => rfl
              | true => exact absurd (toList_inj (by simpa using hb)) heq
            obtain ⟨j, hjn, hj, hjx⟩ := ix_some hx
            rw [HR.out] at hj
            subst hj
            have HJX := Lib.hid hjx
            have HYY := Lib.hid (HYes.out ⟨by rw [hx]; rfl, H3.out, heq⟩ x hx)
            have HX := Lib.hid hx; have HNE := Lib.hid heq
            obtain ⟨r2, hr2⟩ : ∃ r, ixOf Nm.name N to = r := ⟨_, rfl⟩
            have HR2 := Lib.hid hr2
            clear hx hjx heq hr2
            have HFD := Lib.hid (show fnd Nm.name (del Nm.name N name) to = fnd Nm.name N to by rw [fnd_del, if_neg HNE.out])
            by_cases hr2 : r2 < 0
            · have hd2 : decide ((0 : Int) ≤ r2) = false := by simp; omega
              have hfn := Lib.hid (show fnd Nm.name N to = none from ix_neg.1 (by rw [HR2.out]; exact hr2))
              have HF1 := HX
              have HRs1 := Lib.hid (show Rise ordN Nm.name N from HG.out.rise)
              have HN1l := Lib.hid hn
              have HY1l := Lib.hid (show Y.length ≤ 1000 by have := HYl.out; omega)
              have HIF := Lib.hid (show ig (ins ordN Nm.name (del Nm.name N name) ⟨to, x.ino⟩) Y = I by
                rw [← HIM.out]
                obtain ⟨e1, e2⟩ := HYY.out
                have hf := HFD.out
                rw [hfn.out] at hf
                rw [remN_nil hf] at e1
                rw [remZ, hf] at e2
                have e2' : Y = Y2 := e2
                rw [e1, ← e2'])
              go_upto_region 24 with (first | (go_at_call 14; refine (rname_any to _ hst true H3.out).mono ?_; rintro e' w' ⟨rfl, rfl⟩) | (go_at_call 31; refine (rnamed_any D N.length d D' Y.length d' N Y to w4 R2.out.img.im r2 HR2.out).mono ?_; rintro e' w5 ⟨rfl, k5⟩; have R3 := Lib.hid (R2.out.on k5); clear k5 v0 v1 r0 r1 g0 g1 o5 o6))
              obtain ⟨j1, hj1n, hj1, hj1x⟩ := ix_some HF1.out
              have HM1 := Lib.hid (show N.take j1 ++ N.drop (j1 + 1) = del Nm.name N name by
                have h1 := ix_rise HRs1.out HF1.out
                rw [hj1] at h1
                have h2 : pl ordN Nm.name N name = j1 := by omega
                have h4 := erase_del HRs1.out HF1.out
                rwa [h2] at h4)
              obtain ⟨N2, hN2⟩ : ∃ N2, del Nm.name N name = N2 := ⟨_, rfl⟩
              have HI2 := Lib.hid (show ig (ins ordN Nm.name N2 ⟨to, x.ino⟩) Y = I by rw [← hN2]; exact HIF.out)
              have HSub2 := Lib.hid (show ∀ y ∈ N2, y ∈ N from fun y hy => by rw [← hN2] at hy; exact (mem_del.1 hy).1)
              have HN2l := Lib.hid (show N2.length ≤ 1000 by rw [← hN2]; have := len_del Nm.name N name; have := HN1l.out; omega)
              rw [hN2] at HM1
              have HJ1 := Lib.hid hj1; have HJX1 := Lib.hid hj1x
              have hn1 := HN1l.out
              have hy1l := HY1l.out
              clear hj1 hj1x hN2
              have o5 := R3.out.bo.c5; have o6 := R3.out.bo.c6
              simp only at o5 o6
              go_wp2_with fail
              refine (gone_any q D N.length d D' Y.length d' N Y name false w5 R3.out.var R3.out.img.im hn1 hy1l j1 x HJ1.out hj1n HJX1.out 0 (fun h => by cases h) N2 Y HM1.out (fun h => by cases h) (fun _ => rfl)).mono ?_
              rintro e w7 ⟨E2, e2, E2', e2', rfl, hv7, q7, _, hz7, o7'⟩
              obtain ⟨rfl, rfl⟩ := hz7 rfl
              have hsz7 : w.heap.size + 3 ≤ w5.heap.size := by have := R3.out.res.lt; omega
              have R7 := Lib.hid (R3.out.next hv7 (q7.mono hsz7) (R3.out.img.nodes.only o7' (fun a ha hd => R3.out.img.ne R3.out.var (by decide) (by decide) (by subst hd; exact .inr ha))) o7' (fun a ha => by
                rcases ha with ha | ha
                · exact .inr (own_low q7 (d := a) (by rw [ha]; rfl))
                · exact .inl (.inr ha)) (fun y hy => R3.out.img.str y (HSub2.out y hy)) (fun y hy => .inl hy))
              clear hv7 q7 o7' hz7 o5 o6
              have b0 := R7.out.box.c0; have o6 := R7.out.bo.c6
              simp only at o6
              obtain ⟨zb, zo, hAe, _, _⟩ := R7.out.im.names.cells (by omega)
              have hAe' := hAe
              subst hAe'
              have hnc := (Nms.at R7.out.im.names j hjn).2
              rw [HJX.out] at hnc
              have hjN : (j : Int) < (N.length : Int) := by omega
              go_upto_region 25 with fail
              go_still_tail 8, (by kernel_rfl)
              change wpList _ _ _ _ _ w7.drew
              have R8 := Lib.hid (R7.out.on (show Below w7.heap.size w7 w7.drew from (Below.refl _ _).drew))
              generalize w7.drew = w8 at *
              go_wp2_with fail
              refine (called_any q E2 N2.length e2 _ Y.length _ N2 to x.ino w8 R8.out.var R8.out.img.im.names HN2l.out _ rfl).mono ?_
              rintro e w9 ⟨G9, g9, rfl, hv9, q9, o9⟩
              have hsz9 : w.heap.size + 3 ≤ w8.heap.size := by have := R8.out.res.lt; omega
              have R9 := Lib.hid (R8.out.next hv9 (q9.mono hsz9) (R8.out.img.nodes.only o9 (fun a ha hd => R8.out.img.ne R8.out.var (by decide) (by decide) (by subst hd; exact .inr ha))) o9 (fun a ha => by
                rcases ha with ha | ha
                · exact .inr (own_low q9 (d := a) (by rw [ha]; rfl))
                · exact .inl (.inr ha)) (fun y hy => by
                  rcases mem_ins.1 hy with rfl | hy
                  · exact hst
                  · exact R8.out.img.str y hy) (fun y hy => .inl hy))
              clear hv9 q9 o9 b0 o6 hnc
              have v0 := R9.out.var.c0; have v1 := R9.out.var.c1
              have r0 := R9.out.res.c0; have r1 := R9.out.res.c1; have g0 := R9.out.res.f0; have g1 := R9.out.res.f1
              go_wp2
              have X := R9.out.done HI2.out
              exact res_ibox rfl (w.heap.size + 2) _ _ _ _ _ _ rfl X.1 rfl X.2
            · have hd2 : decide ((0 : Int) ≤ r2) = true := by simp; omega
              obtain ⟨y, hy⟩ : ∃ y, fnd Nm.name N to = some y := by
                cases hf : fnd Nm.name N to with
                | none => exact absurd (by rw [← HR2.out]; exact ix_neg.2 hf) hr2
                | some y => exact ⟨y, rfl⟩
              have hrn : Rise ordN Nm.name N := HG.out.rise
              obtain ⟨jt, hjtn, hjt, hjtx⟩ := ix_some hy
              obtain ⟨yy, hyy⟩ := HGN.out to y hy
              obtain ⟨it, hitn, hit, _⟩ := ix_some hyy
              obtain ⟨N1, hN1⟩ : ∃ N1, del Nm.name N to = N1 := ⟨_, rfl⟩
              obtain ⟨Y1, hY1⟩ : ∃ Y1, del Nz.ino Y y.ino = Y1 := ⟨_, rfl⟩
              have HMt := Lib.hid (show N.take jt ++ N.drop (jt + 1) = N1 by
                have h1 := ix_rise hrn hy
                rw [hjt] at h1
                have h2 : pl ordN Nm.name N to = jt := by omega
                have h4 := erase_del hrn hy
                rw [h2] at h4
                rw [h4, hN1])
              have HYt := Lib.hid (show Y.take it ++ Y.drop (it + 1) = Y1 by
                have h1 := ix_rise HuY.out hyy
                rw [hit] at h1
                have h2 : pl ordI Nz.ino Y y.ino = it := by omega
                have h4 := erase_del HuY.out hyy
                rw [h2] at h4
                rw [h4, hY1])
              have HF1 := Lib.hid (show fnd Nm.name N1 name = some x by rw [← hN1, fnd_del, if_neg (fun e => HNE.out e.symm)]; exact HX.out)
              have HRs1 := Lib.hid (show Rise ordN Nm.name N1 by rw [← hN1]; exact rise_del hrn _)
              have HN1l := Lib.hid (show N1.length ≤ 1000 by rw [← hN1]; have := len_del Nm.name N to; omega)
              have HY1l := Lib.hid (show Y1.length ≤ 1000 by rw [← hY1]; have := len_del Nz.ino Y y.ino; have := HYl.out; omega)
              have HIF := Lib.hid (show ig (ins ordN Nm.name (del Nm.name N1 name) ⟨to, x.ino⟩) Y1 = I by
                rw [← HIM.out, ← hN1, ← hY1]
                obtain ⟨e1, e2⟩ := HYY.out
                have hf := HFD.out
                rw [hy] at hf
                rw [remN, hf] at e1
                rw [remZ, hf] at e2
                have e1' : ins ordN Nm.name (del Nm.name (del Nm.name N name) to) ⟨to, x.ino⟩ = M := e1
                have e2' : del Nz.ino Y y.ino = Y2 := e2
                rw [del_comm, e1', e2'])
              have HSubt := Lib.hid (show (∀ y ∈ N1, y ∈ N) ∧ ∀ z ∈ Y1, z ∈ Y from ⟨fun y hy => by rw [← hN1] at hy; exact (mem_del.1 hy).1, fun z hz => by rw [← hY1] at hz; exact (mem_del.1 hz).1⟩)
              have HJt := Lib.hid hjt; have HIt := Lib.hid hit; have HJtx := Lib.hid hjtx
              have hYl9 : Y.length ≤ 1000 := by have := HYl.out; omega
              clear hy hyy hjt hit hjtx hN1 hY1
              go_upto_region 23 with (first | (go_at_call 14; refine (rname_any to _ hst true H3.out).mono ?_; rintro e' w' ⟨rfl, rfl⟩) | (go_at_call 31; refine (rnamed_any D N.length d D' Y.length d' N Y to w4 R2.out.img.im r2 HR2.out).mono ?_; rintro e' w5 ⟨rfl, k5⟩; have R3 := Lib.hid (R2.out.on k5); clear k5 v0 v1 r0 r1 g0 g1 o5 o6))
              have o6 := R3.out.bo.c6
              simp only at o6
              go_wp2_with fail
              refine (gone_any q D N.length d D' Y.length d' N Y to true w5 R3.out.var R3.out.img.im hn hYl9 jt y HJt.out hjtn HJtx.out it (fun _ => ⟨HIt.out, hitn⟩) N1 Y1 HMt.out (fun _ => HYt.out) (fun h => by cases h)).mono ?_
              rintro e w6 ⟨G, g, G', g', rfl, hv5, q5, q5', _, o5'⟩
              have hsz5 : w.heap.size + 3 ≤ w5.heap.size := by have := R3.out.res.lt; omega
              have R4 := Lib.hid (R3.out.next hv5 (q5.mono hsz5) ((q5' rfl).mono hsz5) o5' (fun a ha => .inr (by
                rcases ha with ha | ha
                · exact own_low q5 (d := a) (by rw [ha]; rfl)
                · exact own_low (q5' rfl) (d := a) (by rw [ha]; rfl))) (fun x hx => R3.out.img.str x (HSubt.out.1 x hx)) (fun y hy => .inl (HSubt.out.2 y hy)))
              clear hv5 q5 q5' o5' o6
              obtain ⟨j1, hj1n, hj1, hj1x⟩ := ix_some HF1.out
              have HM1 := Lib.hid (show N1.take j1 ++ N1.drop (j1 + 1) = del Nm.name N1 name by
                have h1 := ix_rise HRs1.out HF1.out
                rw [hj1] at h1
                have h2 : pl ordN Nm.name N1 name = j1 := by omega
                have h4 := erase_del HRs1.out HF1.out
                rwa [h2] at h4)
              obtain ⟨N2, hN2⟩ : ∃ N2, del Nm.name N1 name = N2 := ⟨_, rfl⟩
              have HI2 := Lib.hid (show ig (ins ordN Nm.name N2 ⟨to, x.ino⟩) Y1 = I by rw [← hN2]; exact HIF.out)
              have HSub2 := Lib.hid (show ∀ y ∈ N2, y ∈ N1 from fun y hy => by rw [← hN2] at hy; exact (mem_del.1 hy).1)
              have HN2l := Lib.hid (show N2.length ≤ 1000 by rw [← hN2]; have := len_del Nm.name N1 name; have := HN1l.out; omega)
              rw [hN2] at HM1
              have HJ1 := Lib.hid hj1; have HJX1 := Lib.hid hj1x
              have hn1 := HN1l.out
              have hy1l := HY1l.out
              clear hj1 hj1x hN2
              have o5 := R4.out.bo.c5; have o6 := R4.out.bo.c6
              simp only at o5 o6
              go_wp2_with fail
              refine (gone_any q G N1.length g G' Y1.length g' N1 Y1 name false w6 R4.out.var R4.out.img.im hn1 hy1l j1 x HJ1.out hj1n HJX1.out 0 (fun h => by cases h) N2 Y1 HM1.out (fun h => by cases h) (fun _ => rfl)).mono ?_
              rintro e w7 ⟨E2, e2, E2', e2', rfl, hv7, q7, _, hz7, o7'⟩
              obtain ⟨rfl, rfl⟩ := hz7 rfl
              have hsz7 : w.heap.size + 3 ≤ w6.heap.size := by have := R4.out.res.lt; omega
              have R7 := Lib.hid (R4.out.next hv7 (q7.mono hsz7) (R4.out.img.nodes.only o7' (fun a ha hd => R4.out.img.ne R4.out.var (by decide) (by decide) (by subst hd; exact .inr ha))) o7' (fun a ha => by
                rcases ha with ha | ha
                · exact .inr (own_low q7 (d := a) (by rw [ha]; rfl))
                · exact .inl (.inr ha)) (fun y hy => R4.out.img.str y (HSub2.out y hy)) (fun y hy => .inl hy))
              clear hv7 q7 o7' hz7 o5 o6
              have b0 := R7.out.box.c0; have o6 := R7.out.bo.c6
              simp only at o6
              obtain ⟨zb, zo, hAe, _, _⟩ := R7.out.im.names.cells (by omega)
              have hAe' := hAe
              subst hAe'
              have hnc := (Nms.at R7.out.im.names j hjn).2
              rw [HJX.out] at hnc
              have hjN : (j : Int) < (N.length : Int) := by omega
              go_upto_region 25 with fail
              go_still_tail 8, (by kernel_rfl)
              change wpList _ _ _ _ _ w7.drew
              have R8 := Lib.hid (R7.out.on (show Below w7.heap.size w7 w7.drew from (Below.refl _ _).drew))
              generalize w7.drew = w8 at *
              go_wp2_with fail
              refine (called_any q E2 N2.length e2 _ Y1.length _ N2 to x.ino w8 R8.out.var R8.out.img.im.names HN2l.out _ rfl).mono ?_
              rintro e w9 ⟨G9, g9, rfl, hv9, q9, o9⟩
              have hsz9 : w.heap.size + 3 ≤ w8.heap.size := by have := R8.out.res.lt; omega
              have R9 := Lib.hid (R8.out.next hv9 (q9.mono hsz9) (R8.out.img.nodes.only o9 (fun a ha hd => R8.out.img.ne R8.out.var (by decide) (by decide) (by subst hd; exact .inr ha))) o9 (fun a ha => by
                rcases ha with ha | ha
                · exact .inr (own_low q9 (d := a) (by rw [ha]; rfl))
                · exact .inl (.inr ha)) (fun y hy => by
                  rcases mem_ins.1 hy with rfl | hy
                  · exact hst
                  · exact R8.out.img.str y hy) (fun y hy => .inl hy))
              clear hv9 q9 o9 b0 o6 hnc
              have v0 := R9.out.var.c0; have v1 := R9.out.var.c1
              have r0 := R9.out.res.c0; have r1 := R9.out.res.c1; have g0 := R9.out.res.f0; have g1 := R9.out.res.f1
              go_wp2
              have X := R9.out.done HI2.out
              exact res_ibox rfl (w.heap.size + 2) _ _ _ _ _ _ rfl X.1 rfl X.2
    · subst hkd
      have HRM := Lib.hid (apply_remove (N := N) (Z := Y) (o := ⟨7, ino, pos, size, keep, name, to, bs⟩) rfl)
      have HIG := Lib.hid (show ig N Y = ig N Z by unfold ig; rw [HMP.out])
      obtain ⟨r, hr⟩ : ∃ r, ixOf Nm.name N name = r := ⟨_, rfl⟩
      have HR := Lib.hid hr
      clear hr
      go_wp2_with fail
      refine (rnamed_any A N.length c A' Z.length c' N Z name w3 R1.out.im r HR.out).mono ?_
      rintro e w4 ⟨rfl, k4⟩
      have R2 := Lib.hid (R1.out.on k4)
      clear k4 b0 b1 v0 v1 r0 r1 g0 g1 o0 o1 o5 o6
      have v0 := R2.out.var.c0; have v1 := R2.out.var.c1; have o5 := R2.out.bo.c5
      simp only at o5
      by_cases hr0 : r < 0
      · have hf : fnd Nm.name N name = none := ix_neg.1 (by rw [HR.out]; exact hr0)
        have HI := Lib.hid (show ig N Y = I by
          rw [← HA.out, ← HIG.out, ← HRM.out, ig_rem, hf])
        have hrd : decide ((0 : Int) ≤ r) = false := by simp; omega
        have r0 := R2.out.res.c0; have r1 := R2.out.res.c1; have g0 := R2.out.res.f0; have g1 := R2.out.res.f1
        clear hf
        go_wp2
        have X := R2.out.done HI.out
        exact res_ibox rfl (w.heap.size + 2) _ _ _ _ _ _ rfl X.1 rfl X.2
      · obtain ⟨x, hx⟩ : ∃ x, fnd Nm.name N name = some x := by
          cases hf : fnd Nm.name N name with
          | none => exact absurd (by rw [← HR.out]; exact ix_neg.2 hf) hr0
          | some x => exact ⟨x, rfl⟩
        obtain ⟨j, hjn, hj, hjx⟩ := ix_some hx
        obtain ⟨y, hy⟩ := HGN.out name x hx
        obtain ⟨i, hin, hi, _⟩ := ix_some hy
        have HM := Lib.hid (show N.take j ++ N.drop (j + 1) = remN N name by
          have h1 := ix_rise HG.out.rise hx
          have h2 : pl ordN Nm.name N name = j := by have h3 : ixOf Nm.name N name = pl ordN Nm.name N name := h1; rw [hj] at h3; omega
          have h4 : N.take (pl ordN Nm.name N name) ++ N.drop (pl ordN Nm.name N name + 1) = del Nm.name N name := erase_del HG.out.rise hx
          rw [h2] at h4
          rw [h4, remN, hx])
        have HYe := Lib.hid (show Y.take i ++ Y.drop (i + 1) = remZ N Y name by
          have h3 := ix_rise HuY.out hy
          rw [hi] at h3
          have h2 : pl ordI Nz.ino Y x.ino = i := by omega
          have h4 := erase_del HuY.out hy
          rw [h2] at h4
          rw [h4, remZ, hx])
        have HI := Lib.hid (show ig (remN N name) (remZ N Y name) = I by rw [← HA.out, ← HIG.out, ← HRM.out])
        have HJ := Lib.hid hj; have HIx := Lib.hid hi; have HJX := Lib.hid hjx
        have hrd : decide ((0 : Int) ≤ r) = true := by simp; omega
        obtain ⟨M2, hM2⟩ : ∃ M2, remN N name = M2 := ⟨_, rfl⟩
        obtain ⟨Y2, hY2⟩ : ∃ Y2, remZ N Y name = Y2 := ⟨_, rfl⟩
        have HSub := Lib.hid (show (∀ x ∈ M2, x ∈ N) ∧ ∀ y ∈ Y2, y ∈ Y from ⟨fun x hx => by rw [← hM2] at hx; exact mem_remN hx, fun y hy => by rw [← hY2] at hy; exact mem_remZ hy⟩)
        rw [hM2] at HM HI
        rw [hY2] at HYe HI
        clear hx hy hj hi hjx hM2 hY2
        go_wp2_with fail
        refine (gone_any q D N.length d D' Y.length d' N Y name true w4 R2.out.var R2.out.img.im hn (by have := HYl.out; omega) j x HJ.out hjn HJX.out i (fun _ => ⟨HIx.out, hin⟩) M2 Y2 HM.out (fun _ => HYe.out) (fun h => by cases h)).mono ?_
        rintro e w5 ⟨G, g, G', g', rfl, hv5, q5, q5', _, o5'⟩
        have hsz : w.heap.size + 3 ≤ w4.heap.size := by have := R2.out.res.lt; omega
        have R3 := Lib.hid (R2.out.next hv5 (q5.mono hsz) ((q5' rfl).mono hsz) o5' (fun a ha => .inr (by
          rcases ha with ha | ha
          · exact own_low q5 (d := a) (by rw [ha]; rfl)
          · exact own_low (q5' rfl) (d := a) (by rw [ha]; rfl))) (fun x hx => R2.out.img.str x (HSub.out.1 x hx)) (fun y hy => .inl (HSub.out.2 y hy)))
        clear hv5 q5 q5' o5' v0 v1 o5
        have v0 := R3.out.var.c0; have v1 := R3.out.var.c1
        have r0 := R3.out.res.c0; have r1 := R3.out.res.c1; have g0 := R3.out.res.f0; have g1 := R3.out.res.f1
        go_wp2
        have X := R3.out.done HI.out
        exact res_ibox rfl (w.heap.size + 2) _ _ _ _ _ _ rfl X.1 rfl X.2
    · obtain ⟨k1, k6, k7⟩ := hkd
      have HAP := Lib.hid (apply_other (N := N) (Z := Y) (o := ⟨kind, ino, pos, size, keep, name, to, bs⟩) k1 k6 k7)
      have HIG := Lib.hid (show ig N Y = ig N Z by unfold ig; rw [HMP.out])
      have t1 : (kind == 1) = false := by simpa using k1
      have t6 : (kind == 6) = false := by simpa using k6
      have t7 : (kind == 7) = false := by simpa using k7
      obtain ⟨r, hr⟩ : ∃ r, ixOf Nz.ino Z ino = r := ⟨_, rfl⟩
      have HR := Lib.hid hr
      clear hr
      go_wp2_with fail
      refine (rnode_any A N.length c A' Z.length c' N Z ino w3 R1.out.im r HR.out).mono ?_
      rintro e w4 ⟨rfl, k4⟩
      have R2 := Lib.hid (R1.out.on k4)
      clear k4 b0 b1 v0 v1 r0 r1 g0 g1 o0 o1 o5 o6
      have v0 := R2.out.var.c0; have v1 := R2.out.var.c1; have b1 := R2.out.box.c1
      by_cases hr0 : r < 0
      · have hfz : fnd Nz.ino Z ino = none := ix_neg.1 (by rw [HR.out]; exact hr0)
        have hfy : fnd Nz.ino Y ino = none := by have := fnd_ig HMP.out ino; rw [hfz] at this; exact Option.map_eq_none_iff.1 this
        have HI := Lib.hid (show ig N Y = I by rw [← HA.out, ← HIG.out, HAP.out, hfy])
        have hrd : decide ((0 : Int) ≤ r) = false := by simp; omega
        have r0 := R2.out.res.c0; have r1 := R2.out.res.c1; have g0 := R2.out.res.f0; have g1 := R2.out.res.f1
        clear hfz hfy
        go_wp2
        have X := R2.out.done HI.out
        exact res_ibox rfl (w.heap.size + 2) _ _ _ _ _ _ rfl X.1 rfl X.2
      · obtain ⟨x, hx⟩ : ∃ x, fnd Nz.ino Z ino = some x := by
          cases hf : fnd Nz.ino Z ino with
          | none => exact absurd (by rw [← HR.out]; exact ix_neg.2 hf) hr0
          | some x => exact ⟨x, rfl⟩
        obtain ⟨i, hil, hi, hix⟩ := ix_some hx
        rw [HR.out] at hi
        subst hi
        obtain ⟨y, hy, hyd⟩ : ∃ y, fnd Nz.ino Y ino = some y ∧ y.d = x.d := by
          have := fnd_ig HMP.out ino
          rw [hx] at this
          obtain ⟨y, h1, h2⟩ := Option.map_eq_some_iff.1 this
          exact ⟨y, h1, h2⟩
        have hiY : i < Y.length := by rw [HYl.out]; exact hil
        have HPL := Lib.hid (show pl ordI Nz.ino Y ino = i by
          have h3 := ix_rise hu.out hx
          rw [HR.out] at h3
          rw [pl_keys, map_ino HMP.out, ← pl_keys]; omega)
        have HYI := Lib.hid (show (Y.getD i default).ino = ino by
          have h4 := (fnd_at HuY.out hy).2
          rw [HPL.out] at h4
          rw [h4]; exact (fnd_mem hy).2)
        have HYD := Lib.hid (show y.s = x.s ∧ y.L = x.L from ⟨congrArg Nd.s hyd, congrArg Nd.L hyd⟩)
        have HYX := Lib.hid hy
        have HE := Lib.hid (R2.out.im.exts x (fnd_mem hx).1)
        have hxn : x.n ≤ 10000 := lens_z (K := 10000) (fun dd hd => by have := HLn.out dd hd; omega) H.out.exts x (fnd_mem hx).1
        obtain ⟨zb, zo, rfl, _, _⟩ := R2.out.im.nodes.cells (by omega)
        obtain ⟨yg, rfl⟩ : ∃ yg, D' = some ⟨yg, 0, none⟩ := by
          rcases R2.out.img.nodes.addr with h0 | ⟨g, he, _⟩
          · have := R2.out.img.im.nodes.nil h0; omega
          · exact ⟨g, he⟩
        obtain ⟨zz, hzz⟩ : ∃ z, (chg ⟨kind, ino, pos, size, keep, name, to, bs⟩ x.s x.L).isSome = z := ⟨_, rfl⟩
        have HZZ := Lib.hid hzz
        obtain ⟨s', Mz, hsm⟩ : ∃ s' M, ∀ r, chg ⟨kind, ino, pos, size, keep, name, to, bs⟩ x.s x.L = some r → r = (s', M) := by
          cases chg ⟨kind, ino, pos, size, keep, name, to, bs⟩ x.s x.L with
          | none => exact ⟨0, [], fun r hr => by cases hr⟩
          | some r => exact ⟨r.1, r.2, fun r' hr => by injection hr with hr; rw [← hr]⟩
        have HSM := Lib.hid hsm
        have hil' : (i : Int) < (Z.length : Int) := by omega
        have hiY' : (i : Int) < (Y.length : Int) := by omega
        have hrd : decide ((0 : Int) ≤ (i : Int)) = true := by simp
        have SFx := Lib.hid (fun w' (k : Below w4.heap.size w4 w') => (R2.out.on k).cells hil hix)
        have S1 := R2.out.cells hil hix
        have HP1 := Lib.hid (show Below w4.heap.size w4 (w4.drewN 1) from below_drewN (Below.refl _ _) 1)
        have HP2 := Lib.hid (show Below w4.heap.size w4 ((w4.alloc (.cells #[.int .i64 0, .slice none 0 0] 32)).drewN 1) from below_drewN ((Below.refl _ _).alloc (Nat.le_refl _) _) 1)
        have HPX := Lib.hid (show Below (w4.alloc (.cells #[.int .i64 0, .slice none 0 0] 32)).heap.size (w4.alloc (.cells #[.int .i64 0, .slice none 0 0] 32)) ((w4.alloc (.cells #[.int .i64 0, .slice none 0 0] 32)).drewN 1) from below_drewN (Below.refl _ _) 1)
        clear hx hy hyd hzz hsm hix v0 v1 hr0
        go_wp2
        go_region_held3 (fun w' => w'.cell? ⟨w.heap.size, 1, none⟩ = some (.slice (some ⟨zb, zo, none⟩) Z.length c') ∧ w'.cell? ⟨zb, zo + i * 3 + 1, none⟩ = some (.int .i64 x.s) ∧ w'.cell? ⟨zb, zo + i * 3 + 2, none⟩ = some (.slice x.A x.n x.c) ∧ w'.cell? ⟨w.heap.size + 1, 0, none⟩ = some (.int .i64 kind) ∧ w'.cell? ⟨w.heap.size + 1, 1, none⟩ = some (.int .i64 ino) ∧ w'.cell? ⟨w.heap.size + 1, 2, none⟩ = some (.int .i64 pos) ∧ w'.cell? ⟨w.heap.size + 1, 3, none⟩ = some (.int .i64 size) ∧ w'.cell? ⟨w.heap.size + 1, 4, none⟩ = some (.bool keep) ∧ w'.cell? ⟨w.heap.size + 1, 5, none⟩ = some (.string name) ∧ w'.cell? ⟨w.heap.size + 1, 6, none⟩ = some (.string to) ∧ w'.cell? ⟨w.heap.size + 1, 7, none⟩ = some (.slice BA bs.length cb))
          (first | assumption | exact S1 | exact SFx.out _ (Below.refl _ _) | exact SFx.out _ HP1.out | exact SFx.out _ ((Below.refl _ _).alloc (Nat.le_refl _) _) | exact SFx.out _ HP2.out | exact SFx.out _ (HP1.out.alloc HP1.out.size _) | exact SFx.out _ K2.out | exact SFx.out _ (K2.out.alloc K2.out.size _) | exact SFx.out _ (below_put (K2.out.alloc K2.out.size _) _ K2.out.size _ _) | exact SFx.out _ (below_put K2.out _ (Nat.le_refl _) _ _))
          (first | (go_at_call 49; refine (rchange_any x.s x.A x.n x.c x.L ⟨kind, ino, pos, size, keep, name, to, bs⟩ BA cb _ (HE.out.on HP1.out) hxn (R2.out.op.on HP1.out) H9.out zz s' Mz HZZ.out HSM.out).mono ?_; rintro e w5 ⟨sx, E, en, ec, Mx, he, hsx, hm, k5⟩; obtain rfl : e = .returned (.tuple #[.agg #[.int .i64 sx, .slice E en ec], .bool zz]) := he; have K2 := Lib.hid (Below.trans HP1.out (k5.mono HP1.out.size)); have HM := Lib.hid hm; have HSX := Lib.hid hsx; clear k5 hm hsx) | (go_at_call 49; refine (rchange_any x.s x.A x.n x.c x.L ⟨kind, ino, pos, size, keep, name, to, bs⟩ BA cb _ (HE.out.on HP2.out) hxn (R2.out.op.on HP2.out) H9.out zz s' Mz HZZ.out HSM.out).mono ?_; rintro e w5 ⟨sx, E, en, ec, Mx, he, hsx, hm, k5⟩; obtain rfl : e = .returned (.tuple #[.agg #[.int .i64 sx, .slice E en ec], .bool zz]) := he; have K2 := Lib.hid (Below.trans HP2.out (k5.mono HP2.out.size)); have HM := Lib.hid hm; have HSX := Lib.hid hsx; have BX := Lib.hid (((box_new w4 0 none 0 0).on HPX.out).on k5); have x0 := BX.out.c0; have x1 := BX.out.c1; have xf0 := BX.out.f0; have xf1 := BX.out.f1; clear k5 hm hsx))
        · obtain ⟨w6, hw6⟩ : ∃ w6, w5.alloc (.cells #[.int .i64 sx, .slice E en ec] 32) = w6 := ⟨_, rfl⟩
          have D3 := Lib.hid (show Box w6 w5.heap.size sx E en ec by rw [← hw6]; exact box_new _ _ _ _ _)
          have KB := Lib.hid (show Below w4.heap.size w4 w6 by rw [← hw6]; exact K2.out.alloc K2.out.size _)
          have M3 := Lib.hid (show Mut w4.heap.size w6 E en ec Mx by
            rw [← hw6]
            exact HM.out.on ((Below.refl _ _).alloc (Nat.le_refl _) _))
          rw [hw6]
          clear hw6
          have R5 := Lib.hid (R2.out.on KB.out)
          have v0 := R5.out.var.c0; have v1 := R5.out.var.c1; have r0 := R5.out.res.c0; have r1 := R5.out.res.c1; have g0 := R5.out.res.f0; have g1 := R5.out.res.f1
          have d0 := D3.out.c0; have d1 := D3.out.c1
          have hyc := Nds.at0 R5.out.img.nodes.sl' i hiY
          obtain ⟨h0, h1, h2⟩ := hyc
          have f1 := own_free R5.out.img.nodes (i * 3 + 1); have f2 := own_free R5.out.img.nodes (i * 3 + 2)
          cases zz with
          | false =>
            have HI := Lib.hid (show ig N Y = I by
              rw [← HA.out, ← HIG.out, HAP.out, HYX.out]
              have hcn : chg ⟨kind, ino, pos, size, keep, name, to, bs⟩ x.s x.L = none := by have := HZZ.out; simpa using this
              show _ = match chg _ y.s y.L with | none => _ | some r => _
              rw [HYD.out.1, HYD.out.2, hcn])
            go_wp2
            have X := R5.out.done HI.out
            exact res_ibox rfl (w.heap.size + 2) _ _ _ _ _ _ rfl X.1 rfl X.2
          | true =>
            obtain ⟨rr, hrr⟩ : ∃ rr, chg ⟨kind, ino, pos, size, keep, name, to, bs⟩ x.s x.L = some rr := Option.isSome_iff_exists.1 HZZ.out
            have HRS := Lib.hid (show rr = (sx, Mx) by rw [HSM.out rr hrr, (HSX.out rfl).1, (HSX.out rfl).2])
            have HC := Lib.hid hrr
            clear hrr
            go_upto_region 29 with fail
            obtain ⟨W4, hW4⟩ : ∃ W4, (w6.setCell ⟨yg, i * 3 + 1, none⟩ (.int .i64 sx)).setCell ⟨yg, i * 3 + 2, none⟩ (.slice E en ec) = W4 := ⟨_, rfl⟩
            have n4 := R2.out.img.setC (s := sx) KB.out i hiY M3.out
            rw [hW4] at n4
            have R6 := Lib.hid (R2.out.row n4 (by simp) (fun a ha => (List.mem_or_eq_of_mem_set ha).elim .inl (fun e => .inr (by subst e; exact fun g p he => Nat.le_trans R2.out.below.size (M3.out.own g p he).1))))
            have HI := Lib.hid (show ig N (Y.set i ⟨(Y.getD i default).ino, sx, E, en, ec, Mx⟩) = I by
              rw [← HA.out, ← HIG.out, HAP.out, HYX.out]
              show _ = match chg _ y.s y.L with | none => _ | some r => _
              rw [HYD.out.1, HYD.out.2, HC.out, HRS.out]
              have e1 := set_updk HuY.out HYX.out (y := (⟨(Y.getD i default).ino, sx, E, en, ec, Mx⟩ : Nz))
              rw [HPL.out] at e1
              rw [e1, HYI.out]
              show Ig.mk N _ = Ig.mk N _
              congr 1
              exact (updk_map (key := Nd.ino) (key' := Nz.ino) Nz.d (fun _ => rfl) Y ino ⟨ino, sx, E, en, ec, Mx⟩).symm)
            have HW4 := Lib.hid hW4
            have hYl : (Y.set i (⟨(Y.getD i default).ino, sx, E, en, ec, Mx⟩ : Nz)).length = Y.length := by simp
            clear v0 v1 r0 r1 g0 g1 hW4 n4 d0 d1 h0 h1 h2 f1 f2
            rw [HW4.out]
            have v0 := R6.out.var.c0; have v1 := R6.out.var.c1; have r0 := R6.out.res.c0; have r1 := R6.out.res.c1; have g0 := R6.out.res.f0; have g1 := R6.out.res.f1
            go_wp2
            have X := R6.out.done HI.out
            rw [hYl] at X
            exact res_ibox rfl (w.heap.size + 2) _ _ _ _ _ _ rfl X.1 rfl X.2
        · obtain ⟨w6, hw6⟩ : ∃ w6, (w5.setCell ⟨w4.heap.size, 0, none⟩ (.int .i64 sx)).setCell ⟨w4.heap.size, 1, none⟩ (.slice E en ec) = w6 := ⟨_, rfl⟩
          have D3 := Lib.hid (show Box w6 w4.heap.size sx E en ec by rw [← hw6]; exact BX.out.put _ _ _ _)
          have KB := Lib.hid (show Below w4.heap.size w4 w6 by rw [← hw6]; exact below_put K2.out _ (Nat.le_refl _) _ _)
          have M3 := Lib.hid (show Mut w4.heap.size w6 E en ec Mx by
            rw [← hw6]
            have hx : ((w4.alloc (.cells #[.int .i64 0, .slice none 0 0] 32)).drewN 1).heap.size = w4.heap.size + 1 := by simp [World.drewN]
            exact HM.out.only (only_put _ _ _ _) (fun g hg hd => by omega) (by omega))
          rw [hw6]
          clear hw6 x0 x1 xf0 xf1
          have R5 := Lib.hid (R2.out.on KB.out)
          have v0 := R5.out.var.c0; have v1 := R5.out.var.c1; have r0 := R5.out.res.c0; have r1 := R5.out.res.c1; have g0 := R5.out.res.f0; have g1 := R5.out.res.f1
          have d0 := D3.out.c0; have d1 := D3.out.c1
          have hyc := Nds.at0 R5.out.img.nodes.sl' i hiY
          obtain ⟨h0, h1, h2⟩ := hyc
          have f1 := own_free R5.out.img.nodes (i * 3 + 1); have f2 := own_free R5.out.img.nodes (i * 3 + 2)
          cases zz with
          | false =>
            have HI := Lib.hid (show ig N Y = I by
              rw [← HA.out, ← HIG.out, HAP.out, HYX.out]
              have hcn : chg ⟨kind, ino, pos, size, keep, name, to, bs⟩ x.s x.L = none := by have := HZZ.out; simpa using this
              show _ = match chg _ y.s y.L with | none => _ | some r => _
              rw [HYD.out.1, HYD.out.2, hcn])
            go_wp2
            have X := R5.out.done HI.out
            exact res_ibox rfl (w.heap.size + 2) _ _ _ _ _ _ rfl X.1 rfl X.2
          | true =>
            obtain ⟨rr, hrr⟩ : ∃ rr, chg ⟨kind, ino, pos, size, keep, name, to, bs⟩ x.s x.L = some rr := Option.isSome_iff_exists.1 HZZ.out
            have HRS := Lib.hid (show rr = (sx, Mx) by rw [HSM.out rr hrr, (HSX.out rfl).1, (HSX.out rfl).2])
            have HC := Lib.hid hrr
            clear hrr
            go_upto_region 29 with fail
            obtain ⟨W4, hW4⟩ : ∃ W4, (w6.setCell ⟨yg, i * 3 + 1, none⟩ (.int .i64 sx)).setCell ⟨yg, i * 3 + 2, none⟩ (.slice E en ec) = W4 := ⟨_, rfl⟩
            have n4 := R2.out.img.setC (s := sx) KB.out i hiY M3.out
            rw [hW4] at n4
            have R6 := Lib.hid (R2.out.row n4 (by simp) (fun a ha => (List.mem_or_eq_of_mem_set ha).elim .inl (fun e => .inr (by subst e; exact fun g p he => Nat.le_trans R2.out.below.size (M3.out.own g p he).1))))
            have HI := Lib.hid (show ig N (Y.set i ⟨(Y.getD i default).ino, sx, E, en, ec, Mx⟩) = I by
              rw [← HA.out, ← HIG.out, HAP.out, HYX.out]
              show _ = match chg _ y.s y.L with | none => _ | some r => _
              rw [HYD.out.1, HYD.out.2, HC.out, HRS.out]
              have e1 := set_updk HuY.out HYX.out (y := (⟨(Y.getD i default).ino, sx, E, en, ec, Mx⟩ : Nz))
              rw [HPL.out] at e1
              rw [e1, HYI.out]
              show Ig.mk N _ = Ig.mk N _
              congr 1
              exact (updk_map (key := Nd.ino) (key' := Nz.ino) Nz.d (fun _ => rfl) Y ino ⟨ino, sx, E, en, ec, Mx⟩).symm)
            have HW4 := Lib.hid hW4
            have hYl : (Y.set i (⟨(Y.getD i default).ino, sx, E, en, ec, Mx⟩ : Nz)).length = Y.length := by simp
            clear v0 v1 r0 r1 g0 g1 hW4 n4 d0 d1 h0 h1 h2 f1 f2
            rw [HW4.out]
            have v0 := R6.out.var.c0; have v1 := R6.out.var.c1; have r0 := R6.out.res.c0; have r1 := R6.out.res.c1; have g0 := R6.out.res.f0; have g1 := R6.out.res.f1
            go_wp2
            have X := R6.out.done HI.out
            rw [hYl] at X
            exact res_ibox rfl (w.heap.size + 2) _ _ _ _ _ _ rfl X.1 rfl X.2
end Go.Proofs.YtgaaieipeiekiaaGreat
