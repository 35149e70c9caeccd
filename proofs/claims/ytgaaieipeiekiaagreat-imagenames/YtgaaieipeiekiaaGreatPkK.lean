/- A change as an argument; contract of image's refill. / Contract of image's refilled. / Contract of image's refilled: the walk. / Contracts of image's copied, of Clone of names. / Contract of image's renewed: an image of one's own out of any. -/
import Derived.Test.YtgaaieipeiekiaaGreatPkJ
import Derived.Test.YtgaaieipeiekiaaGreatPkD
namespace Go.Proofs.YtgaaieipeiekiaaGreat
open Go.RowKit
set_option maxRecDepth 100000

/-- A change as it is handed over. -/
def ov (o : Opv) (BA : Option Addr) (cb : Nat) : Value := .agg #[.int .i64 o.kind, .int .i64 o.ino, .int .i64 o.pos, .int .i64 o.size, .bool o.keep, .string o.name, .string o.to, .slice BA o.bs.length cb]
structure OpIn (w : World) (o : Opv) (BA : Option Addr) (cb : Nat) : Prop where
  nums : Nums .u8 w BA o.bs.length cb o.bs
  byte : ∀ x ∈ o.bs, 0 ≤ x ∧ x ≤ 255
  sn : o.name.size ≤ maxLen
  st : o.to.size ≤ maxLen
theorem OpIn.on {w w' : World} {o : Opv} {BA : Option Addr} {cb : Nat} (h : OpIn w o BA cb) (k : Below w.heap.size w w') : OpIn w' o BA cb := ⟨h.nums.on k, h.byte, h.sn, h.st⟩
def OBox (w : World) (b : Nat) (o : Opv) (BA : Option Addr) (cb : Nat) : Prop := Row w b 42 #[.int .i64 o.kind, .int .i64 o.ino, .int .i64 o.pos, .int .i64 o.size, .bool o.keep, .string o.name, .string o.to, .slice BA o.bs.length cb]
section
variable {w w' : World} {b : Nat} {o : Opv} {BA : Option Addr} {cb : Nat}
theorem OBox.on (h : OBox w b o BA cb) (k : Below w.heap.size w w') : OBox w' b o BA cb := Row.on h k
theorem OBox.lt (h : OBox w b o BA cb) : b < w.heap.size := Row.lt h
theorem OBox.c0 (h : OBox w b o BA cb) : w.cell? ⟨b, 0, none⟩ = some (.int .i64 o.kind) := by rw [Row.at h]; rfl
theorem OBox.c1 (h : OBox w b o BA cb) : w.cell? ⟨b, 1, none⟩ = some (.int .i64 o.ino) := by rw [Row.at h]; rfl
theorem OBox.c2 (h : OBox w b o BA cb) : w.cell? ⟨b, 2, none⟩ = some (.int .i64 o.pos) := by rw [Row.at h]; rfl
theorem OBox.c3 (h : OBox w b o BA cb) : w.cell? ⟨b, 3, none⟩ = some (.int .i64 o.size) := by rw [Row.at h]; rfl
theorem OBox.c4 (h : OBox w b o BA cb) : w.cell? ⟨b, 4, none⟩ = some (.bool o.keep) := by rw [Row.at h]; rfl
theorem OBox.c5 (h : OBox w b o BA cb) : w.cell? ⟨b, 5, none⟩ = some (.string o.name) := by rw [Row.at h]; rfl
theorem OBox.c6 (h : OBox w b o BA cb) : w.cell? ⟨b, 6, none⟩ = some (.string o.to) := by rw [Row.at h]; rfl
theorem OBox.c7 (h : OBox w b o BA cb) : w.cell? ⟨b, 7, none⟩ = some (.slice BA o.bs.length cb) := by rw [Row.at h]; rfl
theorem obox_new (w : World) (o : Opv) (BA : Option Addr) (cb : Nat) : OBox (w.alloc (.cells #[.int .i64 o.kind, .int .i64 o.ino, .int .i64 o.pos, .int .i64 o.size, .bool o.keep, .string o.name, .string o.to, .slice BA o.bs.length cb] 42)) w.heap.size o BA cb := Row.new w 42 _
end
/-- The variables of a content, a change, a result. -/
structure Tri (w W : World) (s : Int) (A : Option Addr) (n c : Nat) (o : Opv) (BA : Option Addr) (cb : Nat) : Prop where
  b0 : Box W w.heap.size s A n c
  bo : OBox W (w.heap.size + 1) o BA cb
  b1 : Box W (w.heap.size + 2) 0 none 0 0
  below : Below w.heap.size w W
  size : w.heap.size + 3 ≤ W.heap.size
def tri (w : World) (s : Int) (A : Option Addr) (n c : Nat) (o : Opv) (BA : Option Addr) (cb : Nat) : World :=
  ((w.alloc (.cells #[.int .i64 s, .slice A n c] 32)).alloc (.cells #[.int .i64 o.kind, .int .i64 o.ino, .int .i64 o.pos, .int .i64 o.size, .bool o.keep, .string o.name, .string o.to, .slice BA o.bs.length cb] 42)).alloc (.cells #[.int .i64 0, .slice none 0 0] 32)
theorem tri_new (w : World) (s : Int) (A : Option Addr) (n c : Nat) (o : Opv) (BA : Option Addr) (cb : Nat) : Tri w (tri w s A n c o BA cb) s A n c o BA cb := by
  unfold tri
  refine ⟨(box_new w s A n c).on (((Below.refl _ _).alloc (Nat.le_refl _) _).alloc (by simp) _), ?_, ?_, (((Below.refl _ _).alloc (Nat.le_refl _) _).alloc (by simp) _).alloc (by simp; omega) _, by simp⟩
  · have := (obox_new (w.alloc (.cells #[.int .i64 s, .slice A n c] 32)) o BA cb).on ((Below.refl _ _).alloc (Nat.le_refl _) (.cells #[.int .i64 0, .slice none 0 0] 32))
    simpa using this
  · have := box_new ((w.alloc (.cells #[.int .i64 s, .slice A n c] 32)).alloc (.cells #[.int .i64 o.kind, .int .i64 o.ino, .int .i64 o.pos, .int .i64 o.size, .bool o.keep, .string o.name, .string o.to, .slice BA o.bs.length cb] 42)) 0 none 0 0
    simpa using this
theorem Tri.on {w W W' : World} {s : Int} {A : Option Addr} {n c : Nat} {o : Opv} {BA : Option Addr} {cb : Nat} (h : Tri w W s A n c o BA cb) (k : Below W.heap.size W W') : Tri w W' s A n c o BA cb :=
  ⟨h.b0.on k, h.bo.on k, h.b1.on k, h.below.trans (k.mono h.below.size), Nat.le_trans h.size k.size⟩
theorem Tri.done {w W : World} {s : Int} {A : Option Addr} {n c : Nat} {o : Opv} {BA : Option Addr} {cb : Nat} (h : Tri w W s A n c o BA cb) (s' : Int) {A' : Option Addr} {n' c' : Nat} {L : List Ex} {B : Nat} (hm : Mut B W A' n' c' L) (hB : w.heap.size + 3 ≤ B) :
    Box ((W.setCell ⟨w.heap.size + 2, 0, none⟩ (.int .i64 s')).setCell ⟨w.heap.size + 2, 1, none⟩ (.slice A' n' c')) (w.heap.size + 2) s' A' n' c' ∧ Mut w.heap.size ((W.setCell ⟨w.heap.size + 2, 0, none⟩ (.int .i64 s')).setCell ⟨w.heap.size + 2, 1, none⟩ (.slice A' n' c')) A' n' c' L ∧ Below w.heap.size w ((W.setCell ⟨w.heap.size + 2, 0, none⟩ (.int .i64 s')).setCell ⟨w.heap.size + 2, 1, none⟩ (.slice A' n' c')) :=
  ⟨h.b1.put _ _ _ _, hm.only (B' := w.heap.size) (only_put _ _ _ _) (fun g hg hd => by omega) (by omega), below_put h.below _ (by omega) _ _⟩

def RefillPost (z : Bool) (s' : Int) (M : List Ex) (w : World) (e : Ending) (w' : World) : Prop := ∃ sx A' n' c' Mx, e = .returned (.tuple #[ct sx A' n' c', .bool z]) ∧ (z = true → sx = s' ∧ Mx = M) ∧ Mut w.heap.size w' A' n' c' Mx ∧ Below w.heap.size w w'

set_option maxHeartbeats 8000000 in
theorem refill_any (s : Int) (A : Option Addr) (n c : Nat) (L : List Ex) (o : Opv) (BA : Option Addr) (cb : Nat) (w : World) (h : Exts w A n c L) (hn : n ≤ 10000) (ho : OpIn w o BA cb) (hk : o.kind = 2 ∨ o.kind = 3 ∨ o.kind = 4 ∨ o.kind = 5) (z : Bool) (s' : Int) (M : List Ex) (h1 : (chg o s L).isSome = z) (h2 : ∀ r, chg o s L = some r → r = (s', M)) :
    Calls Tryz.prog 89 #[ct s A n c, ov o BA cb] w (RefillPost z s' M w) := by
  obtain ⟨W, hW⟩ : ∃ W, tri w s A n c o BA cb = W := ⟨_, rfl⟩
  have T0 := Lib.hid (show Tri w W s A n c o BA cb by rw [← hW]; exact tri_new _ _ _ _ _ _ _ _)
  have HW := Lib.hid hW
  have H := Lib.hid (h.on T0.out.below); have HO := Lib.hid (ho.on T0.out.below); have H1 := Lib.hid h1; have H2 := Lib.hid h2
  clear h ho h1 h2 hW
  obtain ⟨kind, ino, pos, size, keep, name, to, bs⟩ := o
  have HN := Lib.hid HO.out.nums; have HB := Lib.hid HO.out.byte
  show Calls Tryz.prog 89 #[.agg #[.int .i64 s, .slice A n c], .agg #[.int .i64 kind, .int .i64 ino, .int .i64 pos, .int .i64 size, .bool keep, .string name, .string to, .slice BA bs.length cb]] w _
  have HW2 := Lib.hid (show ((w.alloc (.cells #[.int .i64 s, .slice A n c] 32)).alloc (.cells #[.int .i64 kind, .int .i64 ino, .int .i64 pos, .int .i64 size, .bool keep, .string name, .string to, .slice BA bs.length cb] 42)).alloc (.cells #[.int .i64 0, .slice none 0 0] 32) = W from HW.out)
  clear HW HO
  go_enter Tryz.func89, Tryz.ntmps89
  go_upto_region 1 with fail
  rw [HW2.out]
  have o0 := T0.out.bo.c0; have o2 := T0.out.bo.c2; have o3 := T0.out.bo.c3; have o4 := T0.out.bo.c4; have o7 := T0.out.bo.c7
  have c0 := T0.out.b0.c0; have c1 := T0.out.b0.c1
  simp only at o0 o2 o3 o4 o7
  rcases hk with hk | hk | hk | hk <;> (simp only at hk; subst hk)
  · have HC := Lib.hid (show chg ⟨2, ino, pos, size, keep, name, to, bs⟩ s L = if ((eo pos (bs.length : Int)).isSome && decide (bs.length ≤ 4096) && may s L) = true then some (wsz s pos bs.length, wrl L pos bs) else none from rfl)
    have HG := Lib.hid (show ((eo pos (bs.length : Int)).isSome && decide (bs.length ≤ 4096) && may s L) = z by rw [← H1.out, HC.out]; cases ((eo pos (bs.length : Int)).isSome && decide (bs.length ≤ 4096) && may s L) <;> rfl)
    go_wp2_with fail
    refine (write_any s A n c L pos BA bs.length cb bs _ H.out hn HN.out HB.out z HG.out).mono ?_
    rintro e w1 ⟨A', n', c', M', he, hM, hm, k1⟩
    have T1 := Lib.hid (T0.out.on k1)
    have HX := Lib.hid (show z = true → (if z = true then wsz s pos bs.length else 0) = s' ∧ M' = M from fun hz => by
      have hc := HC.out
      rw [HG.out, hz] at hc
      have hr := H2.out _ hc
      injection hr with e1 e2
      rw [if_pos hz]
      refine ⟨e1, ?_⟩
      rw [← e2]
      rw [hz] at hM
      have gm : may s L = true := by have := HG.out; rw [hz] at this; simp only [Bool.and_eq_true] at this; exact this.2
      exact wr_is gm (by simpa using hM))
    obtain ⟨sx, hsx⟩ : ∃ x, (if z = true then wsz s pos bs.length else 0) = x := ⟨_, rfl⟩
    rw [hsx] at he
    obtain rfl : e = .returned (.tuple #[.agg #[.int .i64 sx, .slice A' n' c'], .bool z]) := he
    have HX2 := Lib.hid (hsx ▸ HX.out)
    have HM := Lib.hid hm
    clear k1 hM hm HX hsx o0 o2 o3 o4 o7 c0 c1
    have d0 := T1.out.b1.c0; have d1 := T1.out.b1.c1; have f0 := T1.out.b1.f0; have f1 := T1.out.b1.f1
    go_wp2
    have X := T1.out.done sx HM.out T0.out.size
    refine res_box2 rfl (w.heap.size + 2) sx A' n' c' rfl X.1 rfl ?_
    exact ⟨sx, A', n', c', M', rfl, HX2.out, X.2.1, X.2.2⟩
  · have HC := Lib.hid (show chg ⟨3, ino, pos, size, keep, name, to, bs⟩ s L = if (decide (0 ≤ size) && decide (size ≤ 1099511627776) && may s L) = true then some (size, wo L size 1099511627776) else none from rfl)
    have HG := Lib.hid (show (decide (0 ≤ size) && decide (size ≤ 1099511627776) && may s L) = z by rw [← H1.out, HC.out]; cases (decide (0 ≤ size) && decide (size ≤ 1099511627776) && may s L) <;> rfl)
    go_wp2_with fail
    refine (trunc_any s A n c L size _ H.out (by omega) z HG.out).mono ?_
    rintro e w1 ⟨A', n', c', M', he, hM, hm, k1⟩
    have T1 := Lib.hid (T0.out.on k1)
    have HX := Lib.hid (show z = true → (if z = true then size else 0) = s' ∧ M' = M from fun hz => by
      have hc := HC.out
      rw [HG.out, hz] at hc
      have hr := H2.out _ hc
      injection hr with e1 e2
      rw [if_pos hz]
      refine ⟨e1, ?_⟩
      rw [← e2]
      rw [hz] at hM
      skip
      simpa using hM)
    obtain ⟨sx, hsx⟩ : ∃ x, (if z = true then size else 0) = x := ⟨_, rfl⟩
    rw [hsx] at he
    obtain rfl : e = .returned (.tuple #[.agg #[.int .i64 sx, .slice A' n' c'], .bool z]) := he
    have HX2 := Lib.hid (hsx ▸ HX.out)
    have HM := Lib.hid hm
    clear k1 hM hm HX hsx o0 o2 o3 o4 o7 c0 c1
    have d0 := T1.out.b1.c0; have d1 := T1.out.b1.c1; have f0 := T1.out.b1.f0; have f1 := T1.out.b1.f1
    go_wp2
    have X := T1.out.done sx HM.out T0.out.size
    refine res_box2 rfl (w.heap.size + 2) sx A' n' c' rfl X.1 rfl ?_
    exact ⟨sx, A', n', c', M', rfl, HX2.out, X.2.1, X.2.2⟩
  · have HC := Lib.hid (show chg ⟨4, ino, pos, size, keep, name, to, bs⟩ s L = if ((eo pos size).isSome && decide (1 ≤ size) && decide (size ≤ 32768) && may s L) = true then some (asz s pos size keep, alo L pos size) else none from rfl)
    have HG := Lib.hid (show ((eo pos size).isSome && decide (1 ≤ size) && decide (size ≤ 32768) && may s L) = z by rw [← H1.out, HC.out]; cases ((eo pos size).isSome && decide (1 ≤ size) && decide (size ≤ 32768) && may s L) <;> rfl)
    go_wp2_with fail
    refine (alloc_any s A n c L pos size keep _ H.out hn z HG.out).mono ?_
    rintro e w1 ⟨A', n', c', M', he, hM, hm, k1⟩
    have T1 := Lib.hid (T0.out.on k1)
    have HX := Lib.hid (show z = true → (if z = true then asz s pos size keep else 0) = s' ∧ M' = M from fun hz => by
      have hc := HC.out
      rw [HG.out, hz] at hc
      have hr := H2.out _ hc
      injection hr with e1 e2
      rw [if_pos hz]
      refine ⟨e1, ?_⟩
      rw [← e2]
      rw [hz] at hM
      skip
      simpa using hM)
    obtain ⟨sx, hsx⟩ : ∃ x, (if z = true then asz s pos size keep else 0) = x := ⟨_, rfl⟩
    rw [hsx] at he
    obtain rfl : e = .returned (.tuple #[.agg #[.int .i64 sx, .slice A' n' c'], .bool z]) := he
    have HX2 := Lib.hid (hsx ▸ HX.out)
    have HM := Lib.hid hm
    clear k1 hM hm HX hsx o0 o2 o3 o4 o7 c0 c1
    have d0 := T1.out.b1.c0; have d1 := T1.out.b1.c1; have f0 := T1.out.b1.f0; have f1 := T1.out.b1.f1
    go_wp2
    have X := T1.out.done sx HM.out T0.out.size
    refine res_box2 rfl (w.heap.size + 2) sx A' n' c' rfl X.1 rfl ?_
    exact ⟨sx, A', n', c', M', rfl, HX2.out, X.2.1, X.2.2⟩
  · have HC := Lib.hid (show chg ⟨5, ino, pos, size, keep, name, to, bs⟩ s L = if ((eo pos size).isSome && decide (1 ≤ size) && may s L) = true then some (s, wo L pos (pos + size)) else none from rfl)
    have HG := Lib.hid (show ((eo pos size).isSome && decide (1 ≤ size) && may s L) = z by rw [← H1.out, HC.out]; cases ((eo pos size).isSome && decide (1 ≤ size) && may s L) <;> rfl)
    go_wp2_with fail
    refine (punch_any s A n c L pos size _ H.out (by omega) z HG.out).mono ?_
    rintro e w1 ⟨A', n', c', M', he, hM, hm, k1⟩
    have T1 := Lib.hid (T0.out.on k1)
    have HX := Lib.hid (show z = true → (if z = true then s else 0) = s' ∧ M' = M from fun hz => by
      have hc := HC.out
      rw [HG.out, hz] at hc
      have hr := H2.out _ hc
      injection hr with e1 e2
      rw [if_pos hz]
      refine ⟨e1, ?_⟩
      rw [← e2]
      rw [hz] at hM
      skip
      simpa using hM)
    obtain ⟨sx, hsx⟩ : ∃ x, (if z = true then s else 0) = x := ⟨_, rfl⟩
    rw [hsx] at he
    obtain rfl : e = .returned (.tuple #[.agg #[.int .i64 sx, .slice A' n' c'], .bool z]) := he
    have HX2 := Lib.hid (hsx ▸ HX.out)
    have HM := Lib.hid hm
    clear k1 hM hm HX hsx o0 o2 o3 o4 o7 c0 c1
    have d0 := T1.out.b1.c0; have d1 := T1.out.b1.c1; have f0 := T1.out.b1.f0; have f1 := T1.out.b1.f1
    go_wp2
    have X := T1.out.done sx HM.out T0.out.size
    refine res_box2 rfl (w.heap.size + 2) sx A' n' c' rfl X.1 rfl ?_
    exact ⟨sx, A', n', c', M', rfl, HX2.out, X.2.1, X.2.2⟩
end Go.Proofs.YtgaaieipeiekiaaGreat

namespace Go.Proofs.YtgaaieipeiekiaaGreat
open Go.RowKit
set_option maxRecDepth 100000

theorem updk_map {α β K : Type} [DecidableEq K] {key : α → K} {key' : β → K} (f : β → α) (hf : ∀ z, key (f z) = key' z) (L : List β) (k : K) (y : β) : updk key (L.map f) k (f y) = (updk key' L k y).map f := by
  unfold updk
  rw [List.map_map, List.map_map]
  refine List.map_congr_left fun x _ => ?_
  show (if key (f x) = k then f y else f x) = f (if key' x = k then y else x)
  rw [hf]; split <;> rfl
/-- An image and a change in a function's variables. -/
structure Vo (B : Nat) (w wr : World) (A : Option Addr) (c : Nat) (A' : Option Addr) (c' : Nat) (N : List Nm) (Z : List Nz) (o : Opv) (BA : Option Addr) (cb : Nat) : Prop where
  old : Img B w A c A' c' N Z
  img : Img B wr A c A' c' N Z
  box : IBox wr w.heap.size A N.length c A' Z.length c'
  bo : OBox wr (w.heap.size + 1) o BA cb
  res : IBox wr (w.heap.size + 2) none 0 0 none 0 0
  op : OpIn wr o BA cb
  below : Below w.heap.size w wr
  size : w.heap.size + 3 ≤ wr.heap.size
def vo (w : World) (A : Option Addr) (n c : Nat) (A' : Option Addr) (n' c' : Nat) (o : Opv) (BA : Option Addr) (cb : Nat) : World :=
  ((w.alloc (.cells #[.slice A n c, .slice A' n' c'] 25)).alloc (.cells #[.int .i64 o.kind, .int .i64 o.ino, .int .i64 o.pos, .int .i64 o.size, .bool o.keep, .string o.name, .string o.to, .slice BA o.bs.length cb] 42)).alloc (.cells #[.slice none 0 0, .slice none 0 0] 25)
section
variable {B : Nat} {w wr w' : World} {A : Option Addr} {c : Nat} {A' : Option Addr} {c' : Nat} {N : List Nm} {Z : List Nz} {o : Opv} {BA : Option Addr} {cb : Nat}
theorem vo_new (h : Img B w A c A' c' N Z) (ho : OpIn w o BA cb) : Vo B w (vo w A N.length c A' Z.length c' o BA cb) A c A' c' N Z o BA cb := by
  have hb : Below w.heap.size w (vo w A N.length c A' Z.length c' o BA cb) := (((Below.refl _ _).alloc (Nat.le_refl _) _).alloc (by simp) _).alloc (by simp; omega) _
  refine ⟨h, h.on hb, ?_, ?_, ?_, ho.on hb, hb, by simp [vo]⟩
  · unfold vo
    exact (ibox_new w _ _ _ _ _ _).on (((Below.refl _ _).alloc (Nat.le_refl _) _).alloc (by simp) _)
  · unfold vo
    have := (obox_new (w.alloc (.cells #[.slice A N.length c, .slice A' Z.length c'] 25)) o BA cb).on ((Below.refl _ _).alloc (Nat.le_refl _) (.cells #[.slice none 0 0, .slice none 0 0] 25))
    simpa using this
  · unfold vo
    have := ibox_new ((w.alloc (.cells #[.slice A N.length c, .slice A' Z.length c'] 25)).alloc (.cells #[.int .i64 o.kind, .int .i64 o.ino, .int .i64 o.pos, .int .i64 o.size, .bool o.keep, .string o.name, .string o.to, .slice BA o.bs.length cb] 42)) none 0 0 none 0 0
    simpa using this
theorem Vo.on (h : Vo B w wr A c A' c' N Z o BA cb) (k : Below wr.heap.size wr w') : Vo B w w' A c A' c' N Z o BA cb :=
  ⟨h.old, h.img.on k, h.box.on k, h.bo.on k, h.res.on k, h.op.on k, h.below.trans (k.mono h.below.size), Nat.le_trans h.size k.size⟩
/-- An image that is Next from here is answered, stored in the result's variable. -/
theorem next_done {w3 : World} {D : Option Addr} {d : Nat} {D' : Option Addr} {d' : Nat} {M : List Nm} {Y : List Nz} (n : Next B w w3 A A' D d D' d' M Y) (hr : IBox w3 (w.heap.size + 2) none 0 0 none 0 0) (h1 : ∀ g, S2 D D' g → g ≠ w.heap.size + 2) (h2 : ∀ z ∈ Y, 0 < z.n → ∀ g p, z.A = some ⟨g, p, none⟩ → g ≠ w.heap.size + 2) :
    IBox ((w3.setCell ⟨w.heap.size + 2, 0, none⟩ (.slice D M.length d)).setCell ⟨w.heap.size + 2, 1, none⟩ (.slice D' Y.length d')) (w.heap.size + 2) D M.length d D' Y.length d' ∧
    ImgPost B A A' M Y w (.returned (iv D M.length d D' Y.length d')) ((w3.setCell ⟨w.heap.size + 2, 0, none⟩ (.slice D M.length d)).setCell ⟨w.heap.size + 2, 1, none⟩ (.slice D' Y.length d')) := by
  have ob := only_set2 w3 (w.heap.size + 2) (.slice D M.length d) (.slice D' Y.length d')
  exact ⟨hr.put _ _ _ _ _ _, D, d, D', d', rfl, ⟨n.img.keep ob (fun g hg he => h1 g hg he) (fun z hz hn g p he h3 => h2 z hz hn g p he h3), n.only.trans ob (fun d hd hl => by omega), n.src⟩⟩
/-- Nothing was done. -/
theorem Vo.same (h : Vo B w wr A c A' c' N Z o BA cb) :
    IBox ((wr.setCell ⟨w.heap.size + 2, 0, none⟩ (.slice A N.length c)).setCell ⟨w.heap.size + 2, 1, none⟩ (.slice A' Z.length c')) (w.heap.size + 2) A N.length c A' Z.length c' ∧
    ImgPost B A A' N Z w (.returned (iv A N.length c A' Z.length c')) ((wr.setCell ⟨w.heap.size + 2, 0, none⟩ (.slice A N.length c)).setCell ⟨w.heap.size + 2, 1, none⟩ (.slice A' Z.length c')) := by
  refine next_done (Next.self h.old h.below) h.res (fun g hg he => ?_) (fun z hz hn g p he h3 => ?_)
  · have := (h.old.lt hg).2; omega
  · have := h.old.exts z hz; rw [he] at this; have := this.lt hn; omega
end
/-- A file's content is stored in its row. -/
theorem Img.setC {B : Nat} {w w3 : World} {A : Option Addr} {c : Nat} {g c' : Nat} {N : List Nm} {Z : List Nz} (h : Img B w A c (some ⟨g, 0, none⟩) c' N Z) (k : Below w.heap.size w w3) (j : Nat) (hj : j < Z.length) {s : Int} {E : Option Addr} {n e : Nat} {L : List Ex} (hm : Mut w.heap.size w3 E n e L) :
    Next B w ((w3.setCell ⟨g, j * 3 + 1, none⟩ (.int .i64 s)).setCell ⟨g, j * 3 + 2, none⟩ (.slice E n e)) A (some ⟨g, 0, none⟩) A c (some ⟨g, 0, none⟩) c' N (Z.set j ⟨(Z.getD j default).ino, s, E, n, e, L⟩) := by
  have hg := h.lt (d := g) (.inr rfl)
  have o0 : Only (fun d => d = g) w3 ((w3.setCell ⟨g, j * 3 + 1, none⟩ (.int .i64 s)).setCell ⟨g, j * 3 + 2, none⟩ (.slice E n e)) :=
    ((Only.refl (fun d => d = g) w3).setCell ⟨g, j * 3 + 1, none⟩ (fun _ => rfl) _).setCell ⟨g, j * 3 + 2, none⟩ (fun _ => rfl) _
  have ob : Only (fun d => d = g) w ((w3.setCell ⟨g, j * 3 + 1, none⟩ (.int .i64 s)).setCell ⟨g, j * 3 + 2, none⟩ (.slice E n e)) :=
    (Only.of_below (S := fun d => d = g) k).trans o0 (fun d hd _ => hd)
  obtain ⟨_, ⟨h0, _⟩ | ⟨g', cur, he, hBg, hrow, hle, hmx, hsz, htk⟩⟩ := (h.nodes.on k).open
  · cases h0
  injection he with he; injection he with he; subst he
  have hk : elZ.k = 3 := rfl
  rw [hk] at hsz htk
  refine ⟨⟨h.names.only ob (fun g' hg' hd => by subst hd; exact h.two hg' rfl), ?_, fun z hz => ?_, fun z hz hn g' p he hS => ?_, h.str⟩, ob.mono (fun d hd => .inr (by rw [hd])), fun d hd => .inl hd⟩
  · have hrow2 := Row.setv (Row.setv hrow (j * 3 + 1) (.int .i64 s)) (j * 3 + 2) (.slice E n e)
    have hlen : (Z.set j ⟨(Z.getD j default).ino, s, E, n, e, L⟩).length = Z.length := by simp
    have := OwnS.mk' (E := elZ) (L := Z.set j ⟨(Z.getD j default).ino, s, E, n, e, L⟩) hBg hrow2 (by rw [hlen]; exact hle) hmx (by rw [hk]; simpa using hsz) ?_
    · rwa [hlen] at this ⊢
    · rw [hlen, hk]
      have hcl : cur.toList.length = c' * 3 := by simpa using hsz
      have hz3 : Z.length * 3 ≤ c' * 3 := Nat.mul_le_mul_right _ hle
      have hj3 : (j + 1) * 3 ≤ Z.length * 3 := Nat.mul_le_mul_right _ hj
      refine List.ext_getElem? fun i => ?_
      by_cases hi : i < Z.length * 3
      · rw [List.getElem?_take_of_lt hi]
        have hdm : i / 3 * 3 + i % 3 = i := by omega
        have hq := elZ.cells_at (Z.set j ⟨(Z.getD j default).ino, s, E, n, e, L⟩) (i / 3) (by rw [hlen]; omega) (i % 3) (by rw [hk]; omega)
        rw [hk, hdm] at hq
        rw [hq]
        have hq0 := elZ.cells_at Z (i / 3) (by omega) (i % 3) (by rw [hk]; omega)
        rw [hk, hdm, ← htk, List.getElem?_take_of_lt hi] at hq0
        by_cases hij : i / 3 = j
        · rw [hij] at hq0 ⊢
          have hgd : (Z.set j (⟨(Z.getD j default).ino, s, E, n, e, L⟩ : Nz)).getD j default = ⟨(Z.getD j default).ino, s, E, n, e, L⟩ := by
            rw [List.getD_eq_getElem?_getD, List.getElem?_set_self hj]; rfl
          rw [hgd]
          have h3 : i % 3 = 0 ∨ i % 3 = 1 ∨ i % 3 = 2 := by omega
          simp only [Array.toList_setIfInBounds]
          rcases h3 with h3 | h3 | h3
          · have e1 : i ≠ j * 3 + 2 := by omega
            have e2 : i ≠ j * 3 + 1 := by omega
            rw [List.getElem?_set_ne (Ne.symm e1), List.getElem?_set_ne (Ne.symm e2), hq0, h3]; rfl
          · have e1 : i ≠ j * 3 + 2 := by omega
            have e2 : i = j * 3 + 1 := by omega
            rw [List.getElem?_set_ne (Ne.symm e1), e2, List.getElem?_set_self (by omega), show (j * 3 + 1) % 3 = 1 by omega]; rfl
          · have e2 : i = j * 3 + 2 := by omega
            rw [e2, List.getElem?_set_self (by simp; omega), show (j * 3 + 2) % 3 = 2 by omega]; rfl
        · have e1 : i ≠ j * 3 + 2 := by omega
          have e2 : i ≠ j * 3 + 1 := by omega
          simp only [Array.toList_setIfInBounds]
          rw [List.getElem?_set_ne (Ne.symm e1), List.getElem?_set_ne (Ne.symm e2), hq0]
          rw [List.getD_eq_getElem?_getD, List.getD_eq_getElem?_getD, List.getElem?_set_ne (Ne.symm hij)]
      · rw [List.getElem?_eq_none (by rw [List.length_take]; omega), List.getElem?_eq_none (by rw [El.cells_len, hlen, hk]; omega)]
  · rcases List.mem_or_eq_of_mem_set hz with hz | rfl
    · exact (h.exts z hz).only ob (fun g' p he hn hd => h.apart z hz hn g' p he (.inr (by rw [hd])))
    · exact hm.exts.only o0 (fun g' p he hn hd => by have := (hm.own g' p he).1; omega)
  · rcases List.mem_or_eq_of_mem_set hz with hz | rfl
    · exact h.apart z hz hn g' p he hS
    · have := (hm.own g' p he).1; have := (h.lt hS).2; omega
end Go.Proofs.YtgaaieipeiekiaaGreat

namespace Go.Proofs.YtgaaieipeiekiaaGreat
open Go.RowKit
set_option maxRecDepth 100000

theorem apply_fill {N : List Nm} {Z : List Nz} {o : Opv} (hk : o.kind = 2 ∨ o.kind = 3 ∨ o.kind = 4 ∨ o.kind = 5) : applyS (ig N Z) o = (match fnd Nz.ino Z o.ino with
    | none => ig N Z
    | some x => match chg o x.s x.L with
      | none => ig N Z
      | some r => ⟨N, updk Nd.ino (Z.map Nz.d) o.ino ⟨o.ino, r.1, r.2⟩⟩) := by
  unfold applyS
  rw [if_neg (by omega), if_neg (by omega), if_neg (by omega)]
  show (match fnd Nd.ino (Z.map Nz.d) o.ino with | none => _ | some d => _) = _
  rw [fnd_map (key' := Nz.ino) Nz.d (fun _ => rfl)]
  cases fnd Nz.ino Z o.ino <;> rfl

def RCells (b g j n c' : Nat) (x : Nz) (o : Opv) (BA : Option Addr) (cb : Nat) (w' : World) : Prop := w'.cell? ⟨b, 1, none⟩ = some (.slice (some ⟨g, 0, none⟩) n c') ∧ w'.cell? ⟨g, j * 3 + 1, none⟩ = some (.int .i64 x.s) ∧ w'.cell? ⟨g, j * 3 + 2, none⟩ = some (.slice x.A x.n x.c) ∧ w'.cell? ⟨b + 1, 0, none⟩ = some (.int .i64 o.kind) ∧ w'.cell? ⟨b + 1, 1, none⟩ = some (.int .i64 o.ino) ∧ w'.cell? ⟨b + 1, 2, none⟩ = some (.int .i64 o.pos) ∧ w'.cell? ⟨b + 1, 3, none⟩ = some (.int .i64 o.size) ∧ w'.cell? ⟨b + 1, 4, none⟩ = some (.bool o.keep) ∧ w'.cell? ⟨b + 1, 5, none⟩ = some (.string o.name) ∧ w'.cell? ⟨b + 1, 6, none⟩ = some (.string o.to) ∧ w'.cell? ⟨b + 1, 7, none⟩ = some (.slice BA o.bs.length cb)
theorem Vo.cells {B : Nat} {w w' : World} {A : Option Addr} {c g c' : Nat} {N : List Nm} {Z : List Nz} {o : Opv} {BA : Option Addr} {cb : Nat} (h : Vo B w w' A c (some ⟨g, 0, none⟩) c' N Z o BA cb) {j : Nat} {x : Nz} (hj : j < Z.length) (hx : Z.getD j default = x) : RCells w.heap.size g j Z.length c' x o BA cb w' := by
  have hcx := (Nds.at0 h.img.im.nodes j hj).2
  rw [hx] at hcx
  exact ⟨h.box.c1, hcx.1, hcx.2, h.bo.c0, h.bo.c1, h.bo.c2, h.bo.c3, h.bo.c4, h.bo.c5, h.bo.c6, h.bo.c7⟩

set_option maxHeartbeats 8000000 in
theorem refilled_any (B : Nat) (A : Option Addr) (c : Nat) (A' : Option Addr) (c' : Nat) (N : List Nm) (Z : List Nz) (o : Opv) (BA : Option Addr) (cb : Nat) (w : World) (h : Img B w A c A' c' N Z) (hu : Rise ordI Nz.ino Z) (hk : Z.length ≤ 1000) (hl : ∀ z ∈ Z, z.n ≤ 10000) (ho : OpIn w o BA cb) (hkd : o.kind = 2 ∨ o.kind = 3 ∨ o.kind = 4 ∨ o.kind = 5) :
    Calls Tryz.prog 76 #[iv A N.length c A' Z.length c', ov o BA cb] w (fun e w' => ∃ Y, ig N Y = applyS (ig N Z) o ∧ ImgPost B A A' N Y w e w') := by
  obtain ⟨W, hW⟩ : ∃ W, vo w A N.length c A' Z.length c' o BA cb = W := ⟨_, rfl⟩
  have HW := Lib.hid (show ((w.alloc (.cells #[.slice A N.length c, .slice A' Z.length c'] 25)).alloc (.cells #[.int .i64 o.kind, .int .i64 o.ino, .int .i64 o.pos, .int .i64 o.size, .bool o.keep, .string o.name, .string o.to, .slice BA o.bs.length cb] 42)).alloc (.cells #[.slice none 0 0, .slice none 0 0] 25) = W from hW)
  have V0 := Lib.hid (show Vo B w W A c A' c' N Z o BA cb by rw [← hW]; exact vo_new h ho)
  obtain ⟨j, hj⟩ : ∃ i, pl ordI Nz.ino Z o.ino = i := ⟨_, rfl⟩
  obtain ⟨y, hy⟩ : ∃ z, (fnd Nz.ino Z o.ino).isSome = z := ⟨_, rfl⟩
  have HJ := Lib.hid hj; have HY := Lib.hid hy; have HU := Lib.hid hu; have HL := Lib.hid hl
  have HA := Lib.hid (apply_fill (N := N) (Z := Z) hkd)
  clear h hW hj hy hu hl ho
  show Calls Tryz.prog 76 #[.agg #[.slice A N.length c, .slice A' Z.length c'], .agg #[.int .i64 o.kind, .int .i64 o.ino, .int .i64 o.pos, .int .i64 o.size, .bool o.keep, .string o.name, .string o.to, .slice BA o.bs.length cb]] w _
  go_enter Tryz.func76, Tryz.ntmps76
  go_upto_region 1 with fail
  rw [HW.out]
  have b0 := V0.out.box.c0; have b1 := V0.out.box.c1; have o1 := V0.out.bo.c1
  go_wp2_with fail
  refine (numbered_any A' Z.length c' Z o.ino W V0.out.img.im.nodes HU.out (by omega) j y HJ.out HY.out).mono ?_
  rintro e w1 ⟨rfl, k1⟩
  have V1 := Lib.hid (V0.out.on k1)
  clear k1 V0 b0 b1 o1
  have b0 := V1.out.box.c0; have b1 := V1.out.box.c1; have r0 := V1.out.res.c0; have r1 := V1.out.res.c1; have g0 := V1.out.res.f0; have g1 := V1.out.res.f1
  cases y with
  | false =>
    have HF := Lib.hid (show fnd Nz.ino Z o.ino = none by have := HY.out; simpa using this)
    go_wp2
    have X := V1.out.same
    refine res_ibox rfl (w.heap.size + 2) _ _ _ _ _ _ rfl X.1 rfl ⟨Z, ?_, X.2⟩
    rw [HA.out, HF.out]
  | true =>
    obtain ⟨x, hx⟩ : ∃ x, fnd Nz.ino Z o.ino = some x := Option.isSome_iff_exists.1 HY.out
    obtain ⟨hjl, hjx⟩ := fnd_at HU.out hx
    rw [HJ.out] at hjl hjx
    obtain ⟨z, hz⟩ : ∃ z, (chg o x.s x.L).isSome = z := ⟨_, rfl⟩
    have HZ := Lib.hid hz
    have HX := Lib.hid hx
    have hxm : x ∈ Z := (fnd_mem hx).1
    have HE := Lib.hid (V1.out.img.exts x hxm)
    have hxn : x.n ≤ 10000 := HL.out x hxm
    have HJX := Lib.hid hjx
    obtain ⟨g, hg⟩ : ∃ g, A' = some ⟨g, 0, none⟩ := by
      rcases V1.out.img.nodes.addr with h0 | ⟨g, he, _⟩
      · have := V1.out.img.im.nodes.nil h0; omega
      · exact ⟨g, he⟩
    subst hg
    have hcx := (Nds.at0 V1.out.img.im.nodes j hjl).2
    rw [hjx] at hcx
    obtain ⟨h1, h2⟩ := hcx
    have hjl' : (j : Int) < (Z.length : Int) := by omega
    have S1 := V1.out.cells hjl hjx
    have HP1 := Lib.hid (show Below w1.heap.size w1 (w1.drewN 1) from below_drewN (Below.refl _ _) 1)
    have HP2 := Lib.hid (show Below w1.heap.size w1 ((w1.alloc (.cells #[.int .i64 0, .slice none 0 0] 32)).drewN 1) from below_drewN ((Below.refl _ _).alloc (Nat.le_refl _) _) 1)
    have HPX := Lib.hid (show Below (w1.alloc (.cells #[.int .i64 0, .slice none 0 0] 32)).heap.size (w1.alloc (.cells #[.int .i64 0, .slice none 0 0] 32)) ((w1.alloc (.cells #[.int .i64 0, .slice none 0 0] 32)).drewN 1) from below_drewN (Below.refl _ _) 1)
    have SF := Lib.hid (fun w' (k : Below w1.heap.size w1 w') => (V1.out.on k).cells hjl HJX.out)
    obtain ⟨s', M, hsm⟩ : ∃ s' M, ∀ r, chg o x.s x.L = some r → r = (s', M) := by
      cases chg o x.s x.L with
      | none => exact ⟨0, [], fun r hr => by cases hr⟩
      | some r => exact ⟨r.1, r.2, fun r' hr => by injection hr with hr; rw [← hr]⟩
    have HSM := Lib.hid hsm
    clear hx hjx hxm hz hsm
    go_wp2
    go_region_held3 (fun w' => w'.cell? ⟨w.heap.size, 1, none⟩ = some (.slice (some ⟨g, 0, none⟩) Z.length c') ∧ w'.cell? ⟨g, j * 3 + 1, none⟩ = some (.int .i64 x.s) ∧ w'.cell? ⟨g, j * 3 + 2, none⟩ = some (.slice x.A x.n x.c) ∧ w'.cell? ⟨w.heap.size + 1, 0, none⟩ = some (.int .i64 o.kind) ∧ w'.cell? ⟨w.heap.size + 1, 1, none⟩ = some (.int .i64 o.ino) ∧ w'.cell? ⟨w.heap.size + 1, 2, none⟩ = some (.int .i64 o.pos) ∧ w'.cell? ⟨w.heap.size + 1, 3, none⟩ = some (.int .i64 o.size) ∧ w'.cell? ⟨w.heap.size + 1, 4, none⟩ = some (.bool o.keep) ∧ w'.cell? ⟨w.heap.size + 1, 5, none⟩ = some (.string o.name) ∧ w'.cell? ⟨w.heap.size + 1, 6, none⟩ = some (.string o.to) ∧ w'.cell? ⟨w.heap.size + 1, 7, none⟩ = some (.slice BA o.bs.length cb))
      (first | assumption | exact S1 | exact SF.out _ (Below.refl _ _) | exact SF.out _ HP1.out | exact SF.out _ ((Below.refl _ _).alloc (Nat.le_refl _) _) | exact SF.out _ HP2.out | exact SF.out _ (HP1.out.alloc HP1.out.size _) | exact SF.out _ K2.out | exact SF.out _ (K2.out.alloc K2.out.size _) | exact SF.out _ (below_put (K2.out.alloc K2.out.size _) _ K2.out.size _ _) | exact SF.out _ (below_put K2.out _ (Nat.le_refl _) _ _))
      (first | (go_at_call 89; refine (refill_any x.s x.A x.n x.c x.L o BA cb _ (HE.out.on HP1.out) hxn (V1.out.op.on HP1.out) hkd z s' M HZ.out HSM.out).mono ?_; rintro e w2 ⟨sx, E, en, ec, Mx, he, hsx, hm, k2⟩; obtain rfl : e = .returned (.tuple #[.agg #[.int .i64 sx, .slice E en ec], .bool z]) := he; have K2 := Lib.hid (Below.trans HP1.out (k2.mono HP1.out.size)); have HM := Lib.hid hm; have HSX := Lib.hid hsx; clear k2 hm hsx) | (go_at_call 89; refine (refill_any x.s x.A x.n x.c x.L o BA cb _ (HE.out.on HP2.out) hxn (V1.out.op.on HP2.out) hkd z s' M HZ.out HSM.out).mono ?_; rintro e w2 ⟨sx, E, en, ec, Mx, he, hsx, hm, k2⟩; obtain rfl : e = .returned (.tuple #[.agg #[.int .i64 sx, .slice E en ec], .bool z]) := he; have K2 := Lib.hid (Below.trans HP2.out (k2.mono HP2.out.size)); have HM := Lib.hid hm; have HSX := Lib.hid hsx; have BX := Lib.hid (((box_new w1 0 none 0 0).on HPX.out).on k2); have x0 := BX.out.c0; have x1 := BX.out.c1; have xf0 := BX.out.f0; have xf1 := BX.out.f1; clear k2 hm hsx))
    · obtain ⟨w3, hw3⟩ : ∃ w3, w2.alloc (.cells #[.int .i64 sx, .slice E en ec] 32) = w3 := ⟨_, rfl⟩
      have D3 := Lib.hid (show Box w3 w2.heap.size sx E en ec by rw [← hw3]; exact box_new _ _ _ _ _)
      have KB := Lib.hid (show Below w1.heap.size w1 w3 by rw [← hw3]; exact K2.out.alloc K2.out.size _)
      have M3 := Lib.hid (show Mut w1.heap.size w3 E en ec Mx by
        rw [← hw3]
        exact HM.out.on ((Below.refl _ _).alloc (Nat.le_refl _) _))
      rw [hw3]
      clear hw3
      have V3 := Lib.hid (V1.out.on KB.out)
      clear b0 b1 r0 r1 g0 g1 S1 h1 h2
      have b0 := V3.out.box.c0; have b1 := V3.out.box.c1; have r0 := V3.out.res.c0; have r1 := V3.out.res.c1; have g0 := V3.out.res.f0; have g1 := V3.out.res.f1
      have d0 := D3.out.c0; have d1 := D3.out.c1
      have hcx := (Nds.at0 V3.out.img.im.nodes j hjl).2
      rw [HJX.out] at hcx
      obtain ⟨h1, h2⟩ := hcx
      obtain ⟨_, _, he', _, hfz⟩ := V3.out.img.nodes.sl
      injection he' with he1 he2 he3
      have hfz' := (hfz g 0 he1.symm).2.2.2
      have f1 := hfz' (j * 3 + 1); have f2 := hfz' (j * 3 + 2)
      clear he1 he2 he3 hfz hfz'
      cases z with
      | false =>
        have HC := Lib.hid (show chg o x.s x.L = none by have := HZ.out; simpa using this)
        go_wp2
        have X := V3.out.same
        refine res_ibox rfl (w.heap.size + 2) _ _ _ _ _ _ rfl X.1 rfl ⟨Z, ?_, X.2⟩
        rw [HA.out, HX.out]
        show _ = match chg o x.s x.L with | none => _ | some r => _
        rw [HC.out]
      | true =>
        obtain ⟨r, hr⟩ : ∃ r, chg o x.s x.L = some r := Option.isSome_iff_exists.1 HZ.out
        have HRS := Lib.hid (show r = (sx, Mx) by rw [HSM.out r hr, (HSX.out rfl).1, (HSX.out rfl).2])
        have HC := Lib.hid hr
        clear hr
        go_upto_region 7 with fail
        obtain ⟨W4, hW4⟩ : ∃ W4, (w3.setCell ⟨g, j * 3 + 1, none⟩ (.int .i64 sx)).setCell ⟨g, j * 3 + 2, none⟩ (.slice E en ec) = W4 := ⟨_, rfl⟩
        have n4 := V1.out.img.setC (s := sx) KB.out j hjl M3.out
        rw [hW4, HJX.out] at n4
        have hgn : g < w.heap.size := (V1.out.old.lt (d := g) (.inr rfl)).2
        have og : Only (fun d => d = g) w3 W4 := by rw [← hW4]; exact ((Only.refl (fun d => d = g) w3).setCell ⟨g, j * 3 + 1, none⟩ (fun _ => rfl) _).setCell ⟨g, j * 3 + 2, none⟩ (fun _ => rfl) _
        have B4 : IBox W4 w.heap.size A N.length c (some ⟨g, 0, none⟩) Z.length c' := Row.only V3.out.box og (by omega)
        have R4 : IBox W4 (w.heap.size + 2) none 0 0 none 0 0 := Row.only V3.out.res og (by omega)
        have HN4 := Lib.hid (n4.pre V1.out.below)
        have HW4 := Lib.hid hW4
        clear b0 b1 r0 r1 g0 g1 hW4 n4 d0 d1 h1 h2 f1 f2
        rw [HW4.out]
        have b0 := B4.c0; have b1 := B4.c1; have r0 := R4.c0; have r1 := R4.c1; have g0 := R4.f0; have g1 := R4.f1
        have HR4 := Lib.hid R4
        clear B4 R4 og
        go_wp2
        have X := next_done HN4.out HR4.out (fun d hd => by have := (V1.out.old.lt hd).2; omega) (fun y hy hn g' p he => by
          rcases List.mem_or_eq_of_mem_set hy with hy | rfl
          · have := V1.out.old.exts y hy; rw [he] at this; have := this.lt hn; omega
          · have := (M3.out.own g' p he).1; have := V1.out.size; omega)
        have hl : (Z.set j ⟨x.ino, sx, E, en, ec, Mx⟩).length = Z.length := by simp
        rw [hl] at X
        refine res_ibox rfl (w.heap.size + 2) _ _ _ _ _ _ rfl X.1 rfl ⟨_, ?_, X.2⟩
        rw [HA.out, HX.out]
        show _ = match chg o x.s x.L with | none => _ | some r => _
        rw [HC.out, HRS.out]
        have hk : x.ino = o.ino := (fnd_mem HX.out).2
        have e1 := set_updk HU.out HX.out (y := (⟨x.ino, sx, E, en, ec, Mx⟩ : Nz))
        rw [HJ.out] at e1
        rw [e1]
        show Ig.mk N _ = Ig.mk N _
        congr 1
        rw [hk]
        exact (updk_map (key := Nd.ino) (key' := Nz.ino) Nz.d (fun _ => rfl) Z o.ino ⟨o.ino, sx, E, en, ec, Mx⟩).symm
    · obtain ⟨w3, hw3⟩ : ∃ w3, (w2.setCell ⟨w1.heap.size, 0, none⟩ (.int .i64 sx)).setCell ⟨w1.heap.size, 1, none⟩ (.slice E en ec) = w3 := ⟨_, rfl⟩
      have D3 := Lib.hid (show Box w3 w1.heap.size sx E en ec by rw [← hw3]; exact BX.out.put _ _ _ _)
      have KB := Lib.hid (show Below w1.heap.size w1 w3 by rw [← hw3]; exact below_put K2.out _ (Nat.le_refl _) _ _)
      have M3 := Lib.hid (show Mut w1.heap.size w3 E en ec Mx by
        rw [← hw3]
        have hx : ((w1.alloc (.cells #[.int .i64 0, .slice none 0 0] 32)).drewN 1).heap.size = w1.heap.size + 1 := by simp [World.drewN]
        exact HM.out.only (only_put _ _ _ _) (fun g hg hd => by omega) (by omega))
      rw [hw3]
      clear hw3 x0 x1 xf0 xf1
      have V3 := Lib.hid (V1.out.on KB.out)
      clear b0 b1 r0 r1 g0 g1 S1 h1 h2
      have b0 := V3.out.box.c0; have b1 := V3.out.box.c1; have r0 := V3.out.res.c0; have r1 := V3.out.res.c1; have g0 := V3.out.res.f0; have g1 := V3.out.res.f1
      have d0 := D3.out.c0; have d1 := D3.out.c1
      have hcx := (Nds.at0 V3.out.img.im.nodes j hjl).2
      rw [HJX.out] at hcx
      obtain ⟨h1, h2⟩ := hcx
      obtain ⟨_, _, he', _, hfz⟩ := V3.out.img.nodes.sl
      injection he' with he1 he2 he3
      have hfz' := (hfz g 0 he1.symm).2.2.2
      have f1 := hfz' (j * 3 + 1); have f2 := hfz' (j * 3 + 2)
      clear he1 he2 he3 hfz hfz'
      cases z with
      | false =>
        have HC := Lib.hid (show chg o x.s x.L = none by have := HZ.out; simpa using this)
        go_wp2
        have X := V3.out.same
        refine res_ibox rfl (w.heap.size + 2) _ _ _ _ _ _ rfl X.1 rfl ⟨Z, ?_, X.2⟩
        rw [HA.out, HX.out]
        show _ = match chg o x.s x.L with | none => _ | some r => _
        rw [HC.out]
      | true =>
        obtain ⟨r, hr⟩ : ∃ r, chg o x.s x.L = some r := Option.isSome_iff_exists.1 HZ.out
        have HRS := Lib.hid (show r = (sx, Mx) by rw [HSM.out r hr, (HSX.out rfl).1, (HSX.out rfl).2])
        have HC := Lib.hid hr
        clear hr
        go_upto_region 7 with fail
        obtain ⟨W4, hW4⟩ : ∃ W4, (w3.setCell ⟨g, j * 3 + 1, none⟩ (.int .i64 sx)).setCell ⟨g, j * 3 + 2, none⟩ (.slice E en ec) = W4 := ⟨_, rfl⟩
        have n4 := V1.out.img.setC (s := sx) KB.out j hjl M3.out
        rw [hW4, HJX.out] at n4
        have hgn : g < w.heap.size := (V1.out.old.lt (d := g) (.inr rfl)).2
        have og : Only (fun d => d = g) w3 W4 := by rw [← hW4]; exact ((Only.refl (fun d => d = g) w3).setCell ⟨g, j * 3 + 1, none⟩ (fun _ => rfl) _).setCell ⟨g, j * 3 + 2, none⟩ (fun _ => rfl) _
        have B4 : IBox W4 w.heap.size A N.length c (some ⟨g, 0, none⟩) Z.length c' := Row.only V3.out.box og (by omega)
        have R4 : IBox W4 (w.heap.size + 2) none 0 0 none 0 0 := Row.only V3.out.res og (by omega)
        have HN4 := Lib.hid (n4.pre V1.out.below)
        have HW4 := Lib.hid hW4
        clear b0 b1 r0 r1 g0 g1 hW4 n4 d0 d1 h1 h2 f1 f2
        rw [HW4.out]
        have b0 := B4.c0; have b1 := B4.c1; have r0 := R4.c0; have r1 := R4.c1; have g0 := R4.f0; have g1 := R4.f1
        have HR4 := Lib.hid R4
        clear B4 R4 og
        go_wp2
        have X := next_done HN4.out HR4.out (fun d hd => by have := (V1.out.old.lt hd).2; omega) (fun y hy hn g' p he => by
          rcases List.mem_or_eq_of_mem_set hy with hy | rfl
          · have := V1.out.old.exts y hy; rw [he] at this; have := this.lt hn; omega
          · have := (M3.out.own g' p he).1; have := V1.out.size; omega)
        have hl : (Z.set j ⟨x.ino, sx, E, en, ec, Mx⟩).length = Z.length := by simp
        rw [hl] at X
        refine res_ibox rfl (w.heap.size + 2) _ _ _ _ _ _ rfl X.1 rfl ⟨_, ?_, X.2⟩
        rw [HA.out, HX.out]
        show _ = match chg o x.s x.L with | none => _ | some r => _
        rw [HC.out, HRS.out]
        have hk : x.ino = o.ino := (fnd_mem HX.out).2
        have e1 := set_updk HU.out HX.out (y := (⟨x.ino, sx, E, en, ec, Mx⟩ : Nz))
        rw [HJ.out] at e1
        rw [e1]
        show Ig.mk N _ = Ig.mk N _
        congr 1
        rw [hk]
        exact (updk_map (key := Nd.ino) (key' := Nz.ino) Nz.d (fun _ => rfl) Z o.ino ⟨o.ino, sx, E, en, ec, Mx⟩).symm
end Go.Proofs.YtgaaieipeiekiaaGreat

namespace Go.Proofs.YtgaaieipeiekiaaGreat
open Go.RowKit
set_option maxRecDepth 100000

set_option maxHeartbeats 4000000 in
theorem copied_any (s : Int) (A : Option Addr) (n c : Nat) (L : List Ex) (w : World) (h : Exts w A n c L) (hn : n ≤ 1000000) :
    Calls Tryz.prog 33 #[ct s A n c] w fun e w' => ∃ A' c', e = .returned (ct s A' L.length c') ∧ Mut w.heap.size w' A' L.length c' L ∧ Below w.heap.size w w' := by
  obtain ⟨W, hW⟩ : ∃ W, (w.alloc (.cells #[.int .i64 s, .slice A n c] 32)).alloc (.cells #[.int .i64 0, .slice none 0 0] 32) = W := ⟨_, rfl⟩
  have HW := Lib.hid hW
  have D0 := Lib.hid (show Duo w W s A n c by rw [← hW]; exact duo_new w s A n c)
  have H := Lib.hid (h.on D0.out.below)
  clear h hW
  show Calls Tryz.prog 33 #[.agg #[.int .i64 s, .slice A n c]] w _
  go_enter Tryz.func33, Tryz.ntmps33
  go_wp2
  rw [HW.out]
  have S1 := And.intro D0.out.b0.c0 D0.out.b0.c1
  have SF := Lib.hid (fun w' (k : Below W.heap.size W w') => And.intro (D0.out.on k).b0.c0 (D0.out.on k).b0.c1)
  have HP := Lib.hid (show Below W.heap.size W (W.drewN 1) from below_drewN (Below.refl _ _) 1)
  go_region_held3 (fun w' => w'.cell? ⟨w.heap.size, 0, none⟩ = some (.int .i64 s) ∧ w'.cell? ⟨w.heap.size, 1, none⟩ = some (.slice A n c))
    (first | assumption | exact S1 | exact SF.out _ (Below.refl _ _) | exact SF.out _ HP.out | exact SF.out _ K2.out | exact ⟨(Box.only (D0.out.on K2.out).b0 (only_put _ _ _ _) (by omega)).c0, (Box.only (D0.out.on K2.out).b0 (only_put _ _ _ _) (by omega)).c1⟩)
    (first | (go_at_call 62; refine (clone_any A n c L _ (H.out.on HP.out) hn).mono ?_; rintro e w1 ⟨A', c', rfl, hm, k1⟩; have K2 := Lib.hid (HP.out.trans (k1.mono HP.out.size)); have HM := Lib.hid hm; have D1 := Lib.hid (D0.out.on K2.out); have e0 := D1.out.b1.c0; have e1 := D1.out.b1.c1; have f0 := D1.out.b1.f0; have f1 := D1.out.b1.f1; clear k1 hm))
  go_wp2
  have X := D1.out.done s (L := L) HM.out D0.out.size
  exact res_box1 rfl (w.heap.size + 1) s A' L.length c' rfl X.1 rfl ⟨A', c', rfl, X.2.1, X.2.2⟩

theorem owns_new {α : Type} (E : El α) (w : World) : OwnS E w.heap.size (w.alloc (.cells #[] E.t)) (.slice (some ⟨w.heap.size, 0, none⟩) 0 0) [] :=
  ⟨World.ownsRow_made w #[] 0 (Nat.le_refl _) (Nat.zero_le _) (by simp)⟩
def NamePost (N : List Nm) (w : World) (e : Ending) (w' : World) : Prop := ∃ A c, e = .returned (.slice A N.length c) ∧ OwnS elN w.heap.size w' (.slice A N.length c) N ∧ Below w.heap.size w w'

set_option maxHeartbeats 400000 in
theorem clonen_any (A : Option Addr) (n c : Nat) (N : List Nm) (w : World) (h : Nms w A n c N) (hn : n ≤ 1000000) : Calls Tryz.prog 74 #[.slice A n c] w (NamePost N w) := by
  have H := Lib.hid h
  cases A with
  | none =>
    obtain ⟨rfl, rfl⟩ := h.nil rfl
    obtain rfl : N = [] := List.eq_nil_of_length_eq_zero h.len
    clear h
    have hnil : ∀ w' : World, (binOp .eql 22 (.slice none 0 0) (.slice none 0 0)).run Tryz.prog w' = .ok (.bool true) w' := fun w' => Lib.run_eql_slice_nil w' 22 62 none 0 0 0 0 Tryz.underlying22
    go_enter Tryz.func74, Tryz.ntmps74
    go_wp2
    go_ret
    exact ⟨none, 0, rfl, owns_nil _ _, Below.refl _ _⟩
  | some ad =>
    have HE := Lib.hid (H.out.on ((Below.refl w.heap.size w).alloc (Nat.le_refl _) (.cells #[] 62)))
    clear h
    have hnil : ∀ w' : World, (binOp .eql 22 (.slice (some ad) n c) (.slice none 0 0)).run Tryz.prog w' = .ok (.bool false) w' := fun w' => Lib.run_eql_slice_nil w' 22 62 (some ad) n c 0 0 Tryz.underlying22
    go_enter Tryz.func74, Tryz.ntmps74
    go_wp2_with (at_builtin; refine st_catE tyN rfl _ _ rfl w.heap.size _ [] rfl (owns_new elN w) _ _ _ N rfl HE.out (by simpa using hn) (by simp) N N.length rfl rfl ?_; intro A' c' w1 q1 q2 _; have Q1 := Lib.hid q1; have Q2 := Lib.hid q2; clear q1 q2)
    go_ret
    exact ⟨A', c', rfl, Q1.out, ((Below.refl w.heap.size w).alloc (Nat.le_refl _) _).trans (Q2.out.below (by simp) (fun d hd => Nat.le_of_eq (Option.some.inj hd)))⟩
end Go.Proofs.YtgaaieipeiekiaaGreat

namespace Go.Proofs.YtgaaieipeiekiaaGreat
open Go.RowKit
set_option maxRecDepth 100000

section
variable {α : Type} {E : El α} {ts : TypeId} {z0 : α} {by_ : Nat}
theorem made_cells [Inhabited α] (E : El α) (z0 : α) (m : Nat) : (madeCells (Value.agg (E.enc z0).toArray).cells (m * E.k)).toList = E.cells (List.replicate m z0) := by
  have hz : (Value.agg (E.enc z0).toArray).cells = (E.enc z0).toArray := rfl
  rw [hz]
  have hp := E.pos
  refine List.ext_getElem? fun i => ?_
  by_cases hi : i < m * E.k
  · have hdm := Nat.div_add_mod i E.k
    rw [Nat.mul_comm] at hdm
    have hm := Nat.mod_lt i hp
    have hd : i / E.k < m := Nat.div_lt_of_lt_mul (by rw [Nat.mul_comm]; exact hi)
    have hq := E.cells_at (List.replicate m z0) (i / E.k) (by simpa using hd) (i % E.k) hm
    rw [hdm] at hq
    rw [hq]
    have hg : (List.replicate m z0).getD (i / E.k) default = z0 := by simp [List.getD_eq_getElem?_getD, hd]
    rw [hg]
    have hs : (E.enc z0).toArray.size = E.k := E.size z0
    simp only [madeCells, hs]
    simp [hi]
    rw [List.getElem?_eq_getElem (by rw [E.len]; exact hm)]; rfl
  · rw [List.getElem?_eq_none (by simp [madeCells]; omega), List.getElem?_eq_none (by rw [E.cells_len]; simp; omega)]
/-- make([]T, m). -/
theorem st_makeE [Inhabited α] (T : Ty E ts z0 by_) {w : World} {ops : Array Oper} {rest : List Oper} {o : Oper} {a : Act} {Q : Exit → Act → World → Prop} (hgd : o.guard = none) (l c : Operand) (ho : o.op = .makeSlice ts l c) (C : Int) (m : Nat) (hl : a.eval l = .int .i64 C) (hc : a.eval c = .int .i64 C) (hC : C = (m : Int)) (hm : m ≤ 1000000)
    (hn : ∀ g w', g = w.heap.size → OwnS E w.heap.size w' (.slice (some ⟨g, 0, none⟩) m m) (List.replicate m z0) → Below w.heap.size w w' → wpList Tryz.prog ops Q rest (a.put o.dst (.slice (some ⟨g, 0, none⟩) m m)) w') :
    wpList Tryz.prog ops Q (o :: rest) a w := by
  obtain ⟨i0, hi, hz0, hz1, hz2⟩ := info_parts T.info
  have hle := T.le
  refine wpList_make_full (P := Tryz.prog) w hgd l c ts ho w.heap.size E.t i0 _ E.k T.sl hi hz0 hz1 .i64 .i64 C C m hl hc hC hC (by rw [hz2]; exact Nat.le_trans (Nat.mul_le_mul hle hm) (by decide)) (by unfold maxLen; omega) (Nat.le_refl _) ?_
  intro w' h1 h2
  rw [made_cells] at h1
  refine hn w.heap.size w' rfl ⟨?_⟩ ⟨h2.os, h2.tape, h2.output, h2.size, fun k hk => h2.block k hk (fun h => by cases h)⟩
  rw [List.length_replicate]
  exact h1
end
/-- A file stored whole. -/
theorem own_set3 {B : Nat} {w : World} {g n c : Nat} {R : List Nz} (h : OwnS elZ B w (.slice (some ⟨g, 0, none⟩) n c) R) (j : Nat) (hj : j < n) (k s : Int) (F : Option Addr) (n' e : Nat) (L : List Ex) :
    OwnS elZ B (((w.setCell ⟨g, j * 3, none⟩ (.int .i64 k)).setCell ⟨g, j * 3 + 1, none⟩ (.int .i64 s)).setCell ⟨g, j * 3 + 2, none⟩ (.slice F n' e)) (.slice (some ⟨g, 0, none⟩) n c) (R.set j ⟨k, s, F, n', e, L⟩) := by
  obtain ⟨hn, ⟨h0, _⟩ | ⟨g', cur, he, hBg, hrow, hle, hmx, hsz, htk⟩⟩ := h.open
  · cases h0
  injection he with he; injection he with he; subst he hn
  have hk : elZ.k = 3 := rfl
  rw [hk] at hsz htk
  have hrow2 := Row.setv (Row.setv (Row.setv hrow (j * 3) (.int .i64 k)) (j * 3 + 1) (.int .i64 s)) (j * 3 + 2) (.slice F n' e)
  have hlen : (R.set j ⟨k, s, F, n', e, L⟩).length = R.length := by simp
  have := OwnS.mk' (E := elZ) (L := R.set j ⟨k, s, F, n', e, L⟩) hBg hrow2 (by rw [hlen]; exact hle) hmx (by rw [hk]; simpa using hsz) ?_
  · rwa [hlen] at this
  · rw [hlen, hk]
    have hcl : cur.toList.length = c * 3 := by simpa using hsz
    have hz3 : R.length * 3 ≤ c * 3 := Nat.mul_le_mul_right _ hle
    have hj3 : (j + 1) * 3 ≤ R.length * 3 := Nat.mul_le_mul_right _ hj
    refine List.ext_getElem? fun i => ?_
    by_cases hi : i < R.length * 3
    · rw [List.getElem?_take_of_lt hi]
      have hdm : i / 3 * 3 + i % 3 = i := by omega
      have hq := elZ.cells_at (R.set j ⟨k, s, F, n', e, L⟩) (i / 3) (by rw [hlen]; omega) (i % 3) (by rw [hk]; omega)
      rw [hk, hdm] at hq
      rw [hq]
      simp only [Array.toList_setIfInBounds]
      by_cases hij : i / 3 = j
      · rw [hij]
        have hgd : (R.set j (⟨k, s, F, n', e, L⟩ : Nz)).getD j default = ⟨k, s, F, n', e, L⟩ := by
          rw [List.getD_eq_getElem?_getD, List.getElem?_set_self hj]; rfl
        rw [hgd]
        have h3 : i % 3 = 0 ∨ i % 3 = 1 ∨ i % 3 = 2 := by omega
        rcases h3 with h3 | h3 | h3
        · have e1 : i ≠ j * 3 + 2 := by omega
          have e2 : i ≠ j * 3 + 1 := by omega
          have e3 : i = j * 3 := by omega
          rw [List.getElem?_set_ne (Ne.symm e1), List.getElem?_set_ne (Ne.symm e2), e3, List.getElem?_set_self (by omega), show (j * 3) % 3 = 0 by omega]; rfl
        · have e1 : i ≠ j * 3 + 2 := by omega
          have e2 : i = j * 3 + 1 := by omega
          rw [List.getElem?_set_ne (Ne.symm e1), e2, List.getElem?_set_self (by simp; omega), show (j * 3 + 1) % 3 = 1 by omega]; rfl
        · have e2 : i = j * 3 + 2 := by omega
          rw [e2, List.getElem?_set_self (by simp; omega), show (j * 3 + 2) % 3 = 2 by omega]; rfl
      · have e1 : i ≠ j * 3 + 2 := by omega
        have e2 : i ≠ j * 3 + 1 := by omega
        have e3 : i ≠ j * 3 := by omega
        rw [List.getElem?_set_ne (Ne.symm e1), List.getElem?_set_ne (Ne.symm e2), List.getElem?_set_ne (Ne.symm e3)]
        have hq0 := elZ.cells_at R (i / 3) (by omega) (i % 3) (by rw [hk]; omega)
        rw [hk, hdm, ← htk, List.getElem?_take_of_lt hi] at hq0
        rw [hq0, List.getD_eq_getElem?_getD, List.getD_eq_getElem?_getD, List.getElem?_set_ne (Ne.symm hij)]
    · rw [List.getElem?_eq_none (by rw [List.length_take]; omega), List.getElem?_eq_none (by rw [El.cells_len, hlen, hk]; omega)]
theorem only_set3 (w : World) (g i j k : Nat) (x y z : Value) : Only (fun d => d = g) w (((w.setCell ⟨g, i, none⟩ x).setCell ⟨g, j, none⟩ y).setCell ⟨g, k, none⟩ z) :=
  (((Only.refl (fun d => d = g) w).setCell ⟨g, i, none⟩ (fun _ => rfl) _).setCell ⟨g, j, none⟩ (fun _ => rfl) _).setCell ⟨g, k, none⟩ (fun _ => rfl) _
/-- The first j files are copied. -/
structure Rn (w wr : World) (A : Option Addr) (c : Nat) (A' : Option Addr) (c' : Nat) (N : List Nm) (Z : List Nz) (g : Nat) (R : List Nz) (j : Nat) : Prop where
  own : OwnS elZ w.heap.size wr (.slice (some ⟨g, 0, none⟩) Z.length Z.length) R
  len : R.length = Z.length
  new : ∀ i, i < j → (R.getD i default).d = (Z.getD i default).d ∧ Mut (g + 1) wr (R.getD i default).A (R.getD i default).n (R.getD i default).c (R.getD i default).L
  im : Im wr A N.length c A' Z.length c' N Z
  box : IBox wr w.heap.size A N.length c A' Z.length c'
  res : IBox wr (w.heap.size + 1) none 0 0 none 0 0
  below : Below w.heap.size w wr
  g0 : w.heap.size + 2 ≤ g
  g1 : g < wr.heap.size
section
variable {w wr w2 : World} {A : Option Addr} {c : Nat} {A' : Option Addr} {c' : Nat} {N : List Nm} {Z : List Nz} {g : Nat} {R : List Nz} {j : Nat}
theorem Rn.on (h : Rn w wr A c A' c' N Z g R j) (k : Below wr.heap.size wr w2) : Rn w w2 A c A' c' N Z g R j :=
  ⟨h.own.on k, h.len, fun i hi => ⟨(h.new i hi).1, (h.new i hi).2.on k⟩, h.im.on k, h.box.on k, h.res.on k, h.below.trans (k.mono h.below.size), h.g0, Nat.lt_of_lt_of_le h.g1 k.size⟩
theorem Rn.put (h : Rn w wr A c A' c' N Z g R j) (hj : j < Z.length) (him : Im w A N.length c A' Z.length c' N Z) {F : Option Addr} {e : Nat} (hm : Mut (g + 1) wr F (Z.getD j default).L.length e (Z.getD j default).L) :
    Rn w (((wr.setCell ⟨g, j * 3, none⟩ (.int .i64 (Z.getD j default).ino)).setCell ⟨g, j * 3 + 1, none⟩ (.int .i64 (Z.getD j default).s)).setCell ⟨g, j * 3 + 2, none⟩ (.slice F (Z.getD j default).L.length e)) A c A' c' N Z g (R.set j ⟨(Z.getD j default).ino, (Z.getD j default).s, F, (Z.getD j default).L.length, e, (Z.getD j default).L⟩) (j + 1) := by
  have og := only_set3 wr g (j * 3) (j * 3 + 1) (j * 3 + 2) (.int .i64 (Z.getD j default).ino) (.int .i64 (Z.getD j default).s) (.slice F (Z.getD j default).L.length e)
  have kb := og.below (B := w.heap.size) h.below.size (fun d hd => by have := h.g0; omega)
  have h0 := h.g0
  refine ⟨own_set3 h.own j hj _ _ _ _ _ _, by simp [h.len], fun i hi => ?_, him.on (h.below.trans kb), Row.only h.box og (by omega), Row.only h.res og (by omega), h.below.trans kb, h.g0, by have := h.g1; have := og.size; omega⟩
  by_cases hij : i = j
  · subst hij
    rw [List.getD_eq_getElem?_getD, List.getElem?_set_self (by rw [h.len]; exact hj), Option.getD_some]
    exact ⟨rfl, hm.only og (fun d hd hd2 => by omega) (Nat.le_refl _)⟩
  · rw [List.getD_eq_getElem?_getD, List.getElem?_set_ne (Ne.symm hij), ← List.getD_eq_getElem?_getD]
    obtain ⟨h1, h2⟩ := h.new i (by omega)
    exact ⟨h1, h2.only og (fun d hd hd2 => by omega) (Nat.le_refl _)⟩
end
def RenewPost (N : List Nm) (Z : List Nz) (w : World) (e : Ending) (w' : World) : Prop := ∃ D d D' d' Y, e = .returned (iv D N.length d D' Y.length d') ∧ Y.map Nz.d = Z.map Nz.d ∧ Img w.heap.size w' D d D' d' N Y ∧ Below w.heap.size w w'
theorem map_d_ext {Y Z : List Nz} (hl : Y.length = Z.length) (h : ∀ i, i < Z.length → (Y.getD i default).d = (Z.getD i default).d) : Y.map Nz.d = Z.map Nz.d := by
  refine List.ext_getElem (by simpa using hl) fun i h1 h2 => ?_
  simp only [List.length_map] at h1 h2
  have := h i h2
  rw [List.getD_eq_getElem?_getD, List.getD_eq_getElem?_getD, List.getElem?_eq_getElem h1, List.getElem?_eq_getElem h2] at this
  simpa using this
end Go.Proofs.YtgaaieipeiekiaaGreat
