/- Contract of the made images. / Contract of the made changes. -/
import Derived.Test.YtgaaieipeiekiaaPkL
namespace Go.Proofs.Ytgaaieipeiekiaa
open Go.RowKit
set_option maxRecDepth 100000

/-- Of what files are made. -/
structure Kp where
  name : Int
  size : Int
  A : Option Addr
  n : Nat
  c : Nat
  L : List Bk
deriving Inhabited
def elK : El Kp := ⟨65, 3, fun x => [.int .u8 x.name, .int .u16 x.size, .slice x.A x.n x.c], fun _ => rfl, fun x v h => by simp at h; rcases h with rfl | rfl | rfl <;> rfl, by decide⟩
structure Kp.ok (w : World) (x : Kp) : Prop where
  n0 : 0 ≤ x.name
  s0 : 0 ≤ x.size
  sl : Sl elB w x.A x.n x.c x.L
  bk : ∀ y ∈ x.L, y.ok
structure KpsIn (w : World) (A : Option Addr) (n c : Nat) (P : List Kp) : Prop where
  sl : Sl elK w A n c P
  ok : ∀ x ∈ P, x.ok w
theorem Kp.ok.on {w w' : World} {x : Kp} (h : x.ok w) (k : Below w.heap.size w w') : x.ok w' := ⟨h.n0, h.s0, h.sl.on k, h.bk⟩
theorem KpsIn.on {w w' : World} {A : Option Addr} {n c : Nat} {P : List Kp} (h : KpsIn w A n c P) (k : Below w.heap.size w w') : KpsIn w' A n c P := ⟨h.sl.on k, fun x hx => (h.ok x hx).on k⟩
theorem Kps.at {w : World} {b o n c : Nat} {M : List Kp} (h : Sl elK w (some ⟨b, o, none⟩) n c M) (j : Nat) (hj : j < n) : w.cell? ⟨b, o + j * 3, none⟩ = some (.int .u8 (M.getD j default).name) ∧ w.cell? ⟨b, o + j * 3 + 1, none⟩ = some (.int .u16 (M.getD j default).size) ∧ w.cell? ⟨b, o + j * 3 + 2, none⟩ = some (.slice (M.getD j default).A (M.getD j default).n (M.getD j default).c) := by
  obtain ⟨b', o', he, _, hc⟩ := h.cells (by omega)
  injection he with he; injection he with e1 e2; subst e1 e2
  exact ⟨hc j hj 0 _ rfl, hc j hj 1 _ rfl, hc j hj 2 _ rfl⟩

def nmL : List ByteArray := [⟨#[97]⟩, ⟨#[98]⟩, ⟨#[99]⟩, ⟨#[100, 115, 116]⟩, ⟨#[109, 97, 112]⟩, ⟨#[120, 45, 49]⟩]
def nmT (j : Nat) : ByteArray := nmL.getD j default
theorem nm_lt : ∀ k < 6, ∀ j < k, nlt (nmT j) (nmT k) = true := by decide +kernel
theorem nm_ok : ∀ k < 6, okName (nmT k) = true := by decide +kernel
theorem nm_size : ∀ k < 6, (nmT k).size ≤ 20 := by decide +kernel
theorem nm_list (j : Nat) (hj : j < 6) : ([Value.string { data := #[97] }, Value.string { data := #[98] }, Value.string { data := #[99] }, Value.string { data := #[100, 115, 116] }, Value.string { data := #[109, 97, 112] }, Value.string { data := #[120, 45, 49] }])[j] = Value.string (nmT j) := by
  have : j = 0 ∨ j = 1 ∨ j = 2 ∨ j = 3 ∨ j = 4 ∨ j = 5 := by omega
  rcases this with rfl | rfl | rfl | rfl | rfl | rfl <;> rfl

/-- The files so far: the first k names were looked for. -/
structure Ok (k : Nat) (M : List Nm) (Y : List Nz) : Prop where
  good : GoodI (ig M Y)
  at_ : ∀ x ∈ M, ∃ j, j < k ∧ x = ⟨nmT j, 10 - (j : Int)⟩
  len : M.length ≤ k
  lens : Lens 30 (ig M Y)
theorem ok_nil : Ok 0 [] [] := ⟨good_nil, by simp, Nat.le_refl _, fun d hd => by simp [ig] at hd⟩
theorem Ok.next {k : Nat} {M : List Nm} {Y : List Nz} (h : Ok k M Y) : Ok (k + 1) M Y :=
  ⟨h.good, fun x hx => by obtain ⟨j, hj, he⟩ := h.at_ x hx; exact ⟨j, by omega, he⟩, by have := h.len; omega, h.lens⟩
theorem Ok.push {k : Nat} {M : List Nm} {Y : List Nz} (h : Ok k M Y) (hk : k < 6) {s : Int} {A : Option Addr} {n c : Nat} {L : List Ex} (hm : may s L = true) (hL : L.length ≤ 30) : Ok (k + 1) (M ++ [⟨nmT k, 10 - (k : Int)⟩]) (⟨10 - (k : Int), s, A, n, c, L⟩ :: Y) := by
  have hl := h.len
  refine ⟨⟨?_, fun x hx => ?_, fun x hx => ?_, ?_, ?_, ?_, fun d hd => ?_⟩, fun x hx => ?_, by rw [List.length_append]; simp; omega, fun d hd => ?_⟩
  · show (M ++ [_]).length ≤ 16
    rw [List.length_append]; simp; omega
  · rcases List.mem_append.1 hx with hx | hx
    · exact h.good.name x hx
    · rw [List.mem_singleton] at hx; subst hx; exact nm_ok k hk
  · rcases List.mem_append.1 hx with hx | hx
    · exact h.good.ino x hx
    · rw [List.mem_singleton] at hx; subst hx
      simp only [okIno, Bool.and_eq_true, decide_eq_true_eq]; omega
  · show Rise ordN Nm.name (M ++ [_])
    unfold Rise
    rw [List.pairwise_append]
    refine ⟨h.good.rise, List.pairwise_singleton _ _, fun a ha b hb => ?_⟩
    rw [List.mem_singleton] at hb; subst hb
    obtain ⟨j, hj, rfl⟩ := h.at_ a ha
    exact nm_lt k hk j hj
  · show Rise ordI Nd.ino (_ :: Y.map Nz.d)
    unfold Rise
    rw [List.pairwise_cons]
    refine ⟨fun d hd => ?_, h.good.up⟩
    have : d.ino ∈ (ig M Y).N.map Nm.ino := h.good.perm.mem_iff.2 (List.mem_map_of_mem hd)
    obtain ⟨x, hx, he⟩ := List.mem_map.1 this
    obtain ⟨j, hj, rfl⟩ := h.at_ x hx
    show decide (_ < _) = true
    rw [← he]
    show decide ((10 : Int) - (k : Int) < 10 - (j : Int)) = true
    exact decide_eq_true (by omega)
  · show ((M ++ [_]).map Nm.ino).Perm ((_ :: Y.map Nz.d).map Nd.ino)
    rw [List.map_append, List.map_cons]
    exact (List.perm_append_comm).trans (h.good.perm.cons _)
  · rcases List.mem_cons.1 hd with rfl | hd
    · exact hm
    · exact h.good.cont d hd
  · rcases List.mem_append.1 hx with hx | hx
    · obtain ⟨j, hj, he⟩ := h.at_ x hx; exact ⟨j, by omega, he⟩
    · rw [List.mem_singleton] at hx; exact ⟨k, by omega, hx⟩
  · rcases List.mem_cons.1 hd with rfl | hd
    · exact hL
    · exact h.lens d hd
theorem Ok.ino {k : Nat} {M : List Nm} {Y : List Nz} (h : Ok k M Y) (hk : k ≤ 6) : ∀ x ∈ M, 5 ≤ x.ino ∧ x.ino ≤ 10 := fun x hx => by
  obtain ⟨j, hj, rfl⟩ := h.at_ x hx
  show 5 ≤ 10 - (j : Int) ∧ 10 - (j : Int) ≤ 10
  omega
/-- A made image. -/
def OfPost (w : World) (e : Ending) (w' : World) : Prop := ∃ D d D' d' M Y, e = .returned (iv D M.length d D' Y.length d') ∧ Ok 6 M Y ∧ Img w.heap.size w' D d D' d' M Y ∧ Below w.heap.size w w'
/-- The image in the variable. -/
structure Io (w wr : World) (D : Option Addr) (d : Nat) (D' : Option Addr) (d' : Nat) (M : List Nm) (Y : List Nz) : Prop where
  img : Img (w.heap.size + 2) wr D d D' d' M Y
  box : IBox wr (w.heap.size + 1) D M.length d D' Y.length d'
  res : IBox wr w.heap.size none 0 0 none 0 0
  off : ∀ z ∈ Y, 0 < z.n → ∀ g p, z.A = some ⟨g, p, none⟩ → w.heap.size + 2 ≤ g
  below : Below w.heap.size w wr
  size : w.heap.size + 2 ≤ wr.heap.size
section
variable {w wr w2 w3 : World} {k : Nat} {D : Option Addr} {d : Nat} {D' : Option Addr} {d' : Nat} {M : List Nm} {Y : List Nz}
theorem Io.on (h : Io w wr D d D' d' M Y) (b : Below wr.heap.size wr w2) : Io w w2 D d D' d' M Y :=
  ⟨h.img.on b, h.box.on b, h.res.on b, h.off, h.below.trans (b.mono h.below.size), Nat.le_trans h.size b.size⟩
/-- Names changed, and stored. -/
theorem Io.names (h : Io w wr D d D' d' M Y) {F : Option Addr} {f m : Nat} {R : List Nm} (q : OwnS elN (w.heap.size + 2) w3 (.slice F m f) R) (hm : R.length = m) (o : Only (fun d => D = some ⟨d, 0, none⟩) wr w3) (s : ∀ g, F = some ⟨g, 0, none⟩ → D = some ⟨g, 0, none⟩ ∨ wr.heap.size ≤ g) (hs : ∀ x ∈ R, x.name.size ≤ maxLen) :
    IBox w3 (w.heap.size + 1) D M.length d D' Y.length d' ∧ Io w (w3.setCell ⟨w.heap.size + 1, 0, none⟩ (.slice F m f)) F f D' d' R Y := by
  subst hm
  have n1 := h.img.setN q rfl o s hs
  have hD : ∀ g, D = some ⟨g, 0, none⟩ → w.heap.size + 2 ≤ g := fun g hg => (h.img.lt (.inl hg)).1
  have bx : IBox w3 (w.heap.size + 1) D M.length d D' Y.length d' := Row.only h.box o (fun hd => by have := hD _ hd; omega)
  have rx : IBox w3 w.heap.size none 0 0 none 0 0 := Row.only h.res o (fun hd => by have := hD _ hd; omega)
  have ob := only_set1 w3 (w.heap.size + 1) 0 (.slice F R.length f)
  refine ⟨bx, n1.img.keep ob (fun g hg he => by have := (n1.img.lt hg).1; omega) (fun z hz hn g p he h2 => by have := h.off z hz hn g p he; omega), Row.setv bx 0 _, Row.only rx ob (by omega), h.off, ?_, ?_⟩
  · exact (h.below.trans (o.below h.below.size (fun g hg => by have := hD g hg; omega))).setCell (Nat.le_add_right _ _) _
  · have := h.size; have := o.size
    simp [World.setCell]; omega
/-- A file put ahead, and stored. -/
theorem Io.nodes (h : Io w wr D d D' d' M Y) {F : Option Addr} {f m : Nat} {z : Nz} (q : OwnS elZ (w.heap.size + 2) w3 (.slice F m f) (z :: Y)) (hm : (z :: Y).length = m) (o : Below wr.heap.size wr w3) (s : ∀ g, F = some ⟨g, 0, none⟩ → wr.heap.size ≤ g) (hz : Exts w3 z.A z.n z.c z.L) (hzo : ∀ g p, z.A = some ⟨g, p, none⟩ → wr.heap.size ≤ g) (hzf : ∀ g p, 0 < z.n → z.A = some ⟨g, p, none⟩ → F ≠ some ⟨g, 0, none⟩) :
    IBox w3 (w.heap.size + 1) D M.length d D' Y.length d' ∧ Io w (w3.setCell ⟨w.heap.size + 1, 1, none⟩ (.slice F m f)) D d F f M (z :: Y) := by
  subst hm
  have h3 := h.on o
  have hsz := h.size
  have hoff : ∀ x ∈ z :: Y, 0 < x.n → ∀ g p, x.A = some ⟨g, p, none⟩ → w.heap.size + 2 ≤ g := fun x hx hn g p he => by
    rcases List.mem_cons.1 hx with rfl | hx
    · have := hzo g p he; omega
    · exact h.off x hx hn g p he
  have n1 : Img (w.heap.size + 2) w3 D d F f M (z :: Y) := by
    refine ⟨h3.img.names, q, fun x hx => ?_, fun x hx hn g p he hS => ?_, h.img.str⟩
    · rcases List.mem_cons.1 hx with rfl | hx
      · exact hz
      · exact h3.img.exts x hx
    · rcases List.mem_cons.1 hx with rfl | hx
      · rcases hS with hS | hS
        · have := hzo g p he; have := (h.img.lt (.inl hS)).2; omega
        · exact hzf g p hn he hS
      · rcases hS with hS | hS
        · exact h.img.apart x hx hn g p he (.inl hS)
        · have := s g hS; have h1 := h.img.exts x hx; rw [he] at h1; have := h1.lt hn; omega
  have ob := only_set1 w3 (w.heap.size + 1) 1 (.slice F (z :: Y).length f)
  refine ⟨h3.box, n1.keep ob (fun g hg he => by have := (n1.lt hg).1; omega) (fun x hx hn g p he h2 => by have := hoff x hx hn g p he; omega), Row.setv h3.box 1 _, Row.only h3.res ob (by omega), hoff, h3.below.setCell (Nat.le_add_right _ _) _, ?_⟩
  have := h3.size
  simp [World.setCell]; omega
end
/-- One element built. -/
theorem own_one {α : Type} {E : El α} {B : Nat} {w : World} {b : Nat} {e : α} (hB : B ≤ b) (h : Row w b E.t (E.enc e).toArray) : OwnS E B w (.slice (some ⟨b, 0, none⟩) 1 1) [e] :=
  OwnS.mk' (L := [e]) hB h (Nat.le_refl _) (by unfold maxLen; omega) (by simp [E.len]) (by rw [E.cells_one]; exact List.take_of_length_le (by rw [E.len]; simp))

set_option maxHeartbeats 8000000 in
theorem of_any (A : Option Addr) (n c : Nat) (P : List Kp) (w : World) (h : KpsIn w A n c P) : Calls Try.prog 11 #[.slice A n c] w (OfPost w) := by
  have hn := h.sl.max
  have H := Lib.hid h
  obtain ⟨W, hW⟩ : ∃ W, (w.alloc (.cells #[.slice none 0 0, .slice none 0 0] 25)).alloc (.cells #[.slice none 0 0, .slice none 0 0] 25) = W := ⟨_, rfl⟩
  have KW := Lib.hid (show Below w.heap.size w W by rw [← hW]; exact ((Below.refl _ _).alloc (Nat.le_refl _) _).alloc (by simp) _)
  have C0 := Lib.hid (show Io w W none 0 none 0 [] [] by
    refine ⟨⟨owns_nil _ _, owns_nil _ _, by simp, by simp, by simp⟩, ?_, ?_, by simp, KW.out, by rw [← hW]; simp⟩
    · rw [← hW]
      have := ibox_new (w.alloc (.cells #[.slice none 0 0, .slice none 0 0] 25)) none 0 0 none 0 0
      simpa using this
    · rw [← hW]; exact (ibox_new w none 0 0 none 0 0).on ((Below.refl _ _).alloc (Nat.le_refl _) _))
  have HW := Lib.hid hW
  clear h KW hW
  go_enter Try.func11, Try.ntmps11
  go_upto_region 2 with fail
  rw [HW.out]
  go_wp2
  go_loopw [4] (fun x wr => ∃ (k : Nat) (D : Option Addr) (d : Nat) (D' : Option Addr) (d' : Nat) (M : List Nm) (Y : List Nz), k ≤ 6 ∧ x = .int .u8 k ∧ Hid (Ok k M Y) ∧ Hid (Io w wr D d D' d' M Y)) (fun x _ => 6 - (intOf x).toNat)
  case atStart => exact ⟨0, none, 0, none, 0, [], [], by omega, rfl, ok_nil, C0.out⟩
  case round =>
    obtain ⟨k, D, d, D', d', M, Y, hk, rfl, HO, C⟩ := hrel
    clear C0 HW
    by_cases hlt : k < 6
    · have hki : (k : Int) < 6 := by omega
      have hT := nm_list k hlt
      go_wp2
      go_loopw [6] (fun x w2 => ∃ (i : Nat), i ≤ n ∧ i ≤ 12 ∧ x = .int .i64 i ∧ Hid (Io w w2 D d D' d' M Y)) (fun x _ => n - (intOf x).toNat)
      case atStart => exact ⟨0, Nat.zero_le _, by omega, rfl, C.out.on ((Below.refl _ _).alloc (Nat.le_refl _) _)⟩
      case round =>
        obtain ⟨i, hi, hi12, rfl, C2⟩ := hrel
        clear C hT
        by_cases hin : i < n
        · by_cases hi2 : i < 12
          · obtain ⟨b, o, rfl, hbl, _⟩ := H.out.sl.cells (by omega)
            have HX := Lib.hid (fun (v : World) (k : Below w.heap.size w v) => Kps.at (H.out.sl.on k) i hin)
            have hok := H.out.ok _ (H.out.sl.mem i hin)
            obtain ⟨x, hx⟩ : ∃ x, P.getD i default = x := ⟨_, rfl⟩
            rw [hx] at HX hok
            clear hx
            obtain ⟨xm, xs, xA, xn, xc, xL⟩ := x
            have HOx := Lib.hid hok
            have hx0 : 0 ≤ xm := hok.n0
            have hs0 : 0 ≤ xs := hok.s0
            simp only at HX
            obtain ⟨x0, x1, x2⟩ := HX.out _ C2.out.below
            have hini : (i : Int) < (n : Int) := by omega
            have hi2i : (i : Int) < 12 := by omega
            clear hok
            go_wp2_with fail
            refine (right_any xm _ hx0).mono ?_
            rintro e w3 ⟨t, rfl, ht, k3⟩
            have K3 := Lib.hid k3
            have C3 := Lib.hid (C2.out.on k3)
            clear k3 x0 x1 x2
            by_cases hte : t = nmT k
            · subst hte
              have c0 := C3.out.box.c0; have c1 := C3.out.box.c1; have f0 := C3.out.box.f0
              have hsz := nm_size k hlt
              have hM30 : M.length + 1 ≤ 1000000 := by have := HO.out.len; omega
              have HAd := Lib.hid (show D = none ∨ ∃ g, D = some ⟨g, 0, none⟩ from C3.out.img.names.addr.imp id (fun ⟨g, hg, _⟩ => ⟨g, hg⟩))
              have hs3 := C3.out.size
              have hlm : (M ++ [(⟨nmT k, 10 - (k : Int)⟩ : Nm)]).length = M.length + 1 := by rw [List.length_append]; rfl
              have hstr : ∀ x ∈ M ++ [(⟨nmT k, 10 - (k : Int)⟩ : Nm)], x.name.size ≤ maxLen := fun x hx => by
                rcases List.mem_append.1 hx with hx | hx
                · exact C3.out.img.str x hx
                · rw [List.mem_singleton] at hx; subst hx; unfold maxLen; show (nmT k).size ≤ _; omega
              have HStr := Lib.hid hstr; have HLM := Lib.hid hlm
              clear hstr hlm
              obtain ⟨y, hy⟩ : ∃ y : Int, 10 - (k : Int) = y := ⟨_, rfl⟩
              rw [hy] at HStr HLM
              have HY := Lib.hid hy
              clear hsz
              go_upto_region 11 with (first | (with_reducible refine st_oneE tyN rfl (.tmp 39) rfl (⟨nmT k, y⟩ : Nm) rfl ?_; intro vb w4 hvb r4 k4; have R4 := Lib.hid r4; have K4 := Lib.hid k4; have HV4 := Lib.hid hvb; clear r4 k4 hvb) | (at_builtin; refine st_catE tyN rfl _ _ rfl (w.heap.size + 2) (.slice D M.length d) M rfl (C3.out.on K4.out).img.names (some ⟨vb, 0, none⟩) 1 1 [(⟨nmT k, y⟩ : Nm)] rfl (sl_one (E := elN) R4.out) hM30 (Nat.le_trans hs3 K4.out.size) (M ++ [(⟨nmT k, y⟩ : Nm)]) (M.length + 1) rfl HLM.out ?_; intro G g' w5 q5 o5 s5; have Q5 := Lib.hid q5; have O5 := Lib.hid (own_only HAd.out o5); have HS5 := Lib.hid s5; clear q5 o5 s5; obtain ⟨bx5, XN⟩ := (C3.out.on K4.out).names Q5.out HLM.out O5.out (fun g hg => (HS5.out g hg).imp (own_src HAd.out) id) HStr.out; clear c0 c1 f0; have c0 := bx5.c0; have f0 := bx5.f0; obtain ⟨W5, hW5⟩ : ∃ W5, w5.setCell ⟨w.heap.size + 1, 0, none⟩ (.slice G (M.length + 1) g') = W5 := ⟨_, rfl⟩; rw [hW5] at XN; have C5 := Lib.hid XN; clear XN bx5))
              have qq1 := fun u : Wb W5 => (C5.out.on u.k).box.c1
              have qx1 := fun u : Wb W5 => (HX.out _ (C5.out.below.trans (u.k.mono C5.out.below.size))).2.1
              have qx2 := fun u : Wb W5 => (HX.out _ (C5.out.below.trans (u.k.mono C5.out.below.size))).2.2
              have HB5 := Lib.hid (HOx.out.on (C5.out.below.trans ((Below.refl W5.heap.size W5).drew.mono C5.out.below.size)))
              have Kd := Lib.hid (show Below W5.heap.size W5 W5.drew from (Below.refl _ _).drew)
              have hY30 : 1 + Y.length ≤ 1000000 := by have := (good_lens HO.out.good).2; omega
              have hs5 := C5.out.size
              clear c0 f0 hW5 hM30 hs3
              refine wp_region_p (fun w' => ∃ u : Wb W5, w' = u.v) 19 [(0, 13), (16, 2)] [(13, 3), (18, 1)] _ (by kernel_rfl) rfl (by kernel_rfl) (by kernel_rfl) (by kernel_rfl) ⟨⟨W5.drew, Kd.out⟩, rfl⟩ ?_
              simp only [pieces, List.flatMap_cons, List.flatMap_nil, List.take_succ_cons, List.take_zero, List.drop_succ_cons, List.drop_zero, List.append_nil, List.cons_append, List.nil_append]
              repeat (go_big_quiet_step (fail))
              refine wpQuiet_nil ?_
              clear qq1 qx1 qx2
              refine tail_cons ?_
              go_wp2_with (go_at_call 24; refine (content_any xA xn xc xL xs _ HB5.out.sl HB5.out.bk hs0).mono ?_; rintro e w6 ⟨s, F, f, L, he, hmay, hL30, hm6, k6⟩; obtain rfl : e = .returned (.agg #[.int .i64 s, .slice F L.length f]) := he; have K6 := Lib.hid (Kd.out.trans (k6.mono Kd.out.size)); have HM6 := Lib.hid hm6; have HL := Lib.hid (And.intro hmay hL30); clear k6 hm6 hmay hL30)
              refine tail_done ⟨⟨⟨w6, K6.out⟩, rfl⟩, tail_cons ?_⟩
              go_wp2
              refine tail_done ⟨⟨⟨w6, K6.out⟩, rfl⟩, tail_cons ?_⟩
              go_wp2_with (with_reducible refine st_oneE tyZ rfl (.tmp 57) rfl (⟨y, s, F, L.length, f, L⟩ : Nz) rfl ?_; intro ub w7 hub r7 k7; have R7 := Lib.hid r7; have K67 := Lib.hid k7; have K7 := Lib.hid (K6.out.trans (k7.mono K6.out.size)); have HU := Lib.hid hub; clear r7 k7 hub)
              refine tail_done ⟨⟨⟨w7, K7.out⟩, rfl⟩, tail_cons ?_⟩
              have hub : w.heap.size + 2 ≤ ub := by have := HU.out; have := K6.out.size; omega
              have hs7 : w.heap.size + 2 ≤ w7.heap.size := Nat.le_trans hs5 K7.out.size
              go_wp2_with (at_builtin; refine st_catE tyZ rfl _ _ rfl (w.heap.size + 2) (.slice (some ⟨ub, 0, none⟩) 1 1) [(⟨y, s, F, L.length, f, L⟩ : Nz)] rfl (own_one (E := elZ) hub R7.out) D' Y.length d' Y rfl (C5.out.on K7.out).img.nodes.sl' hY30 hs7 ((⟨y, s, F, L.length, f, L⟩ : Nz) :: Y) (Y.length + 1) rfl rfl ?_; intro G2 g2 w8 q8 o8 s8; have Q8 := Lib.hid q8; have O8 := Lib.hid o8; have HS8 := Lib.hid s8; clear q8 o8 s8)
              have HUe := Lib.hid (fun (x : Nat) (h : (Value.slice (some ⟨ub, 0, none⟩) 1 1).ownBlock = some x) => (show ub = x from Option.some.inj h))
              have K78 := Lib.hid (show Below w6.heap.size w7 w8 from O8.out.below K67.out.size (fun x hx => by have := HUe.out x hx; have := HU.out; omega))
              have K8 := Lib.hid (K7.out.trans (K78.out.mono K6.out.size))
              refine tail_done ⟨⟨⟨w8, K8.out⟩, rfl⟩, tail_end ?_⟩
              have hG2 : ∀ g, G2 = some ⟨g, 0, none⟩ → w6.heap.size ≤ g := fun g hg => by
                rcases HS8.out g hg with h1 | h1
                · have := HUe.out g h1; have := HU.out; omega
                · exact Nat.le_trans K67.out.size h1
              obtain ⟨bx8, XN⟩ := C5.out.nodes Q8.out rfl K8.out (fun g hg => Nat.le_trans K6.out.size (hG2 g hg)) (HM6.out.exts.on (K67.out.trans K78.out)) (fun g p he => (HM6.out.own g p he).1) (fun g p _ he hG => by have := hG2 g hG; have := (HM6.out.own g p he).2.1; omega)
              have C8 := Lib.hid XN
              have c1 := bx8.c1; have f1 := bx8.f1
              have HO8 := Lib.hid (HO.out.push hlt HL.out.1 HL.out.2 (A := F) (n := L.length) (c := f))
              rw [HY.out] at HO8
              clear bx8 XN
              go_wp2
              refine tail_done ?_
              go_wp2
              go_roundw
              case rel => exact ⟨k + 1, _, _, _, _, _, _, by omega, by go_num, HO8.out, C8.out⟩
              case measure => simp [intOf]; omega
            · have hne : (t.toList == (nmT k).toList) = false := beq_eq_false_iff_ne.2 (fun h => hte (toList_inj h))
              go_wp2
              go_roundw
              case rel => exact ⟨i + 1, by omega, by omega, by go_num, C3.out⟩
              case measure => simp [intOf]; omega
          · have hi2i : ¬ (i : Int) < 12 := by omega
            have hini : (i : Int) < (n : Int) := by omega
            go_wp2
            go_roundw
            case rel => exact ⟨k + 1, _, _, _, _, _, _, by omega, by go_num, HO.out.next, C2.out⟩
            case measure => simp [intOf]; omega
        · have hini : ¬ (i : Int) < (n : Int) := by omega
          go_wp2
          go_roundw
          case rel => exact ⟨k + 1, _, _, _, _, _, _, by omega, by go_num, HO.out.next, C2.out⟩
          case measure => simp [intOf]; omega
    · have hk6 : k = 6 := by omega
      have hki : ¬ (k : Int) < 6 := by omega
      have c0 := C.out.box.c0; have c1 := C.out.box.c1; have d0 := C.out.res.c0; have d1 := C.out.res.c1; have e0 := C.out.res.f0; have e1 := C.out.res.f1
      have HO6 := Lib.hid (show Ok 6 M Y by have := HO.out; rwa [hk6] at this)
      clear hk6
      go_wp2
      have X := C.out.res.put D M.length d D' Y.length d'
      exact res_ibox rfl w.heap.size _ _ _ _ _ _ rfl X rfl ⟨D, d, D', d', M, Y, rfl, HO6.out, (C.out.img.keep (only_set2 _ w.heap.size (.slice D M.length d) (.slice D' Y.length d')) (fun g hg he => by have := (C.out.img.lt hg).1; omega) (fun z hz hn g p he h2 => by have := C.out.off z hz hn g p he; omega)).mono (by omega), below_put C.out.below _ (Nat.le_refl _) _ _⟩
end Go.Proofs.Ytgaaieipeiekiaa

namespace Go.Proofs.Ytgaaieipeiekiaa
open Go.RowKit
set_option maxRecDepth 100000

/-- A change by small numbers. -/
structure Lo where
  kind : Int
  name : Int
  to : Int
  ino : Int
  pos : Int
  n : Int
  keep : Bool
deriving Inhabited
def lcl (x : Lo) : List Value := [.int .u8 x.kind, .int .u8 x.name, .int .u8 x.to, .int .u8 x.ino, .int .u16 x.pos, .int .u16 x.n, .bool x.keep]
def lv (x : Lo) : Value := .agg #[.int .u8 x.kind, .int .u8 x.name, .int .u8 x.to, .int .u8 x.ino, .int .u16 x.pos, .int .u16 x.n, .bool x.keep]
def elQ : El Lo := ⟨43, 7, lcl, fun _ => rfl, fun x v h => by simp [lcl] at h; rcases h with rfl | rfl | rfl | rfl | rfl | rfl | rfl <;> rfl, by decide⟩
structure Lo.ok (x : Lo) : Prop where
  kind : 0 ≤ x.kind ∧ x.kind ≤ 255
  name : 0 ≤ x.name ∧ x.name ≤ 255
  to : 0 ≤ x.to ∧ x.to ≤ 255
  ino : 0 ≤ x.ino ∧ x.ino ≤ 255
  pos : 0 ≤ x.pos ∧ x.pos ≤ 65535
  n : 0 ≤ x.n ∧ x.n ≤ 65535
/-- A made change. -/
def OpPost (w : World) (e : Ending) (w' : World) : Prop := ∃ o BA cb, e = .returned (ov o BA cb) ∧ OpIn w' o BA cb ∧ Small o ∧ Op9 o ∧ (∀ g p, BA = some ⟨g, p, none⟩ → w.heap.size ≤ g) ∧ Below w.heap.size w w'
theorem res_obox {fn : Func} {p : Tmp} (h : fn.results = #[.cell p 29]) {R : Ending → World → Prop} {a : Act} {w : World} (b : Nat) (o : Opv) (BA : Option Addr) (cb : Nat)
    (hp : a.tmps.getD p undef = .pointer (some ⟨b, 0, none⟩)) (hb : OBox w b o BA cb) (hdf : a.defers = []) (hR : R (.returned (ov o BA cb)) w) : bodyPost Try.prog fn R .ret a w :=
  bodyPost_ret (results_cell_row h a.tmps w b 29 _ (0, 0) _ hp hb Try.underlying29 rfl (by show _ = some 8; kernel_rfl)) hdf hR
def o0 : Opv := ⟨0, 0, 0, 0, false, ⟨#[]⟩, ⟨#[]⟩, []⟩
def oset (w : World) (b : Nat) (o : Opv) (BA : Option Addr) (cb : Nat) : World :=
  (((((((w.setCell ⟨b, 0, none⟩ (.int .i64 o.kind)).setCell ⟨b, 1, none⟩ (.int .i64 o.ino)).setCell ⟨b, 2, none⟩ (.int .i64 o.pos)).setCell ⟨b, 3, none⟩ (.int .i64 o.size)).setCell ⟨b, 4, none⟩ (.bool o.keep)).setCell ⟨b, 5, none⟩ (.string o.name)).setCell ⟨b, 6, none⟩ (.string o.to)).setCell ⟨b, 7, none⟩ (.slice BA o.bs.length cb)
theorem row_set {w : World} {b : Nat} {t : TypeId} {l : List Value} (h : Row w b t l.toArray) (k : Nat) (x : Value) : Row (w.setCell ⟨b, k, none⟩ x) b t (l.set k x).toArray := by
  have := h.setv k x
  simpa using this
theorem obox_put {w : World} {b : Nat} {p : Opv} {BA' : Option Addr} {cb' : Nat} (h : OBox w b p BA' cb') (o : Opv) (BA : Option Addr) (cb : Nat) : OBox (oset w b o BA cb) b o BA cb := by
  have h0 : Row w b 29 ([.int .i64 p.kind, .int .i64 p.ino, .int .i64 p.pos, .int .i64 p.size, .bool p.keep, .string p.name, .string p.to, .slice BA' p.bs.length cb'] : List Value).toArray := h
  have h1 := row_set h0 0 (.int .i64 o.kind)
  have h2 := row_set h1 1 (.int .i64 o.ino)
  have h3 := row_set h2 2 (.int .i64 o.pos)
  have h4 := row_set h3 3 (.int .i64 o.size)
  have h5 := row_set h4 4 (.bool o.keep)
  have h6 := row_set h5 5 (.string o.name)
  have h7 := row_set h6 6 (.string o.to)
  have h8 := row_set h7 7 (.slice BA o.bs.length cb)
  simp only [List.set_cons_zero, List.set_cons_succ] at h8
  exact h8
theorem oset_only (w : World) (b : Nat) (o : Opv) (BA : Option Addr) (cb : Nat) : Only (fun d => d = b) w (oset w b o BA cb) := by
  unfold oset
  have e : ∀ {v : World} (_ : Only (fun d => d = b) w v) (k : Nat) (x : Value), Only (fun d => d = b) w (v.setCell ⟨b, k, none⟩ x) := fun h k x => h.setCell ⟨b, k, none⟩ (fun _ => rfl) x
  exact e (e (e (e (e (e (e (e (Only.refl _ w) 0 _) 1 _) 2 _) 3 _) 4 _) 5 _) 6 _) 7 _
theorem oset_below {B : Nat} {w w' : World} (h : Below B w w') (b : Nat) (hb : B ≤ b) (hw : B ≤ w'.heap.size) (o : Opv) (BA : Option Addr) (cb : Nat) : Below B w (oset w' b o BA cb) :=
  h.trans ((oset_only w' b o BA cb).below hw (fun d hd => by omega))

set_option maxHeartbeats 8000000 in
theorem op_any (x : Lo) (w : World) (hx : x.ok) : Calls Try.prog 12 #[lv x] w (OpPost w) := by
  obtain ⟨kind, name, to, ino, pos, n, keep⟩ := x
  obtain ⟨⟨k0, k1⟩, ⟨n0, n1⟩, ⟨t0, t1⟩, ⟨i0, i1⟩, ⟨p0, p1⟩, m0, m1⟩ := hx
  simp only at k0 k1 n0 n1 t0 t1 i0 i1 p0 p1 m0 m1
  obtain ⟨W, hW⟩ : ∃ W, (w.alloc (.cells #[.int .u8 kind, .int .u8 name, .int .u8 to, .int .u8 ino, .int .u16 pos, .int .u16 n, .bool keep] 43)).alloc (.cells #[.int .i64 0, .int .i64 0, .int .i64 0, .int .i64 0, .bool false, .string ⟨#[]⟩, .string ⟨#[]⟩, .slice none 0 0] 29) = W := ⟨_, rfl⟩
  have KW := Lib.hid (show Below w.heap.size w W by rw [← hW]; exact ((Below.refl _ _).alloc (Nat.le_refl _) _).alloc (by simp) _)
  have B0 := Lib.hid (show Row W w.heap.size 43 #[.int .u8 kind, .int .u8 name, .int .u8 to, .int .u8 ino, .int .u16 pos, .int .u16 n, .bool keep] by rw [← hW]; exact (Row.new w 43 _).on ((Below.refl _ _).alloc (Nat.le_refl _) _))
  have R0 := Lib.hid (show OBox W (w.heap.size + 1) o0 none 0 by
    rw [← hW]
    have := obox_new (w.alloc (.cells #[.int .u8 kind, .int .u8 name, .int .u8 to, .int .u8 ino, .int .u16 pos, .int .u16 n, .bool keep] 43)) o0 none 0
    simpa [o0] using this)
  have HS := Lib.hid (show w.heap.size + 2 ≤ W.heap.size by rw [← hW]; simp)
  have HW := Lib.hid hW
  clear hW
  obtain ⟨kd, hkd, kd0, kd1⟩ : ∃ r : Int, kind.tmod 9 = r ∧ 0 ≤ r ∧ r < 9 := ⟨_, rfl, by rw [Int.tmod_eq_emod_of_nonneg k0]; omega, by rw [Int.tmod_eq_emod_of_nonneg k0]; omega⟩
  obtain ⟨io, hio, io0, io1⟩ : ∃ r : Int, ino.tmod 14 = r ∧ 0 ≤ r ∧ r < 14 := ⟨_, rfl, by rw [Int.tmod_eq_emod_of_nonneg i0]; omega, by rw [Int.tmod_eq_emod_of_nonneg i0]; omega⟩
  obtain ⟨po, hpo, po0, po1⟩ : ∃ r : Int, pos.tmod 200 = r ∧ 0 ≤ r ∧ r < 200 := ⟨_, rfl, by rw [Int.tmod_eq_emod_of_nonneg p0]; omega, by rw [Int.tmod_eq_emod_of_nonneg p0]; omega⟩
  obtain ⟨sz, hsz, sz0, sz1⟩ : ∃ r : Int, n.tmod 200 = r ∧ 0 ≤ r ∧ r < 200 := ⟨_, rfl, by rw [Int.tmod_eq_emod_of_nonneg m0]; omega, by rw [Int.tmod_eq_emod_of_nonneg m0]; omega⟩
  obtain ⟨nb, hnb, nb1⟩ : ∃ r : Nat, n.tmod 40 = (r : Int) ∧ r < 40 := ⟨(n.tmod 40).toNat, by rw [Int.tmod_eq_emod_of_nonneg m0]; omega, by rw [Int.tmod_eq_emod_of_nonneg m0]; omega⟩
  show Calls Try.prog 12 #[.agg #[.int .u8 kind, .int .u8 name, .int .u8 to, .int .u8 ino, .int .u16 pos, .int .u16 n, .bool keep]] w _
  go_enter Try.func12, Try.ntmps12
  go_upto_region 1 with fail
  rw [HW.out]
  have q0 := fun u : Wb W => (B0.out.on u.k).at 0
  have q1 := fun u : Wb W => (B0.out.on u.k).at 1
  have q2 := fun u : Wb W => (B0.out.on u.k).at 2
  have q3 := fun u : Wb W => (B0.out.on u.k).at 3
  have q4 := fun u : Wb W => (B0.out.on u.k).at 4
  have q5 := fun u : Wb W => (B0.out.on u.k).at 5
  have q6 := fun u : Wb W => (B0.out.on u.k).at 6
  simp only [List.getElem?_toArray, List.getElem?_cons_zero, List.getElem?_cons_succ] at q0 q1 q2 q3 q4 q5 q6
  have Kd := Lib.hid (show Below W.heap.size W W.drew from (Below.refl _ _).drew)
  refine wp_region_p (fun w' => ∃ u : Wb W, w' = u.v) 32 [(0, 6), (7, 2), (10, 20)] [(6, 1), (9, 1), (30, 2)] _ (by kernel_rfl) rfl (by kernel_rfl) (by kernel_rfl) (by kernel_rfl) ⟨⟨W.drew, Kd.out⟩, rfl⟩ ?_
  simp only [pieces, List.flatMap_cons, List.flatMap_nil, List.take_succ_cons, List.take_zero, List.drop_succ_cons, List.drop_zero, List.append_nil, List.cons_append, List.nil_append]
  repeat (go_big_quiet_step (fail))
  refine wpQuiet_nil ?_
  clear q0 q1 q2 q3 q4 q5 q6
  refine tail_cons ?_
  go_wp2_with (go_at_call 25; refine (kname_any name _ n0).mono ?_; rintro e w1 ⟨s1, rfl, hs1, k1⟩; have K1 := Lib.hid (Kd.out.trans (k1.mono Kd.out.size)); have HS1 := Lib.hid hs1; clear k1 hs1)
  refine tail_done ⟨⟨⟨w1, K1.out⟩, rfl⟩, tail_cons ?_⟩
  go_wp2_with (go_at_call 25; refine (kname_any to _ t0).mono ?_; rintro e w2 ⟨s2, rfl, hs2, k2⟩; have K2 := Lib.hid (K1.out.trans (k2.mono K1.out.size)); have HS2 := Lib.hid hs2; clear k2 hs2)
  refine tail_done ⟨⟨⟨w2, K2.out⟩, rfl⟩, tail_cons ?_⟩
  go_wp2_with (go_at_call 26; refine (bytes_any ino nb _ i0 i1 (by omega)).mono ?_; rintro e w3 ⟨BA, cb, zs, rfl, hz, hzb, hzn, k3⟩; have K3 := Lib.hid (K2.out.trans (k3.mono K2.out.size)); have HZ := Lib.hid hz; have HZb := Lib.hid hzb; have HZn := Lib.hid hzn; have HK3 := Lib.hid k3; clear k3 hz hzb hzn)
  refine tail_done ⟨⟨⟨w3, K3.out⟩, rfl⟩, tail_cons ?_⟩
  go_wp2
  refine tail_done ⟨⟨⟨w3, K3.out⟩, rfl⟩, tail_end ?_⟩
  have R3 := Lib.hid (R0.out.on K3.out)
  have r0 := R3.out.c0; have r1 := R3.out.c1; have r2 := R3.out.c2; have r3 := R3.out.c3; have r4 := R3.out.c4; have r5 := R3.out.c5; have r6 := R3.out.c6; have r7 := R3.out.c7
  have f0 := Row.free R3.out 0; have f1 := Row.free R3.out 1; have f2 := Row.free R3.out 2; have f3 := Row.free R3.out 3; have f4 := Row.free R3.out 4; have f5 := Row.free R3.out 5; have f6 := Row.free R3.out 6; have f7 := Row.free R3.out 7
  simp only [o0, List.length_nil] at r0 r1 r2 r3 r4 r5 r6 r7
  have hl : zs.length = nb := HZ.out.len
  have HLz := Lib.hid hl
  clear hl
  go_wp2
  refine tail_done ?_
  go_wp2
  have X := obox_put R3.out ⟨kd, io, po, sz, keep, s1, s2, zs⟩ BA cb
  have hS := HS.out
  have hK := K3.out.size
  have hl := HLz.out
  have hO := oset_only w3 (w.heap.size + 1) ⟨kd, io, po, sz, keep, s1, s2, zs⟩ BA cb
  have hB := oset_below (KW.out.trans (K3.out.mono KW.out.size)) (w.heap.size + 1) (Nat.le_add_right _ _) (by omega) ⟨kd, io, po, sz, keep, s1, s2, zs⟩ BA cb
  unfold oset at X hO hB
  simp only [hl] at X hO hB
  refine res_obox rfl (w.heap.size + 1) ⟨kd, io, po, sz, keep, s1, s2, zs⟩ BA cb rfl X rfl ⟨_, BA, cb, rfl, ⟨?_, HZb.out, ?_, ?_⟩, ⟨?_, ?_⟩, ⟨?_, ?_⟩, fun g p he => Nat.le_trans (Nat.le_trans KW.out.size K2.out.size) (HZn.out g p he), hB⟩
  · show Nums .u8 _ BA zs.length cb zs
    rw [hl]
    exact HZ.out.only hO (fun g o hg _ hd => by have := HZn.out g o hg; have := K2.out.size; omega)
  · show s1.size ≤ maxLen
    have := HS1.out; unfold maxLen; omega
  · show s2.size ≤ maxLen
    have := HS2.out; unfold maxLen; omega
  · show zs.length ≤ 100
    omega
  · show sz ≤ 400 ∨ 32768 < sz
    omega
  · show -9223372036854775808 ≤ po ∧ po ≤ 9223372036854775807
    omega
  · show -9223372036854775808 ≤ sz ∧ sz ≤ 9223372036854775807
    omega
end Go.Proofs.Ytgaaieipeiekiaa
