/- Names, files and images in memory: read, and of one's own. / Rows of structs of one's own: joined, made, copied, cleared, cut; of any kind of elements. -/
import Derived.Test.YtgaaieipeiekiaaGreatPkF
import Derived.Test.YtgaaieipeiekiaaGreatPkG
import Derived.Maps.AppendAt
import Derived.Lib.AppendZerosOnto
import Derived.Lib.Overlaps
import Derived.Laws.CopyRow
import Derived.Laws.CopyOwn
import Derived.OwnWalk
import Derived.WalkKit
import Derived.Lib.Hide
namespace Go.Proofs.YtgaaieipeiekiaaGreat
open Go.RowKit
set_option maxRecDepth 100000

def ncl (x : Nm) : List Value := [.string x.name, .int .i64 x.ino]
/-- A file as it lies: its cells, and what its blocks are. -/
structure Nz where
  ino : Int
  s : Int
  A : Option Addr
  n : Nat
  c : Nat
  L : List Ex
deriving Inhabited
def Nz.d (z : Nz) : Nd := ⟨z.ino, z.s, z.L⟩
def zcl (z : Nz) : List Value := [.int .i64 z.ino, .int .i64 z.s, .slice z.A z.n z.c]
def elN : El Nm := ⟨62, 2, ncl, fun _ => rfl, fun x v h => by simp [ncl] at h; rcases h with rfl | rfl <;> rfl, by decide⟩
def elZ : El Nz := ⟨59, 3, zcl, fun _ => rfl, fun x v h => by simp [zcl] at h; rcases h with rfl | rfl | rfl <;> rfl, by decide⟩
abbrev Nms := Sl elN
abbrev Nds := Sl elZ
theorem Nms.at {w : World} {b o n c : Nat} {N : List Nm} (h : Nms w (some ⟨b, o, none⟩) n c N) (j : Nat) (hj : j < n) : w.cell? ⟨b, o + j * 2, none⟩ = some (.string (N.getD j default).name) ∧ w.cell? ⟨b, o + j * 2 + 1, none⟩ = some (.int .i64 (N.getD j default).ino) := by
  obtain ⟨b', o', he, _, hc⟩ := h.cells (by omega)
  injection he with he; injection he with e1 e2; subst e1 e2
  exact ⟨hc j hj 0 _ rfl, hc j hj 1 _ rfl⟩
theorem Nds.at {w : World} {b o n c : Nat} {Z : List Nz} (h : Nds w (some ⟨b, o, none⟩) n c Z) (j : Nat) (hj : j < n) : w.cell? ⟨b, o + j * 3, none⟩ = some (.int .i64 (Z.getD j default).ino) ∧ w.cell? ⟨b, o + j * 3 + 1, none⟩ = some (.int .i64 (Z.getD j default).s) ∧ w.cell? ⟨b, o + j * 3 + 2, none⟩ = some (.slice (Z.getD j default).A (Z.getD j default).n (Z.getD j default).c) := by
  obtain ⟨b', o', he, _, hc⟩ := h.cells (by omega)
  injection he with he; injection he with e1 e2; subst e1 e2
  exact ⟨hc j hj 0 _ rfl, hc j hj 1 _ rfl, hc j hj 2 _ rfl⟩
/-- A name's, a file's, an image's variable. -/
def NBox (w : World) (b : Nat) (s : ByteArray) (k : Int) : Prop := Row w b 62 #[.string s, .int .i64 k]
def ZBox (w : World) (b : Nat) (k s : Int) (A : Option Addr) (n c : Nat) : Prop := Row w b 59 #[.int .i64 k, .int .i64 s, .slice A n c]
def iv (A : Option Addr) (n c : Nat) (A' : Option Addr) (n' c' : Nat) : Value := .agg #[.slice A n c, .slice A' n' c']
def IBox (w : World) (b : Nat) (A : Option Addr) (n c : Nat) (A' : Option Addr) (n' c' : Nat) : Prop := Row w b 25 #[.slice A n c, .slice A' n' c']
theorem NBox.on {w w' : World} {b : Nat} {s : ByteArray} {k : Int} (h : NBox w b s k) (hb : Below w.heap.size w w') : NBox w' b s k := Row.on h hb
theorem NBox.c0 {w : World} {b : Nat} {s : ByteArray} {k : Int} (h : NBox w b s k) : w.cell? ⟨b, 0, none⟩ = some (.string s) := by rw [Row.at h]; rfl
theorem NBox.c1 {w : World} {b : Nat} {s : ByteArray} {k : Int} (h : NBox w b s k) : w.cell? ⟨b, 1, none⟩ = some (.int .i64 k) := by rw [Row.at h]; rfl
theorem ZBox.on {w w' : World} {b : Nat} {k s : Int} {A : Option Addr} {n c : Nat} (h : ZBox w b k s A n c) (hb : Below w.heap.size w w') : ZBox w' b k s A n c := Row.on h hb
theorem ZBox.c0 {w : World} {b : Nat} {k s : Int} {A : Option Addr} {n c : Nat} (h : ZBox w b k s A n c) : w.cell? ⟨b, 0, none⟩ = some (.int .i64 k) := by rw [Row.at h]; rfl
theorem ZBox.c1 {w : World} {b : Nat} {k s : Int} {A : Option Addr} {n c : Nat} (h : ZBox w b k s A n c) : w.cell? ⟨b, 1, none⟩ = some (.int .i64 s) := by rw [Row.at h]; rfl
theorem ZBox.c2 {w : World} {b : Nat} {k s : Int} {A : Option Addr} {n c : Nat} (h : ZBox w b k s A n c) : w.cell? ⟨b, 2, none⟩ = some (.slice A n c) := by rw [Row.at h]; rfl
theorem IBox.on {w w' : World} {b : Nat} {A : Option Addr} {n c : Nat} {A' : Option Addr} {n' c' : Nat} (h : IBox w b A n c A' n' c') (hb : Below w.heap.size w w') : IBox w' b A n c A' n' c' := Row.on h hb
theorem IBox.c0 {w : World} {b : Nat} {A : Option Addr} {n c : Nat} {A' : Option Addr} {n' c' : Nat} (h : IBox w b A n c A' n' c') : w.cell? ⟨b, 0, none⟩ = some (.slice A n c) := by rw [Row.at h]; rfl
theorem IBox.c1 {w : World} {b : Nat} {A : Option Addr} {n c : Nat} {A' : Option Addr} {n' c' : Nat} (h : IBox w b A n c A' n' c') : w.cell? ⟨b, 1, none⟩ = some (.slice A' n' c') := by rw [Row.at h]; rfl
theorem IBox.f0 {w : World} {b : Nat} {A : Option Addr} {n c : Nat} {A' : Option Addr} {n' c' : Nat} (h : IBox w b A n c A' n' c') : w.frozen? ⟨b, 0, none⟩ = false := Row.free h 0
theorem IBox.f1 {w : World} {b : Nat} {A : Option Addr} {n c : Nat} {A' : Option Addr} {n' c' : Nat} (h : IBox w b A n c A' n' c') : w.frozen? ⟨b, 1, none⟩ = false := Row.free h 1
theorem IBox.lt {w : World} {b : Nat} {A : Option Addr} {n c : Nat} {A' : Option Addr} {n' c' : Nat} (h : IBox w b A n c A' n' c') : b < w.heap.size := Row.lt h
theorem nbox_new (w : World) (s : ByteArray) (k : Int) : NBox (w.alloc (.cells #[.string s, .int .i64 k] 62)) w.heap.size s k := Row.new w 62 _
theorem zbox_new (w : World) (k s : Int) (A : Option Addr) (n c : Nat) : ZBox (w.alloc (.cells #[.int .i64 k, .int .i64 s, .slice A n c] 59)) w.heap.size k s A n c := Row.new w 59 _
theorem ibox_new (w : World) (A : Option Addr) (n c : Nat) (A' : Option Addr) (n' c' : Nat) : IBox (w.alloc (.cells #[.slice A n c, .slice A' n' c'] 25)) w.heap.size A n c A' n' c' := Row.new w 25 _
theorem IBox.put {w : World} {b : Nat} {A : Option Addr} {n c : Nat} {A' : Option Addr} {n' c' : Nat} (h : IBox w b A n c A' n' c') (B : Option Addr) (m d : Nat) (B' : Option Addr) (m' d' : Nat) : IBox ((w.setCell ⟨b, 0, none⟩ (.slice B m d)).setCell ⟨b, 1, none⟩ (.slice B' m' d')) b B m d B' m' d' := by
  have := (Row.setv h 0 (.slice B m d)).setv 1 (.slice B' m' d')
  exact this

/-- An image that is read. -/
structure Im (w : World) (A : Option Addr) (n c : Nat) (A' : Option Addr) (n' c' : Nat) (N : List Nm) (Z : List Nz) : Prop where
  names : Nms w A n c N
  nodes : Nds w A' n' c' Z
  exts : ∀ z ∈ Z, Exts w z.A z.n z.c z.L
  str : ∀ x ∈ N, x.name.size ≤ maxLen
theorem Im.on {w w' : World} {A : Option Addr} {n c : Nat} {A' : Option Addr} {n' c' : Nat} {N : List Nm} {Z : List Nz} (h : Im w A n c A' n' c' N Z) (hb : Below w.heap.size w w') : Im w' A n c A' n' c' N Z :=
  ⟨h.names.on hb, h.nodes.on hb, fun z hz => (h.exts z hz).on hb, h.str⟩
theorem im_nil (w : World) : Im w none 0 0 none 0 0 [] [] := ⟨sl_nil w, sl_nil w, by simp, by simp⟩
def ig (N : List Nm) (Z : List Nz) : Ig := ⟨N, Z.map Nz.d⟩
theorem map_d_get (Z : List Nz) (j : Nat) (hj : j < Z.length) : (Z.map Nz.d).getD j default = (Z.getD j default).d := by
  rw [List.getD_eq_getElem?_getD, List.getD_eq_getElem?_getD, List.getElem?_map, List.getElem?_eq_getElem hj]; rfl
/-- The blocks that may change: the rows of names and of files. -/
def S2 (A A' : Option Addr) (d : Nat) : Prop := A = some ⟨d, 0, none⟩ ∨ A' = some ⟨d, 0, none⟩
/-- An image of one's own. -/
structure Img (B : Nat) (w : World) (A : Option Addr) (c : Nat) (A' : Option Addr) (c' : Nat) (N : List Nm) (Z : List Nz) : Prop where
  names : OwnS elN B w (.slice A N.length c) N
  nodes : OwnS elZ B w (.slice A' Z.length c') Z
  exts : ∀ z ∈ Z, Exts w z.A z.n z.c z.L
  apart : ∀ z ∈ Z, 0 < z.n → ∀ g o, z.A = some ⟨g, o, none⟩ → ¬ S2 A A' g
  str : ∀ x ∈ N, x.name.size ≤ maxLen
theorem OwnS.addr {α : Type} {E : El α} {B : Nat} {w : World} {A : Option Addr} {n c : Nat} {L : List α} (h : OwnS E B w (.slice A n c) L) : A = none ∨ ∃ g, A = some ⟨g, 0, none⟩ ∧ B ≤ g ∧ g < w.heap.size := by
  obtain ⟨_, ⟨h0, _⟩ | ⟨g, cur, he, hB, hg, _⟩⟩ := h.open
  · exact .inl h0
  · exact .inr ⟨g, he, hB, hg.lt⟩
theorem OwnS.sl' {α : Type} [Inhabited α] {E : El α} {B : Nat} {w : World} {A : Option Addr} {n c : Nat} {L : List α} (h : OwnS E B w (.slice A n c) L) : Sl E w A n c L := by
  obtain ⟨A2, c2, he, hs, _⟩ := h.sl
  injection he with e1 e2 e3
  subst e1 e2 e3
  exact hs
theorem Img.im {B : Nat} {w : World} {A : Option Addr} {c : Nat} {A' : Option Addr} {c' : Nat} {N : List Nm} {Z : List Nz} (h : Img B w A c A' c' N Z) : Im w A N.length c A' Z.length c' N Z :=
  ⟨h.names.sl', h.nodes.sl', h.exts, h.str⟩
theorem Img.on {B : Nat} {w w' : World} {A : Option Addr} {c : Nat} {A' : Option Addr} {c' : Nat} {N : List Nm} {Z : List Nz} (h : Img B w A c A' c' N Z) (hb : Below w.heap.size w w') : Img B w' A c A' c' N Z :=
  ⟨h.names.on hb, h.nodes.on hb, fun z hz => (h.exts z hz).on hb, h.apart, h.str⟩
theorem Img.mono {B B' : Nat} {w : World} {A : Option Addr} {c : Nat} {A' : Option Addr} {c' : Nat} {N : List Nm} {Z : List Nz} (h : Img B w A c A' c' N Z) (hB : B' ≤ B) : Img B' w A c A' c' N Z :=
  ⟨h.names.mono hB, h.nodes.mono hB, h.exts, h.apart, h.str⟩
theorem Img.lt {B : Nat} {w : World} {A : Option Addr} {c : Nat} {A' : Option Addr} {c' : Nat} {N : List Nm} {Z : List Nz} (h : Img B w A c A' c' N Z) {d : Nat} (hd : S2 A A' d) : B ≤ d ∧ d < w.heap.size := by
  rcases hd with hd | hd
  · rcases h.names.addr with h0 | ⟨g, he, h1, h2⟩
    · rw [h0] at hd; cases hd
    · rw [he] at hd; injection hd with hd; injection hd with hd; subst hd; exact ⟨h1, h2⟩
  · rcases h.nodes.addr with h0 | ⟨g, he, h1, h2⟩
    · rw [h0] at hd; cases hd
    · rw [he] at hd; injection hd with hd; injection hd with hd; subst hd; exact ⟨h1, h2⟩
/-- The rows lie apart from a block of another type. -/
theorem Img.ne {B : Nat} {w : World} {A : Option Addr} {c : Nat} {A' : Option Addr} {c' : Nat} {N : List Nm} {Z : List Nz} (h : Img B w A c A' c' N Z) {b : Nat} {t : TypeId} {cs : Array Value} (hr : Row w b t cs) (h1 : t ≠ 62) (h2 : t ≠ 59) : ¬ S2 A A' b := by
  rintro (hd | hd)
  · exact h.names.ne hr h1 b 0 hd rfl
  · exact h.nodes.ne hr h2 b 0 hd rfl
/-- .. names apart from files. -/
theorem Img.two {B : Nat} {w : World} {A : Option Addr} {c : Nat} {A' : Option Addr} {c' : Nat} {N : List Nm} {Z : List Nz} (h : Img B w A c A' c' N Z) {g : Nat} (h1 : A = some ⟨g, 0, none⟩) : A' ≠ some ⟨g, 0, none⟩ := by
  intro h2
  subst h1
  obtain ⟨_, ⟨h0, _⟩ | ⟨g', cur, he, _, hg, _⟩⟩ := h.names.open
  · cases h0
  · injection he with he; injection he with he; subst he
    exact h.nodes.ne hg (by decide) g 0 h2 rfl
/-- Another image of one's own is made of one: which blocks changed, which are new. -/
structure Next (B : Nat) (w w' : World) (A A' : Option Addr) (D : Option Addr) (d : Nat) (D' : Option Addr) (d' : Nat) (N : List Nm) (Z : List Nz) : Prop where
  img : Img B w' D d D' d' N Z
  only : Only (S2 A A') w w'
  src : ∀ g, S2 D D' g → S2 A A' g ∨ w.heap.size ≤ g
theorem Next.self {B : Nat} {w w' : World} {A : Option Addr} {c : Nat} {A' : Option Addr} {c' : Nat} {N : List Nm} {Z : List Nz} (h : Img B w A c A' c' N Z) (hb : Below w.heap.size w w') : Next B w w' A A' A c A' c' N Z :=
  ⟨h.on hb, Only.of_below hb, fun _ hg => .inl hg⟩
theorem Next.pre {B : Nat} {v w w' : World} {A A' D : Option Addr} {d : Nat} {D' : Option Addr} {d' : Nat} {N : List Nm} {Z : List Nz} (h : Next B w w' A A' D d D' d' N Z) (hb : Below v.heap.size v w) : Next B v w' A A' D d D' d' N Z :=
  ⟨h.img, (Only.of_below (S := S2 A A') hb).trans h.only (fun _ h _ => h), fun g hg => (h.src g hg).imp id (fun h => Nat.le_trans hb.size h)⟩
theorem Next.post {B : Nat} {w w' v : World} {A A' D : Option Addr} {d : Nat} {D' : Option Addr} {d' : Nat} {N : List Nm} {Z : List Nz} (h : Next B w w' A A' D d D' d' N Z) (hb : Below w'.heap.size w' v) : Next B w v A A' D d D' d' N Z :=
  ⟨h.img.on hb, h.only.trans (Only.of_below (S := fun _ => False) hb) (fun _ h => h.elim), h.src⟩
theorem Next.trans {B : Nat} {w w' w2 : World} {A A' D : Option Addr} {d : Nat} {D' : Option Addr} {d' : Nat} {N : List Nm} {Z : List Nz} {F : Option Addr} {f : Nat} {F' : Option Addr} {f' : Nat} {M : List Nm} {Y : List Nz} (h : Next B w w' A A' D d D' d' N Z) (k : Next B w' w2 D D' F f F' f' M Y) : Next B w w2 A A' F f F' f' M Y :=
  ⟨k.img, h.only.trans k.only (fun g hg hl => (h.src g hg).elim id (fun h => absurd hl (by omega))), fun g hg => (k.src g hg).elim (h.src g) (fun hl => .inr (Nat.le_trans h.only.size hl))⟩
theorem Next.below {B : Nat} {w w' : World} {A : Option Addr} {c : Nat} {A' : Option Addr} {c' : Nat} {N0 : List Nm} {Z0 : List Nz} {D : Option Addr} {d : Nat} {D' : Option Addr} {d' : Nat} {N : List Nm} {Z : List Nz} (h : Next B w w' A A' D d D' d' N Z) (h0 : Img B w A c A' c' N0 Z0) (hB : B ≤ w.heap.size) : Below B w w' :=
  h.only.below hB (fun _ hd => (h0.lt hd).1)
theorem Exts.lt {w : World} {g o n c : Nat} {L : List Ex} (h : Exts w (some ⟨g, o, none⟩) n c L) (hn : 0 < n) : g < w.heap.size := by
  obtain ⟨b, p, he, hl, _⟩ := h.cells hn
  injection he with he; injection he with e1 e2; subst e1; exact hl
/-- Other names. -/
theorem Img.setN {B : Nat} {w w' : World} {A : Option Addr} {c : Nat} {A' : Option Addr} {c' : Nat} {N : List Nm} {Z : List Nz} (h : Img B w A c A' c' N Z) {D : Option Addr} {m d : Nat} {R : List Nm} (q : OwnS elN B w' (.slice D m d) R) (hm : R.length = m) (o : Only (fun d => A = some ⟨d, 0, none⟩) w w') (s : ∀ g, D = some ⟨g, 0, none⟩ → A = some ⟨g, 0, none⟩ ∨ w.heap.size ≤ g) (hs : ∀ x ∈ R, x.name.size ≤ maxLen) : Next B w w' A A' D d A' c' R Z := by
  refine ⟨⟨by rw [hm]; exact q, h.nodes.only o (fun g hg hA => h.two hA hg), fun z hz => (h.exts z hz).only o (fun g p he hn hA => h.apart z hz hn g p he (.inl hA)), fun z hz hn g p he hS => ?_, hs⟩, o.mono (fun d hd => .inl hd), fun g hg => ?_⟩
  · rcases hS with hS | hS
    · rcases s g hS with h1 | h1
      · exact h.apart z hz hn g p he (.inl h1)
      · have := h.exts z hz; rw [he] at this; have := this.lt hn; omega
    · exact h.apart z hz hn g p he (.inr hS)
  · rcases hg with hg | hg
    · exact (s g hg).imp .inl id
    · exact .inl (.inr hg)
/-- Other files. -/
theorem Img.setZ {B : Nat} {w w' : World} {A : Option Addr} {c : Nat} {A' : Option Addr} {c' : Nat} {N : List Nm} {Z : List Nz} (h : Img B w A c A' c' N Z) {D : Option Addr} {m d : Nat} {R : List Nz} (q : OwnS elZ B w' (.slice D m d) R) (hm : R.length = m) (o : Only (fun d => A' = some ⟨d, 0, none⟩) w w') (s : ∀ g, D = some ⟨g, 0, none⟩ → A' = some ⟨g, 0, none⟩ ∨ w.heap.size ≤ g) (hR : ∀ z ∈ R, z ∈ Z ∨ (z.n = 0 ∧ Exts w' z.A z.n z.c z.L)) : Next B w w' A A' A c D d N R := by
  refine ⟨⟨h.names.only o (fun g hg hA => h.two hg hA), by rw [hm]; exact q, fun z hz => ?_, fun z hz hn g p he hS => ?_, h.str⟩, o.mono (fun d hd => .inr hd), fun g hg => ?_⟩
  · rcases hR z hz with hz | hz
    · exact (h.exts z hz).only o (fun g p he hn hA => h.apart z hz hn g p he (.inr hA))
    · exact hz.2
  · rcases hR z hz with hz | hz
    · rcases hS with hS | hS
      · exact h.apart z hz hn g p he (.inl hS)
      · rcases s g hS with h1 | h1
        · exact h.apart z hz hn g p he (.inr h1)
        · have := h.exts z hz; rw [he] at this; have := this.lt hn; omega
    · omega
  · rcases hg with hg | hg
    · exact .inl (.inl hg)
    · exact (s g hg).imp .inr id
end Go.Proofs.YtgaaieipeiekiaaGreat

namespace Go.Proofs.YtgaaieipeiekiaaGreat
open Go.RowKit
set_option maxRecDepth 100000

/-- What the program tells of a kind of elements. -/
structure Ty {α : Type} (E : El α) (ts : TypeId) (z0 : α) (by_ : Nat) : Prop where
  sl : Tryz.prog.underlying ts = some (.slice E.t)
  info : (Tryz.prog.info? E.t).map (fun i => (i.zero, i.size, i.bytes)) = some (some (.agg (E.enc z0).toArray), E.k, by_)
  elem : Tryz.prog.elem ts = E.t
  le : by_ ≤ 1000
  kl : E.k ≤ 1000
def nm0 : Nm := ⟨⟨#[]⟩, 0⟩
def nz0 : Nz := ⟨0, 0, none, 0, 0, []⟩
theorem tyN : Ty elN 22 nm0 24 := ⟨Tryz.underlying22, by kernel_rfl, by kernel_rfl, by decide, by decide⟩
theorem tyZ : Ty elZ 23 nz0 40 := ⟨Tryz.underlying23, by kernel_rfl, by kernel_rfl, by decide, by decide⟩

def nv {α : Type} (E : El α) (e : α) : Value := .agg (E.enc e).toArray
section
variable {α : Type} {E : El α} {ts : TypeId} {z0 : α} {by_ : Nat}
theorem El.size (E : El α) (e : α) : (E.enc e).toArray.size = E.k := by rw [List.size_toArray, E.len]
theorem sl_one [Inhabited α] {w : World} {b : Nat} {e : α} (h : Row w b E.t (E.enc e).toArray) : Sl E w (some ⟨b, 0, none⟩) 1 1 [e] := by
  refine ⟨rfl, Nat.le_refl _, by unfold maxLen; omega, (fun h => by cases h), fun _ => ⟨b, 0, rfl, h.lt, fun j hj q v hv => ?_⟩⟩
  obtain rfl : j = 0 := by omega
  rw [show 0 + 0 * E.k + q = q by omega, h.at]
  simpa using hv
/-- append onto a row of one's own. -/
theorem run_joinE [Inhabited α] (T : Ty E ts z0 by_) {w : World} {B : Nat} {v : Value} {L : List α} (hown : OwnS E B w v L) {A : Option Addr} {n c : Nat} {M : List α} (hr : Sl E w A n c M) (hl : L.length + n ≤ 1000000) (hB : B ≤ w.heap.size) (ty : TypeId) :
    ∃ v' w', (Builtin.append_ #[ts, ts] ty #[v, .slice A n c]).run Tryz.prog w = .ok v' w' ∧ OwnS E B w' v' (L ++ M) ∧ Only (fun d => v.ownBlock = some d) w w' ∧ (∀ d, v'.ownBlock = some d → v.ownBlock = some d ∨ w.heap.size ≤ d) := by
  obtain ⟨i0, hi, hz0, hz1, hz2⟩ := info_parts T.info
  cases A with
  | none =>
    obtain ⟨rfl, rfl⟩ := hr.nil rfl
    obtain rfl : M = [] := List.eq_nil_of_length_eq_zero hr.len
    exact ⟨v, w, run_append_owned_none (P := Tryz.prog) (w := w) B ts ty E.t i0 E.k T.sl hi v L.length (E.cells L) hown.row, by rw [List.append_nil]; exact hown, Only.refl _ _, fun d hd => .inl hd⟩
  | some ad =>
    have hby := T.le
    obtain ⟨v', w', hrun, h1, h2, _, h4⟩ := run_append_own_at (P := Tryz.prog) (w := w) B ts ty E.t i0 _ E.k by_ T.sl hi hz0 hz1 hz2 (by show (E.enc z0).toArray.size = _; rw [E.size]) E.pos v L.length (E.cells L) hown.row ad n c (E.cells M) (by rw [E.cells_len M, hr.len]) (hr.src ad rfl) (E.cells_ones M) (by unfold maxLen; omega)
      (by have := Nat.mul_le_mul hl hby; omega) hB
    refine ⟨v', w', hrun, ⟨by rw [List.length_append, E.cells_append, hr.len]; exact h1⟩, ⟨h2.os, h2.tape, h2.output, h2.size, fun k hk hn => h2.block k hk (fun he => hn he.symm)⟩, fun d hd => ?_⟩
    rcases h4 with h4 | h4
    · rw [h4] at hd; exact .inl hd
    · rw [h4] at hd; injection hd with hd; exact .inr (Nat.le_of_eq hd)
variable {w : World} {ops : Array Oper} {rest : List Oper} {o : Oper} {a : Act} {Q : Exit → Act → World → Prop}
theorem st_catE [Inhabited α] (T : Ty E ts z0 by_) (hgd : o.guard = none) (s x : Operand) (ho : o.op = .call { callee := .builtin .append, args := #[s, x], argTypes := #[ts, ts] }) (B : Nat) (v : Value) (L : List α) (hs : a.eval s = v) (hown : OwnS E B w v L) (A : Option Addr) (n c : Nat) (M : List α) (hx : a.eval x = .slice A n c) (hr : Sl E w A n c M) (hl : L.length + n ≤ 1000000) (hB : B ≤ w.heap.size) (R : List α) (m : Nat) (hR : L ++ M = R) (hm : R.length = m)
    (h : ∀ A' c' w', OwnS E B w' (.slice A' m c') R → Only (fun d => v.ownBlock = some d) w w' → (∀ d, A' = some ⟨d, 0, none⟩ → v.ownBlock = some d ∨ w.heap.size ≤ d) → wpList Tryz.prog ops Q rest (a.put o.dst (.slice A' m c')) w') : wpList Tryz.prog ops Q (o :: rest) a w := by
  refine wpList_plain hgd fun K hK => ?_
  obtain ⟨v', w', hrun, q1, q2, q3⟩ := run_joinE T hown hr hl hB o.type
  rw [hR] at q1
  obtain ⟨A', c', hv, _⟩ := q1.sl
  rw [hm] at hv
  subst hv
  unfold Oper.wp
  simp [execOp, ho, resolve, invoke, builtin, hs, hx, hrun, Result.andThen]
  exact hK _ _ (h A' c' w' q1 q2 (fun d hd => q3 d (by rw [hd]; rfl)))
/-- []T{e}. -/
theorem fill_one (e : α) : Instr.fill (fun i => some (i * E.k, E.k)) ((Array.range (1 * E.k)).map ((Value.agg (E.enc z0).toArray).cells[· % (Value.agg (E.enc z0).toArray).cells.size]!)) [(0, nv E e)] = some (E.enc e).toArray := by
  simp only [Instr.fill]
  have hc : (nv E e).cells = (E.enc e).toArray := rfl
  rw [hc]
  have hs := E.size e
  rw [if_neg (by simp only [hs, Array.size_map, Array.size_range]; simp)]
  congr 1
  apply Array.ext_getElem?
  intro i
  rw [fold_set', hs]
  simp only [Array.size_map, Array.size_range]
  by_cases h : i < E.k
  · rw [if_pos (by omega)]; simp
  · rw [if_neg (by omega), Array.getElem?_eq_none (by simp; omega), Array.getElem?_eq_none (by rw [hs]; omega)]
theorem st_oneE (T : Ty E ts z0 by_) (hgd : o.guard = none) (x : Operand) (ho : o.op = .buildSlice ts 1 #[(0, x)]) (e : α) (hx : a.eval x = nv E e)
    (h : ∀ (b : Nat) (w1 : World), b = w.heap.size → Row w1 b E.t (E.enc e).toArray → Below w.heap.size w w1 → wpList Tryz.prog ops Q rest (a.put o.dst (.slice (some ⟨b, 0, none⟩) 1 1)) w1) :
    wpList Tryz.prog ops Q (o :: rest) a w := by
  obtain ⟨i0, hi, hz0, hz1, hz2⟩ := info_parts T.info
  have hby := T.le
  refine wpList_plain hgd fun K hK => ?_
  unfold Oper.wp execOp
  have hrun : (Instr.buildSlice ts 1 #[(0, nv E e)]).run Tryz.prog w = .ok (.slice (some ⟨w.heap.size, 0, none⟩) 1 1) (w.alloc (.cells (E.enc e).toArray E.t)) := by
    refine run_buildSlice w ts E.t 1 #[(0, nv E e)] (E.enc e).toArray i0 _ T.sl hi hz0 (by have := T.kl; rw [hz1]; omega) (by have := E.pos; rw [hz1]; omega) ?_
    rw [hz1]
    exact fill_one e
  simp [ho, hx, hrun, Result.andThen]
  exact hK _ _ (h _ _ rfl (Row.new w E.t _) ((Below.refl _ _).alloc (Nat.le_refl _) _))

/-- copy into a row that is known whole. -/
theorem run_copyE (T : Ty E ts z0 by_) (ty : TypeId) (g off dLen dCap : Nat) (ad : Addr) (sLen sCap : Nat) (cur : Array Value) (hg : Row w g E.t cur) (M : List α) (hM : Nat.min sLen dLen = M.length) (hsrc : ∀ j v, (E.cells M)[j]? = some v → w.cell? (ad.add j) = some v) (hfit : off + M.length * E.k ≤ cur.size) :
    ∃ w1, (Builtin.copy_ #[ts, ts] ty #[.slice (some ⟨g, off, none⟩) dLen dCap, .slice (some ad) sLen sCap]).run Tryz.prog w = .ok (goInt M.length) w1 ∧ Row w1 g E.t (splice cur.toList off (E.cells M)).toArray ∧ Only (fun d => d = g) w w1 := by
  obtain ⟨i0, hi, hz0, hz1, hz2⟩ := info_parts T.info
  have hln := E.cells_len M
  have hl := run_loadCells_list (P := Tryz.prog) w ad (E.cells M) hsrc
  have hst := run_storeCells_at Tryz.prog g off E.t (E.cells M) 0 cur w hg (by rw [hln]; simpa using hfit) (E.cells_ones M)
  rw [hln] at hl
  refine ⟨_, ?_, setRow_heap w g cur _ E.t (0, 0) hg, ⟨rfl, rfl, rfl, by simp [World.setRow], fun k _ hn => setRow_other w g k _ hn⟩⟩
  simp only [Nat.add_zero] at hst
  simp [Builtin.copy_, run_underlying T.sl, Builtin.lenOf, Builtin.firstCells, sizeOf, typeInfo, hi, hz1, hM, hl, hst, splice]
theorem st_copyE (T : Ty E ts z0 by_) (hgd : o.guard = none) (d s : Operand) (ho : o.op = .call { callee := .builtin .copy, args := #[d, s], argTypes := #[ts, ts] }) (g off dLen dCap : Nat) (ad : Addr) (sLen sCap : Nat) (hd : a.eval d = .slice (some ⟨g, off, none⟩) dLen dCap) (hs : a.eval s = .slice (some ad) sLen sCap) (cur : Array Value) (hg : Row w g E.t cur) (M : List α) (hM : Nat.min sLen dLen = M.length) (hsrc : ∀ j v, (E.cells M)[j]? = some v → w.cell? (ad.add j) = some v) (hfit : off + M.length * E.k ≤ cur.size)
    (h : ∀ w1, Row w1 g E.t (splice cur.toList off (E.cells M)).toArray → Only (fun d => d = g) w w1 → wpList Tryz.prog ops Q rest (a.put o.dst (goInt M.length)) w1) : wpList Tryz.prog ops Q (o :: rest) a w := by
  refine wpList_plain hgd fun K hK => ?_
  obtain ⟨w1, hrun, h1, h2⟩ := run_copyE T o.type g off dLen dCap ad sLen sCap cur hg M hM hsrc hfit
  unfold Oper.wp
  simp [execOp, ho, resolve, invoke, builtin, hd, hs, hrun, Result.andThen]
  exact hK _ _ (h w1 h1 h2)
theorem step_copyE {K : Act → World → Prop} {X : Prop} (T : Ty E ts z0 by_) (hgd : o.guard = none) (d s : Operand) (ho : o.op = .call { callee := .builtin .copy, args := #[d, s], argTypes := #[ts, ts] }) (g off dLen dCap : Nat) (ad : Addr) (sLen sCap : Nat) (hd : a.eval d = .slice (some ⟨g, off, none⟩) dLen dCap) (hs : a.eval s = .slice (some ad) sLen sCap) (cur : Array Value) (hg : Row w g E.t cur) (M : List α) (hM : Nat.min sLen dLen = M.length) (hsrc : ∀ j v, (E.cells M)[j]? = some v → w.cell? (ad.add j) = some v) (hfit : off + M.length * E.k ≤ cur.size)
    (h : ∀ w1, Row w1 g E.t (splice cur.toList off (E.cells M)).toArray → Only (fun d => d = g) w w1 → K (a.put o.dst (goInt M.length)) w1) : if Region.wanted o (yielded ops a.tmps) = true then Oper.wp Tryz.prog o a w K Q else X := by
  have hw : Region.wanted o (yielded ops a.tmps) = true := by simp [Region.wanted, hgd]
  rw [if_pos hw]
  obtain ⟨w1, hrun, h1, h2⟩ := run_copyE T o.type g off dLen dCap ad sLen sCap cur hg M hM hsrc hfit
  unfold Oper.wp
  simp [execOp, ho, resolve, invoke, builtin, hd, hs, hrun, Result.andThen]
  exact h w1 h1 h2
/-- append within the room of a row that is known whole, of a piece of it, too. -/
theorem st_fitE (T : Ty E ts z0 by_) (hgd : o.guard = none) (s x : Operand) (ho : o.op = .call { callee := .builtin .append, args := #[s, x], argTypes := #[ts, ts] }) (g i c : Nat) (hs : a.eval s = .slice (some ⟨g, 0, none⟩) i c) (A : Option Addr) (n c' : Nat) (hx : a.eval x = .slice A n c') (cur : Array Value) (hg : Row w g E.t cur) (M : List α) (hM : M.length = n) (hA : 0 < n → ∃ ad, A = some ad ∧ ∀ j v, (E.cells M)[j]? = some v → w.cell? (ad.add j) = some v) (hroom : i + n ≤ c) (hfit : c * E.k ≤ cur.size) (q : Nat) (hq : i + n = q)
    (h : ∀ w1, Row w1 g E.t (splice cur.toList (i * E.k) (E.cells M)).toArray → Only (fun d => d = g) w w1 → wpList Tryz.prog ops Q rest (a.put o.dst (.slice (some ⟨g, 0, none⟩) q c)) w1) : wpList Tryz.prog ops Q (o :: rest) a w := by
  obtain ⟨i0, hi, hz0, hz1, hz2⟩ := info_parts T.info
  refine wpList_plain hgd fun K hK => ?_
  subst hq
  have hln := E.cells_len M
  have hk : (i + n) * E.k ≤ c * E.k := Nat.mul_le_mul_right _ hroom
  rw [Nat.add_mul] at hk
  have hst := run_storeCells_at Tryz.prog g (i * E.k) E.t (E.cells M) 0 cur w hg (by rw [hln, hM]; omega) (E.cells_ones M)
  simp only [Nat.add_zero] at hst
  have hf : (Builtin.firstCells E.k n (.slice A n c')).run Tryz.prog w = .ok (E.cells M).toArray w := by
    rcases Nat.eq_zero_or_pos n with h0 | h0
    · subst h0
      obtain rfl : M = [] := List.eq_nil_of_length_eq_zero hM
      cases A with
      | none => exact run_firstCells_none w E.k 0 0 c'
      | some ad => exact run_firstCells_some w E.k 0 ad 0 c' [] (by simp) (fun j v h => by cases h)
    · obtain ⟨ad, rfl, hsrc⟩ := hA h0
      exact run_firstCells_some w E.k n ad n c' (E.cells M) (by rw [hln, hM]) hsrc
  have hrun : (Builtin.append_ #[ts, ts] o.type #[.slice (some ⟨g, 0, none⟩) i c, .slice A n c']).run Tryz.prog w = .ok (.slice (some ⟨g, 0, none⟩) (i + n) c) (w.setRow g (splice cur.toList (i * E.k) (E.cells M)).toArray) := by
    simp [Builtin.append_, run_underlying T.sl, Builtin.lenOf, sizeOf, typeInfo, hi, hz1, hroom, hf, Addr.add_lit, hst, splice]
  unfold Oper.wp
  simp [execOp, ho, resolve, invoke, builtin, hs, hx, hrun, Result.andThen]
  exact hK _ _ (h _ (setRow_heap w g cur _ E.t (0, 0) hg) ⟨rfl, rfl, rfl, by simp [World.setRow], fun k _ hn => setRow_other w g k _ hn⟩)
/-- clear of a piece of such a row. -/
theorem st_clearE (T : Ty E ts z0 by_) (hgd : o.guard = none) (x : Operand) (ho : o.op = .call { callee := .builtin .clear, args := #[x], argTypes := #[ts] }) (g off n c : Nat) (hx : a.eval x = .slice (some ⟨g, off, none⟩) n c) (hn : 0 < n) (cur : Array Value) (hg : Row w g E.t cur) (hfit : off + n * E.k ≤ cur.size)
    (h : ∀ w1, Row w1 g E.t (splice cur.toList off (E.cells (List.replicate n z0))).toArray → Only (fun d => d = g) w w1 → wpList Tryz.prog ops Q rest (a.put o.dst (.tuple #[])) w1) : wpList Tryz.prog ops Q (o :: rest) a w := by
  obtain ⟨i0, hi, hz0, hz1, hz2⟩ := info_parts T.info
  refine wpList_plain hgd fun K hK => ?_
  have hln := E.cells_len (List.replicate n z0)
  rw [List.length_replicate] at hln
  have hzc : (Builtin.zeroCells (E.enc z0).toArray n).toList = E.cells (List.replicate n z0) := by
    apply List.ext_getElem?
    intro i
    have hp := E.pos
    have hsz := E.size z0
    by_cases hi : i < n * E.k
    · have h1 : i / E.k < n := Nat.div_lt_of_lt_mul (by rw [Nat.mul_comm]; exact hi)
      have h2 := Nat.div_add_mod i E.k
      rw [Nat.mul_comm] at h2
      have h3 := Nat.mod_lt i hp
      have h4 : (E.cells (List.replicate n z0))[i]? = (E.enc z0)[i % E.k]? := by
        have := congrArg (fun L : List Value => L[i]?) (rfl : E.cells (List.replicate n z0) = E.cells (List.replicate n z0))
        rw [← h2]
        clear this
        have : ∀ (m q r : Nat), q < m → r < E.k → (E.cells (List.replicate m z0))[q * E.k + r]? = (E.enc z0)[r]? := by
          intro m
          induction m with
          | zero => intro q r hq; omega
          | succ m ih =>
            intro q r hq hr
            rw [List.replicate_succ, E.cells_cons]
            cases q with
            | zero => rw [List.getElem?_append_left (by rw [E.len]; omega)]; simp
            | succ q => rw [List.getElem?_append_right (by rw [E.len, Nat.succ_mul]; omega), E.len, show (q + 1) * E.k + r - E.k = q * E.k + r by rw [Nat.succ_mul]; omega]; exact ih q r (by omega) hr
        have := this n (i / E.k) (i % E.k) h1 h3
        rw [h2] at this ⊢
        exact this
      rw [h4]
      have h5 : i % E.k < (E.enc z0).length := by rw [E.len]; exact h3
      simp [Builtin.zeroCells, E.len, hi, h3]
    · rw [List.getElem?_eq_none (by simp [Builtin.zeroCells, E.len]; omega), List.getElem?_eq_none (by omega)]
  have hst := run_storeCells_at Tryz.prog g off E.t (E.cells (List.replicate n z0)) 0 cur w hg (by rw [hln]; simpa using hfit) (E.cells_ones _)
  simp only [Nat.add_zero] at hst
  have hzv : ∀ w', (zeroValue E.t).run Tryz.prog w' = .ok (.agg (E.enc z0).toArray) w' := fun w' => by simp [zeroValue, typeInfo, hi, hz0]
  obtain ⟨m, rfl⟩ : ∃ m, n = m + 1 := ⟨n - 1, by omega⟩
  have hrun : (Builtin.clear_ #[ts] o.type #[.slice (some ⟨g, off, none⟩) (m + 1) c]).run Tryz.prog w = .ok (.tuple #[]) (w.setRow g (splice cur.toList off (E.cells (List.replicate (m + 1) z0))).toArray) := by
    simp [Builtin.clear_, run_underlying T.sl, hzv, Value.cells, hzc, hst, splice]
  unfold Oper.wp
  simp [execOp, ho, resolve, invoke, builtin, hx, hrun, Result.andThen]
  exact hK _ _ (h _ (setRow_heap w g cur _ E.t (0, 0) hg) ⟨rfl, rfl, rfl, by simp [World.setRow], fun k _ hn => setRow_other w g k _ hn⟩)
/-- append(s[:i], make([]T, m)...) without room: a new row. -/
theorem st_zerosE (T : Ty E ts z0 by_) (hgd : o.guard = none) (s x : Operand) (ho : o.op = .call { callee := .builtin .append, args := #[s, x], argTypes := #[ts, 3] }) (ad : Addr) (i c : Nat) (hs : a.eval s = .slice (some ad) i c) (m : Nat) (C : Int) (hx : a.eval x = .int .i64 C) (hC : C = (m : Int)) (hm : 0 < m) (M : List α) (hM : M.length = i) (hsrc : ∀ j v, (E.cells M)[j]? = some v → w.cell? (ad.add j) = some v) (hroom : c < i + m) (hsm : i + m ≤ 1000000) (q : Nat) (hq : i + m = q)
    (h : ∀ g G cur w1, g = w.heap.size → q ≤ G → G ≤ maxLen → cur.size = G * E.k → cur.toList.take (i * E.k) = E.cells M → Row w1 g E.t cur → Below w.heap.size w w1 → wpList Tryz.prog ops Q rest (a.put o.dst (.slice (some ⟨g, 0, none⟩) q G)) w1) : wpList Tryz.prog ops Q (o :: rest) a w := by
  obtain ⟨i0, hi, hz0, hz1, hz2⟩ := info_parts T.info
  have hby := T.le
  have hp := E.pos
  have hln := E.cells_len M
  subst hC
  subst hq
  have hb1 : (i + m) * by_ ≤ 1000000 * 1000 := Nat.mul_le_mul hsm hby
  have hb2 : m * by_ ≤ 1000000 * 1000 := Nat.mul_le_mul (by omega) hby
  refine Lib.wpList_append_run (P := Tryz.prog) w hgd s x ts 3 ho _ _ hs hx _ _ (Lib.run_append_grow_zeros (P := Tryz.prog) w ts 3 o.type E.t i0 _ .i64 .i64 T.sl Tryz.underlying3 hi hz0 (some ad) i c (E.cells M) ?_ m hm (by rw [hz1]; exact hp) hroom (by omega) (by rw [hz2]; omega) (by rw [hz2]; exact growslice_fits hroom (by omega))) ?_
  · rw [hz1]
    exact run_firstCells_some w.drew E.k i ad i c (E.cells M) (by rw [hln, hM]) (fun j v hj => hsrc j v hj)
  · have hge := grownCap_ge w (i + m) c E.t
    refine h w.heap.size _ _ _ rfl hge ?_ ?_ ?_ (heap_alloc_new w.drew _) ⟨rfl, rfl, rfl, by simp, fun k hk => heap_alloc_old w.drew _ hk⟩
    · exact grownCap_le_maxLen w (i + m) c E.t (by unfold maxLen; omega)
    · simp only [Array.size_append, List.size_toArray, size_zeroCells, hln, hM, Value.cells, E.size]
      rw [← Nat.add_mul, ← Nat.add_mul]
      congr 1
      omega
    · rw [Array.append_assoc, Array.toList_append, List.take_append_of_le_length (by simp [hln, hM])]
      rw [List.take_of_length_le (by simp [hln, hM])]
end
end Go.Proofs.YtgaaieipeiekiaaGreat
