/- Contract of the made changes. / What the law ImageAll tells of its variables. / Contract of the law ImageAll. / What the laws' walks are told of their arguments: of what files and changes are made. / What becomes of names, told of the plain image. -/
import Derived.Test.YtgaaieipeiekiaaGreatPkS
import Derived.Test.YtgaaieipeiekiaaGreatPkP
import Derived.Test.YtgaaieipeiekiaaGreatPkQ
import Derived.Test.YtgaaieipeiekiaaGreatPkN
import Derived.Test.YtgaaieipeiekiaaGreatPkO
import Derived.Test.YtgaaieipeiekiaaGreatPkR
import Derived.Test.YtgaaieipeiekiaaGreatPkL
namespace Go.Proofs.YtgaaieipeiekiaaGreat
open Go.RowKit
set_option maxRecDepth 100000

/-- A change by small numbers. -/
structure Lo where
  kind : Int
  name : Int
  to : Int
  ino : Int
  pos : Int
  n : Int
  keep : Bool
deriving Inhabited
def lcl (x : Lo) : List Value := [.int .u8 x.kind, .int .u8 x.name, .int .u8 x.to, .int .u8 x.ino, .int .u16 x.pos, .int .u16 x.n, .bool x.keep]
def lv (x : Lo) : Value := .agg #[.int .u8 x.kind, .int .u8 x.name, .int .u8 x.to, .int .u8 x.ino, .int .u16 x.pos, .int .u16 x.n, .bool x.keep]
def elQ : El Lo := ⟨52, 7, lcl, fun _ => rfl, fun x v h => by simp [lcl] at h; rcases h with rfl | rfl | rfl | rfl | rfl | rfl | rfl <;> rfl, by decide⟩
structure Lo.ok (x : Lo) : Prop where
  kind : 0 ≤ x.kind ∧ x.kind ≤ 255
  name : 0 ≤ x.name ∧ x.name ≤ 255
  to : 0 ≤ x.to ∧ x.to ≤ 255
  ino : 0 ≤ x.ino ∧ x.ino ≤ 255
  pos : 0 ≤ x.pos ∧ x.pos ≤ 65535
  n : 0 ≤ x.n ∧ x.n ≤ 65535
/-- A made change. -/
def OpPost (w : World) (e : Ending) (w' : World) : Prop := ∃ o BA cb, e = .returned (ov o BA cb) ∧ OpIn w' o BA cb ∧ Small o ∧ Op9 o ∧ (∀ g p, BA = some ⟨g, p, none⟩ → w.heap.size ≤ g) ∧ Below w.heap.size w w'
theorem res_obox {fn : Func} {p : Tmp} (h : fn.results = #[.cell p 42]) {R : Ending → World → Prop} {a : Act} {w : World} (b : Nat) (o : Opv) (BA : Option Addr) (cb : Nat)
    (hp : a.tmps.getD p undef = .pointer (some ⟨b, 0, none⟩)) (hb : OBox w b o BA cb) (hdf : a.defers = []) (hR : R (.returned (ov o BA cb)) w) : bodyPost Tryz.prog fn R .ret a w :=
  bodyPost_ret (results_cell_row h a.tmps w b 42 _ (0, 0) _ hp hb Tryz.underlying42 rfl (by show _ = some 8; kernel_rfl)) hdf hR
def o0 : Opv := ⟨0, 0, 0, 0, false, ⟨#[]⟩, ⟨#[]⟩, []⟩
def oset (w : World) (b : Nat) (o : Opv) (BA : Option Addr) (cb : Nat) : World :=
  (((((((w.setCell ⟨b, 0, none⟩ (.int .i64 o.kind)).setCell ⟨b, 1, none⟩ (.int .i64 o.ino)).setCell ⟨b, 2, none⟩ (.int .i64 o.pos)).setCell ⟨b, 3, none⟩ (.int .i64 o.size)).setCell ⟨b, 4, none⟩ (.bool o.keep)).setCell ⟨b, 5, none⟩ (.string o.name)).setCell ⟨b, 6, none⟩ (.string o.to)).setCell ⟨b, 7, none⟩ (.slice BA o.bs.length cb)
theorem row_set {w : World} {b : Nat} {t : TypeId} {l : List Value} (h : Row w b t l.toArray) (k : Nat) (x : Value) : Row (w.setCell ⟨b, k, none⟩ x) b t (l.set k x).toArray := by
  have := h.setv k x
  simpa using this
theorem obox_put {w : World} {b : Nat} {p : Opv} {BA' : Option Addr} {cb' : Nat} (h : OBox w b p BA' cb') (o : Opv) (BA : Option Addr) (cb : Nat) : OBox (oset w b o BA cb) b o BA cb := by
  have h0 : Row w b 42 ([.int .i64 p.kind, .int .i64 p.ino, .int .i64 p.pos, .int .i64 p.size, .bool p.keep, .string p.name, .string p.to, .slice BA' p.bs.length cb'] : List Value).toArray := h
  have h1 := row_set h0 0 (.int .i64 o.kind)
  have h2 := row_set h1 1 (.int .i64 o.ino)
  have h3 := row_set h2 2 (.int .i64 o.pos)
  have h4 := row_set h3 3 (.int .i64 o.size)
  have h5 := row_set h4 4 (.bool o.keep)
  have h6 := row_set h5 5 (.string o.name)
  have h7 := row_set h6 6 (.string o.to)
  have h8 := row_set h7 7 (.slice BA o.bs.length cb)
  simp only [List.set_cons_zero, List.set_cons_succ] at h8
  exact h8
theorem oset_only (w : World) (b : Nat) (o : Opv) (BA : Option Addr) (cb : Nat) : Only (fun d => d = b) w (oset w b o BA cb) := by
  unfold oset
  have e : ∀ {v : World} (_ : Only (fun d => d = b) w v) (k : Nat) (x : Value), Only (fun d => d = b) w (v.setCell ⟨b, k, none⟩ x) := fun h k x => h.setCell ⟨b, k, none⟩ (fun _ => rfl) x
  exact e (e (e (e (e (e (e (e (Only.refl _ w) 0 _) 1 _) 2 _) 3 _) 4 _) 5 _) 6 _) 7 _
theorem oset_below {B : Nat} {w w' : World} (h : Below B w w') (b : Nat) (hb : B ≤ b) (hw : B ≤ w'.heap.size) (o : Opv) (BA : Option Addr) (cb : Nat) : Below B w (oset w' b o BA cb) :=
  h.trans ((oset_only w' b o BA cb).below hw (fun d hd => by omega))

set_option maxHeartbeats 8000000 in
theorem op_any (x : Lo) (w : World) (hx : x.ok) : Calls Tryz.prog 26 #[lv x] w (OpPost w) := by
  obtain ⟨kind, name, to, ino, pos, n, keep⟩ := x
  obtain ⟨⟨k0, k1⟩, ⟨n0, n1⟩, ⟨t0, t1⟩, ⟨i0, i1⟩, ⟨p0, p1⟩, m0, m1⟩ := hx
  simp only at k0 k1 n0 n1 t0 t1 i0 i1 p0 p1 m0 m1
  obtain ⟨W, hW⟩ : ∃ W, (w.alloc (.cells #[.int .u8 kind, .int .u8 name, .int .u8 to, .int .u8 ino, .int .u16 pos, .int .u16 n, .bool keep] 52)).alloc (.cells #[.int .i64 0, .int .i64 0, .int .i64 0, .int .i64 0, .bool false, .string ⟨#[]⟩, .string ⟨#[]⟩, .slice none 0 0] 42) = W := ⟨_, rfl⟩
  have KW := Lib.hid (show Below w.heap.size w W by rw [← hW]; exact ((Below.refl _ _).alloc (Nat.le_refl _) _).alloc (by simp) _)
  have B0 := Lib.hid (show Row W w.heap.size 52 #[.int .u8 kind, .int .u8 name, .int .u8 to, .int .u8 ino, .int .u16 pos, .int .u16 n, .bool keep] by rw [← hW]; exact (Row.new w 52 _).on ((Below.refl _ _).alloc (Nat.le_refl _) _))
  have R0 := Lib.hid (show OBox W (w.heap.size + 1) o0 none 0 by
    rw [← hW]
    have := obox_new (w.alloc (.cells #[.int .u8 kind, .int .u8 name, .int .u8 to, .int .u8 ino, .int .u16 pos, .int .u16 n, .bool keep] 52)) o0 none 0
    simpa [o0] using this)
  have HS := Lib.hid (show w.heap.size + 2 ≤ W.heap.size by rw [← hW]; simp)
  have HW := Lib.hid hW
  clear hW
  obtain ⟨kd, hkd, kd0, kd1⟩ : ∃ r : Int, kind.tmod 9 = r ∧ 0 ≤ r ∧ r < 9 := ⟨_, rfl, by rw [Int.tmod_eq_emod_of_nonneg k0]; omega, by rw [Int.tmod_eq_emod_of_nonneg k0]; omega⟩
  obtain ⟨io, hio, io0, io1⟩ : ∃ r : Int, ino.tmod 14 = r ∧ 0 ≤ r ∧ r < 14 := ⟨_, rfl, by rw [Int.tmod_eq_emod_of_nonneg i0]; omega, by rw [Int.tmod_eq_emod_of_nonneg i0]; omega⟩
  obtain ⟨po, hpo, po0, po1⟩ : ∃ r : Int, pos.tmod 200 = r ∧ 0 ≤ r ∧ r < 200 := ⟨_, rfl, by rw [Int.tmod_eq_emod_of_nonneg p0]; omega, by rw [Int.tmod_eq_emod_of_nonneg p0]; omega⟩
  obtain ⟨sz, hsz, sz0, sz1⟩ : ∃ r : Int, n.tmod 200 = r ∧ 0 ≤ r ∧ r < 200 := ⟨_, rfl, by rw [Int.tmod_eq_emod_of_nonneg m0]; omega, by rw [Int.tmod_eq_emod_of_nonneg m0]; omega⟩
  obtain ⟨nb, hnb, nb1⟩ : ∃ r : Nat, n.tmod 40 = (r : Int) ∧ r < 40 := ⟨(n.tmod 40).toNat, by rw [Int.tmod_eq_emod_of_nonneg m0]; omega, by rw [Int.tmod_eq_emod_of_nonneg m0]; omega⟩
  show Calls Tryz.prog 26 #[.agg #[.int .u8 kind, .int .u8 name, .int .u8 to, .int .u8 ino, .int .u16 pos, .int .u16 n, .bool keep]] w _
  go_enter Tryz.func26, Tryz.ntmps26
  go_upto_region 1 with fail
  rw [HW.out]
  have q0 := fun u : Wb W => (B0.out.on u.k).at 0
  have q1 := fun u : Wb W => (B0.out.on u.k).at 1
  have q2 := fun u : Wb W => (B0.out.on u.k).at 2
  have q3 := fun u : Wb W => (B0.out.on u.k).at 3
  have q4 := fun u : Wb W => (B0.out.on u.k).at 4
  have q5 := fun u : Wb W => (B0.out.on u.k).at 5
  have q6 := fun u : Wb W => (B0.out.on u.k).at 6
  simp only [List.getElem?_toArray, List.getElem?_cons_zero, List.getElem?_cons_succ] at q0 q1 q2 q3 q4 q5 q6
  have Kd := Lib.hid (show Below W.heap.size W W.drew from (Below.refl _ _).drew)
  refine wp_region_p (fun w' => ∃ u : Wb W, w' = u.v) 32 [(0, 6), (7, 2), (10, 20)] [(6, 1), (9, 1), (30, 2)] _ (by kernel_rfl) rfl (by kernel_rfl) (by kernel_rfl) (by kernel_rfl) ⟨⟨W.drew, Kd.out⟩, rfl⟩ ?_
  simp only [pieces, List.flatMap_cons, List.flatMap_nil, List.take_succ_cons, List.take_zero, List.drop_succ_cons, List.drop_zero, List.append_nil, List.cons_append, List.nil_append]
  repeat (go_big_quiet_step (fail))
  refine wpQuiet_nil ?_
  clear q0 q1 q2 q3 q4 q5 q6
  refine tail_cons ?_
  go_wp2_with (go_at_call 51; refine (kname_any name _ n0).mono ?_; rintro e w1 ⟨s1, rfl, hs1, k1⟩; have K1 := Lib.hid (Kd.out.trans (k1.mono Kd.out.size)); have HS1 := Lib.hid hs1; clear k1 hs1)
  refine tail_done ⟨⟨⟨w1, K1.out⟩, rfl⟩, tail_cons ?_⟩
  go_wp2_with (go_at_call 51; refine (kname_any to _ t0).mono ?_; rintro e w2 ⟨s2, rfl, hs2, k2⟩; have K2 := Lib.hid (K1.out.trans (k2.mono K1.out.size)); have HS2 := Lib.hid hs2; clear k2 hs2)
  refine tail_done ⟨⟨⟨w2, K2.out⟩, rfl⟩, tail_cons ?_⟩
  go_wp2_with (go_at_call 52; refine (bytes_any ino nb _ i0 i1 (by omega)).mono ?_; rintro e w3 ⟨BA, cb, zs, rfl, hz, hzb, hzn, k3⟩; have K3 := Lib.hid (K2.out.trans (k3.mono K2.out.size)); have HZ := Lib.hid hz; have HZb := Lib.hid hzb; have HZn := Lib.hid hzn; have HK3 := Lib.hid k3; clear k3 hz hzb hzn)
  refine tail_done ⟨⟨⟨w3, K3.out⟩, rfl⟩, tail_cons ?_⟩
  go_wp2
  refine tail_done ⟨⟨⟨w3, K3.out⟩, rfl⟩, tail_end ?_⟩
  have R3 := Lib.hid (R0.out.on K3.out)
  have r0 := R3.out.c0; have r1 := R3.out.c1; have r2 := R3.out.c2; have r3 := R3.out.c3; have r4 := R3.out.c4; have r5 := R3.out.c5; have r6 := R3.out.c6; have r7 := R3.out.c7
  have f0 := Row.free R3.out 0; have f1 := Row.free R3.out 1; have f2 := Row.free R3.out 2; have f3 := Row.free R3.out 3; have f4 := Row.free R3.out 4; have f5 := Row.free R3.out 5; have f6 := Row.free R3.out 6; have f7 := Row.free R3.out 7
  simp only [o0, List.length_nil] at r0 r1 r2 r3 r4 r5 r6 r7
  have hl : zs.length = nb := HZ.out.len
  have HLz := Lib.hid hl
  clear hl
  go_wp2
  refine tail_done ?_
  go_wp2
  have X := obox_put R3.out ⟨kd, io, po, sz, keep, s1, s2, zs⟩ BA cb
  have hS := HS.out
  have hK := K3.out.size
  have hl := HLz.out
  have hO := oset_only w3 (w.heap.size + 1) ⟨kd, io, po, sz, keep, s1, s2, zs⟩ BA cb
  have hB := oset_below (KW.out.trans (K3.out.mono KW.out.size)) (w.heap.size + 1) (Nat.le_add_right _ _) (by omega) ⟨kd, io, po, sz, keep, s1, s2, zs⟩ BA cb
  unfold oset at X hO hB
  simp only [hl] at X hO hB
  refine res_obox rfl (w.heap.size + 1) ⟨kd, io, po, sz, keep, s1, s2, zs⟩ BA cb rfl X rfl ⟨_, BA, cb, rfl, ⟨?_, HZb.out, ?_, ?_⟩, ⟨?_, ?_⟩, ⟨?_, ?_⟩, fun g p he => Nat.le_trans (Nat.le_trans KW.out.size K2.out.size) (HZn.out g p he), hB⟩
  · show Nums .u8 _ BA zs.length cb zs
    rw [hl]
    exact HZ.out.only hO (fun g o hg _ hd => by have := HZn.out g o hg; have := K2.out.size; omega)
  · show s1.size ≤ maxLen
    have := HS1.out; unfold maxLen; omega
  · show s2.size ≤ maxLen
    have := HS2.out; unfold maxLen; omega
  · show zs.length ≤ 100
    omega
  · show sz ≤ 400 ∨ 32768 < sz
    omega
  · show -9223372036854775808 ≤ po ∧ po ≤ 9223372036854775807
    omega
  · show -9223372036854775808 ≤ sz ∧ sz ≤ 9223372036854775807
    omega
end Go.Proofs.YtgaaieipeiekiaaGreat

namespace Go.Proofs.YtgaaieipeiekiaaGreat
open Go.RowKit
set_option maxRecDepth 100000

theorem Im.only {S : Nat → Prop} {w w' : World} {A : Option Addr} {n c : Nat} {A' : Option Addr} {n' c' : Nat} {N : List Nm} {Z : List Nz} (h : Im w A n c A' n' c' N Z) (o : Only S w w') (h1 : ∀ g p, A = some ⟨g, p, none⟩ → 0 < n → ¬ S g) (h2 : ∀ g p, A' = some ⟨g, p, none⟩ → 0 < n' → ¬ S g) (h3 : ∀ z ∈ Z, 0 < z.n → ∀ g p, z.A = some ⟨g, p, none⟩ → ¬ S g) : Im w' A n c A' n' c' N Z :=
  ⟨h.names.only o h1, h.nodes.only o h2, fun z hz => (h.exts z hz).only o (fun g p he hn => h3 z hz hn g p he), h.str⟩
theorem OpIn.only {S : Nat → Prop} {w w' : World} {o : Opv} {BA : Option Addr} {cb : Nat} (h : OpIn w o BA cb) (k : Only S w w') (h1 : ∀ g p, BA = some ⟨g, p, none⟩ → 0 < o.bs.length → ¬ S g) : OpIn w' o BA cb := ⟨h.nums.only k h1, h.byte, h.sn, h.st⟩
theorem Sl.lt {α : Type} [Inhabited α] {E : El α} {w : World} {g p n c : Nat} {L : List α} (h : Sl E w (some ⟨g, p, none⟩) n c L) (hn : 0 < n) : g < w.heap.size := by
  obtain ⟨b, o, he, hl, _⟩ := h.cells hn
  injection he with he; injection he with e1 _; subst e1; exact hl
theorem lens_all : ∀ (os : List Opv) (I : Ig) (K : Nat), GoodI I → Lens K I → (∀ o ∈ os, Small o) → Lens (K + 60 * os.length) (allS I os)
  | [], I, K, _, hl, _ => by simpa [allS] using hl
  | o :: os, I, K, hg, hl, hs => by
    have := lens_all os (applyS I o) (K + 60) (good_apply hg o) (lens_apply hg hl (hs o (by simp))) (fun x hx => hs x (by simp [hx]))
    have e : K + 60 * (o :: os).length = K + 60 + 60 * os.length := by rw [List.length_cons]; omega
    rw [e]
    exact this
theorem all_snoc (I : Ig) (T : List Om) (x : Om) : allS I ((T ++ [x]).map Om.o) = applyS (allS I (T.map Om.o)) x.o := by
  simp [allS, List.foldl_append]

/-- The changes made so far, the image that the reference makes of those of Tr, in the variable behind U. -/
structure Ax (U wr : World) (I : Ig) (OA : Option Addr) (oc : Nat) (T Tr : List Om) (F : Option Addr) (f : Nat) (F' : Option Addr) (f' : Nat) (R : List Nm) (X : List Nz) : Prop where
  own : OwnS elO (U.heap.size + 1) wr (.slice OA T.length oc) T
  op : ∀ x ∈ T, OpIn wr x.o x.A x.c
  opn : ∀ x ∈ T, 0 < x.o.bs.length → ∀ g p, x.A = some ⟨g, p, none⟩ → U.heap.size < g ∧ OA ≠ some ⟨g, 0, none⟩
  small : ∀ x ∈ T, Small x.o
  op9 : ∀ x ∈ T, Op9 x.o
  box : IBox wr U.heap.size F R.length f F' X.length f'
  im : Im wr F R.length f F' X.length f' R X
  is : ig R X = allS I (Tr.map Om.o)
  offN : ∀ g p, F = some ⟨g, p, none⟩ → 0 < R.length → g ≠ U.heap.size ∧ OA ≠ some ⟨g, 0, none⟩
  offZ : ∀ g p, F' = some ⟨g, p, none⟩ → 0 < X.length → g ≠ U.heap.size ∧ OA ≠ some ⟨g, 0, none⟩
  offX : ∀ z ∈ X, 0 < z.n → ∀ g p, z.A = some ⟨g, p, none⟩ → g ≠ U.heap.size ∧ OA ≠ some ⟨g, 0, none⟩
  below : Below U.heap.size U wr
  size : U.heap.size + 1 ≤ wr.heap.size
section
variable {U wr w3 : World} {I : Ig} {OA : Option Addr} {oc : Nat} {T Tr : List Om} {F : Option Addr} {f : Nat} {F' : Option Addr} {f' : Nat} {R : List Nm} {X : List Nz}
theorem Ax.on (h : Ax U wr I OA oc T Tr F f F' f' R X) (k : Below wr.heap.size wr w3) : Ax U w3 I OA oc T Tr F f F' f' R X :=
  ⟨h.own.on k, fun x hx => (h.op x hx).on k, h.opn, h.small, h.op9, h.box.on k, h.im.on k, h.is, h.offN, h.offZ, h.offX, h.below.trans (k.mono h.below.size), Nat.le_trans h.size k.size⟩
theorem ax_start {A : Option Addr} {c : Nat} {A' : Option Addr} {c' : Nat} {N : List Nm} {Z : List Nz} (h : Im U A N.length c A' Z.length c' N Z) : Ax U (U.alloc (.cells #[.slice A N.length c, .slice A' Z.length c'] 25)) (ig N Z) none 0 [] [] A c A' c' N Z := by
  have k : Below U.heap.size U (U.alloc (.cells #[.slice A N.length c, .slice A' Z.length c'] 25)) := (Below.refl _ _).alloc (Nat.le_refl _) _
  refine ⟨owns_nil _ _, by simp, by simp, by simp, by simp, ibox_new _ _ _ _ _ _ _, h.on k, rfl, fun g p he hn => ⟨?_, by simp⟩, fun g p he hn => ⟨?_, by simp⟩, fun z hz hn g p he => ⟨?_, by simp⟩, k, by simp⟩
  · subst he; have := h.names.lt hn; omega
  · subst he; have := h.nodes.lt hn; omega
  · have := h.exts z hz; rw [he] at this; have := this.lt hn; omega
/-- One more change. -/
theorem Ax.push (h : Ax U wr I OA oc T Tr F f F' f' R X) {OA' : Option Addr} {m oc' : Nat} {x : Om} (q : OwnS elO (U.heap.size + 1) w3 (.slice OA' m oc') (T ++ [x])) (hm : (T ++ [x]).length = m) (o : Only (fun d => OA = some ⟨d, 0, none⟩) wr w3) (s : ∀ d, OA' = some ⟨d, 0, none⟩ → OA = some ⟨d, 0, none⟩ ∨ wr.heap.size ≤ d) (hx : OpIn wr x.o x.A x.c) (hs : Small x.o) (h9 : Op9 x.o) (hn : ∀ g p, x.A = some ⟨g, p, none⟩ → U.heap.size < g ∧ OA ≠ some ⟨g, 0, none⟩) :
    Ax U w3 I OA' oc' (T ++ [x]) Tr F f F' f' R X := by
  subst hm
  have hOA : ∀ d, OA = some ⟨d, 0, none⟩ → U.heap.size + 1 ≤ d := fun d hd => by
    rcases h.own.addr with h0 | ⟨g, he, hB, _⟩
    · rw [h0] at hd; cases hd
    · rw [he] at hd; injection hd with hd; injection hd with hd; omega
  refine ⟨q, fun y hy => ?_, fun y hy hl g p he => ?_, fun y hy => ?_, fun y hy => ?_, Row.only h.box o (fun hd => by have := hOA _ hd; omega), h.im.only o (fun g p he hn hd => (h.offN g p he hn).2 hd) (fun g p he hn hd => (h.offZ g p he hn).2 hd) (fun z hz hn g p he hd => (h.offX z hz hn g p he).2 hd), h.is, fun g p he hn => ⟨(h.offN g p he hn).1, fun hd => ?_⟩, fun g p he hn => ⟨(h.offZ g p he hn).1, fun hd => ?_⟩, fun z hz hn g p he => ⟨(h.offX z hz hn g p he).1, fun hd => ?_⟩, h.below.trans (o.below h.below.size (fun d hd => by have := hOA _ hd; omega)), Nat.le_trans h.size o.size⟩
  · rcases List.mem_append.1 hy with hy | hy
    · exact (h.op y hy).only o (fun g p he hl hd => (h.opn y hy hl g p he).2 hd)
    · rw [List.mem_singleton] at hy; subst hy; exact hx.only o (fun g p he _ hd => (hn g p he).2 hd)
  · rcases List.mem_append.1 hy with hy | hy
    · refine ⟨(h.opn y hy hl g p he).1, fun hd => ?_⟩
      rcases s g hd with h1 | h1
      · exact (h.opn y hy hl g p he).2 h1
      · have := (h.op y hy).nums.at g p he hl; omega
    · rw [List.mem_singleton] at hy; subst hy
      refine ⟨(hn g p he).1, fun hd => ?_⟩
      rcases s g hd with h1 | h1
      · exact (hn g p he).2 h1
      · have := hx.nums.at g p he hl; omega
  · rcases List.mem_append.1 hy with hy | hy
    · exact h.small y hy
    · rw [List.mem_singleton] at hy; subst hy; exact hs
  · rcases List.mem_append.1 hy with hy | hy
    · exact h.op9 y hy
    · rw [List.mem_singleton] at hy; subst hy; exact h9
  · rcases s g hd with h1 | h1
    · exact (h.offN g p he hn).2 h1
    · subst he; have := h.im.names.lt hn; omega
  · rcases s g hd with h1 | h1
    · exact (h.offZ g p he hn).2 h1
    · subst he; have := h.im.nodes.lt hn; omega
  · rcases s g hd with h1 | h1
    · exact (h.offX z hz hn g p he).2 h1
    · have := h.im.exts z hz; rw [he] at this; have := this.lt hn; omega
/-- The reference's image of one change more, stored. -/
theorem Ax.store (h : Ax U wr I OA oc T Tr F f F' f' R X) {J : Ig} {G : Option Addr} {g : Nat} {G' : Option Addr} {g' : Nat} {R2 : List Nm} {X2 : List Nz} (hi : ig R2 X2 = J) {Tn : List Om} (hJ : J = allS I (Tn.map Om.o)) (q : Img wr.heap.size w3 G g G' g' R2 X2) (k : Below wr.heap.size wr w3) (hn : ∀ z ∈ X2, 0 < z.n → ∀ g p, z.A = some ⟨g, p, none⟩ → wr.heap.size ≤ g) :
    IBox w3 U.heap.size F R.length f F' X.length f' ∧ Ax U ((w3.setCell ⟨U.heap.size, 0, none⟩ (.slice G R2.length g)).setCell ⟨U.heap.size, 1, none⟩ (.slice G' X2.length g')) I OA oc T Tn G g G' g' R2 X2 := by
  have h3 := h.on k
  have ob := only_set2 w3 U.heap.size (.slice G R2.length g) (.slice G' X2.length g')
  have hsz := h.size
  have hOA : ∀ d, OA = some ⟨d, 0, none⟩ → U.heap.size + 1 ≤ d ∧ d < wr.heap.size := fun d hd => by
    rcases h.own.addr with h0 | ⟨g, he, hB, hl⟩
    · rw [h0] at hd; cases hd
    · rw [he] at hd; injection hd with hd; injection hd with hd; omega
  have hrow : ∀ d, S2 G G' d → U.heap.size + 1 ≤ d ∧ OA ≠ some ⟨d, 0, none⟩ := fun d hd => by
    have h1 := (q.lt hd).1
    refine ⟨by omega, fun he => ?_⟩
    have := (hOA d he).2; omega
  have hap : ∀ {α : Type} {E : El α} {v : World} {A : Option Addr} {n c : Nat} {L : List α}, OwnS E wr.heap.size v (.slice A n c) L → ∀ x p, A = some ⟨x, p, none⟩ → A = some ⟨x, 0, none⟩ := fun hO x p he => by
    rcases hO.addr with h0 | ⟨y, hy, _⟩
    · rw [h0] at he; cases he
    · rw [hy] at he ⊢; injection he with he; injection he with he _; rw [he]
  refine ⟨h3.box, ?_, fun x hx => (h3.op x hx).only ob (fun a p he hl hd => by have := (h.opn x hx hl a p he).1; omega), h.opn, h.small, h.op9, h3.box.put _ _ _ _ _ _, q.im.only ob (fun a p he _ hd => ?_) (fun a p he _ hd => ?_) (fun z hz hz0 a p he hd => by have := hn z hz hz0 a p he; omega), hi.trans hJ, fun a p he _ => ?_, fun a p he _ => ?_, fun z hz hz0 a p he => ⟨by have := hn z hz hz0 a p he; omega, fun hd => by have := hn z hz hz0 a p he; have := (hOA a hd).2; omega⟩, h3.below.trans (ob.below h3.below.size (fun d hd => by omega)), ?_⟩
  · exact h3.own.only ob (fun d hd he => by have := (hOA d hd).1; omega)
  · have := (hrow a (.inl (hap q.names a p he))).1; omega
  · have := (hrow a (.inr (hap q.nodes a p he))).1; omega
  · have := hrow a (.inl (hap q.names a p he)); exact ⟨by omega, this.2⟩
  · have := hrow a (.inr (hap q.nodes a p he)); exact ⟨by omega, this.2⟩
  · have := k.size; have := ob.size; omega
end
end Go.Proofs.YtgaaieipeiekiaaGreat

namespace Go.Proofs.YtgaaieipeiekiaaGreat
open Go.RowKit
set_option maxRecDepth 100000

theorem Lqs.at {w : World} {b o n c : Nat} {M : List Lo} (h : Sl elQ w (some ⟨b, o, none⟩) n c M) (j : Nat) (hj : j < n) :
    w.cell? ⟨b, o + j * 7, none⟩ = some (.int .u8 (M.getD j default).kind) ∧ w.cell? ⟨b, o + j * 7 + 1, none⟩ = some (.int .u8 (M.getD j default).name) ∧ w.cell? ⟨b, o + j * 7 + 2, none⟩ = some (.int .u8 (M.getD j default).to) ∧ w.cell? ⟨b, o + j * 7 + 3, none⟩ = some (.int .u8 (M.getD j default).ino) ∧ w.cell? ⟨b, o + j * 7 + 4, none⟩ = some (.int .u16 (M.getD j default).pos) ∧ w.cell? ⟨b, o + j * 7 + 5, none⟩ = some (.int .u16 (M.getD j default).n) ∧ w.cell? ⟨b, o + j * 7 + 6, none⟩ = some (.bool (M.getD j default).keep) := by
  obtain ⟨b', o', he, _, hc⟩ := h.cells (by omega)
  injection he with he; injection he with e1 e2; subst e1 e2
  exact ⟨hc j hj 0 _ rfl, hc j hj 1 _ rfl, hc j hj 2 _ rfl, hc j hj 3 _ rfl, hc j hj 4 _ rfl, hc j hj 5 _ rfl, hc j hj 6 _ rfl⟩
theorem Oms.at {w : World} {b o n c : Nat} {M : List Om} (h : Sl elO w (some ⟨b, o, none⟩) n c M) (j : Nat) (hj : j < n) (x : Om) (hx : M.getD j default = x) :
    w.cell? ⟨b, o + j * 8, none⟩ = some (.int .i64 x.o.kind) ∧ w.cell? ⟨b, o + j * 8 + 1, none⟩ = some (.int .i64 x.o.ino) ∧ w.cell? ⟨b, o + j * 8 + 2, none⟩ = some (.int .i64 x.o.pos) ∧ w.cell? ⟨b, o + j * 8 + 3, none⟩ = some (.int .i64 x.o.size) ∧ w.cell? ⟨b, o + j * 8 + 4, none⟩ = some (.bool x.o.keep) ∧ w.cell? ⟨b, o + j * 8 + 5, none⟩ = some (.string x.o.name) ∧ w.cell? ⟨b, o + j * 8 + 6, none⟩ = some (.string x.o.to) ∧ w.cell? ⟨b, o + j * 8 + 7, none⟩ = some (.slice x.A x.o.bs.length x.c) := by
  obtain ⟨b', o', he, _, hc⟩ := h.cells (by omega)
  injection he with he; injection he with e1 e2; subst e1 e2
  subst hx
  exact ⟨hc j hj 0 _ rfl, hc j hj 1 _ rfl, hc j hj 2 _ rfl, hc j hj 3 _ rfl, hc j hj 4 _ rfl, hc j hj 5 _ rfl, hc j hj 6 _ rfl, hc j hj 7 _ rfl⟩

set_option maxHeartbeats 16000000 in
theorem law_all (A : Option Addr) (n c : Nat) (P : List Kp) (A2 : Option Addr) (n2 c2 : Nat) (Q : List Lo) (w : World) (h : KpsIn w A n c P) (h2 : Sl elQ w A2 n2 c2 Q) (hq : ∀ x ∈ Q, x.ok) :
    Calls Tryz.prog 5 #[.slice A n c, .slice A2 n2 c2] w (TruthPost true w) := by
  have H := Lib.hid h; have H2 := Lib.hid h2; have HQ := Lib.hid hq
  have hn2 := h2.max
  clear h h2 hq
  go_enter Tryz.func5, Tryz.ntmps5
  by_cases h40 : 40 < n2
  · go_wp2_with fail
    refine (law_runs _).mono ?_
    rintro e w2 ⟨rfl, k2⟩
    have K2 := Lib.hid k2
    go_wp2
    go_ret
    exact ⟨rfl, K2.out⟩
  · go_wp2_with fail
    refine (of_any A n c P w H.out).mono ?_
    rintro e w1 ⟨D, d, D', d', M, Y, he, hok, him, k1⟩
    obtain rfl : e = .returned (.agg #[.slice D M.length d, .slice D' Y.length d']) := he
    have HOk := Lib.hid hok
    obtain ⟨U, hU⟩ : ∃ U, w1.alloc (.cells #[.slice D M.length d, .slice D' Y.length d'] 25) = U := ⟨_, rfl⟩
    have kU : Below w1.heap.size w1 U := by rw [← hU]; exact (Below.refl _ _).alloc (Nat.le_refl _) _
    have BU := Lib.hid (show IBox U w1.heap.size D M.length d D' Y.length d' by rw [← hU]; exact ibox_new _ _ _ _ _ _ _)
    have KU := Lib.hid (k1.trans (kU.mono k1.size))
    have IU := Lib.hid (him.im.on kU)
    obtain ⟨b5, hb5⟩ : ∃ b5, w1.heap.size = b5 := ⟨_, rfl⟩
    rw [hb5] at BU
    have HU := Lib.hid hU; have HB5 := Lib.hid hb5
    clear hok him k1 kU hU hb5
    go_upto_region 4 with fail
    rw [HU.out, HB5.out]
    have b0 := BU.out.c0; have b1 := BU.out.c1
    obtain ⟨V, hV⟩ : ∃ V, U.alloc (.cells #[.slice D M.length d, .slice D' Y.length d'] 25) = V := ⟨_, rfl⟩
    have X0 := Lib.hid (ax_start IU.out)
    rw [hV] at X0
    have HV := Lib.hid hV
    clear hV HU HB5
    go_upto_region 6 with fail
    rw [HV.out]
    clear b0 b1 HV
    have HU5 := Lib.hid (show b5 < U.heap.size from BU.out.lt)
    obtain ⟨q, hq⟩ : ∃ q, U.heap.size = q := ⟨_, rfl⟩
    rw [hq]
    have HQQ := Lib.hid hq
    clear hq
    go_wp2
    go_loopw [7, 8] (fun x y wr => ∃ (k : Nat) (OA : Option Addr) (oc : Nat) (T : List Om) (F : Option Addr) (f : Nat) (F' : Option Addr) (f' : Nat) (R : List Nm) (X : List Nz), k ≤ n2 ∧ x = .slice OA k oc ∧ y = .int .i64 k ∧ T.length = k ∧ Hid (Ax U wr (ig M Y) OA oc T T F f F' f' R X)) (fun _ y _ => n2 - (intOf y).toNat)
    case atStart => exact ⟨0, none, 0, [], D, d, D', d', M, Y, Nat.zero_le _, rfl, rfl, rfl, X0.out⟩
    case round =>
      obtain ⟨k, OA, oc, T, F, f, F', f', R, X, hk, rfl, rfl, hT, C⟩ := hrel
      clear X0
      have HT := Lib.hid hT
      clear hT
      by_cases hlt : k < n2
      · obtain ⟨b, o, rfl, hbl, _⟩ := H2.out.cells (by omega)
        have KR := Lib.hid (KU.out.trans (C.out.below.mono KU.out.size))
        have hx := Lqs.at (H2.out.on KR.out) k hlt
        have hok := HQ.out _ (H2.out.mem k hlt)
        generalize Q.getD k default = x at hx hok
        have HX := Lib.hid hok
        obtain ⟨xk, xn, xt, xi, xp, xm, xe⟩ := x
        simp only at hx
        obtain ⟨x0, x1, x2, x3, x4, x5, x6⟩ := hx
        have hki : (k : Int) < (n2 : Int) := by omega
        clear hok
        go_wp2_with fail
        refine (op_any ⟨xk, xn, xt, xi, xp, xm, xe⟩ _ HX.out).mono ?_
        rintro e w3 ⟨o', BA, cb, he, hoi, hsm, h9, hnew, k3⟩
        obtain ⟨kind, ino, pos, size, keep, name, to, bs⟩ := o'
        obtain rfl : e = .returned (.agg #[.int .i64 kind, .int .i64 ino, .int .i64 pos, .int .i64 size, .bool keep, .string name, .string to, .slice BA bs.length cb]) := he
        have C3 := Lib.hid (C.out.on k3)
        have HOi := Lib.hid hoi; have HSm := Lib.hid hsm; have H9 := Lib.hid h9; have HNw := Lib.hid hnew; have KR3 := Lib.hid (KR.out.trans (k3.mono KR.out.size)); have HSz := Lib.hid k3.size
        clear hoi hsm h9 hnew k3 x0 x1 x2 x3 x4 x5 x6
        have hT30 : T.length + 1 ≤ 1000000 := by have := HT.out; omega
        have hU3 := C3.out.size
        have HAd := Lib.hid (show OA = none ∨ ∃ g, OA = some ⟨g, 0, none⟩ from C3.out.own.addr.imp id (fun ⟨g, hg, _⟩ => ⟨g, hg⟩))
        have HTL := Lib.hid (show (T ++ [(⟨⟨kind, ino, pos, size, keep, name, to, bs⟩, BA, cb⟩ : Om)]).length = k + 1 by rw [List.length_append, HT.out]; rfl)
        have HOwn := Lib.hid (fun (v : World) (kk : Below w3.heap.size w3 v) => show OwnS elO (U.heap.size + 1) v (.slice OA k oc) T from by have := (C3.out.on kk).own; rwa [HT.out] at this)
        have HOa := Lib.hid (show ∀ g p, BA = some ⟨g, p, none⟩ → U.heap.size < g ∧ OA ≠ some ⟨g, 0, none⟩ from fun g p he => by
          have h1 := HNw.out g p he
          refine ⟨by have := C.out.size; omega, fun hd => ?_⟩
          rcases C.out.own.addr with h0 | ⟨y, hy, _, hl⟩
          · rw [h0] at hd; cases hd
          · rw [hy] at hd; injection hd with hd; injection hd with hd; omega)
        have hq0 := HQQ.out
        go_upto_region 10 with (first | (with_reducible refine st_oneE tyO rfl (.tmp 28) rfl (⟨⟨kind, ino, pos, size, keep, name, to, bs⟩, BA, cb⟩ : Om) rfl ?_; intro vb w4 hvb r4 k4; have R4 := Lib.hid r4; have K4 := Lib.hid k4; clear r4 k4 hvb) | (at_builtin; refine st_catE tyO rfl _ _ rfl (U.heap.size + 1) (.slice OA k oc) T rfl (HOwn.out _ K4.out) (some ⟨vb, 0, none⟩) 1 1 [(⟨⟨kind, ino, pos, size, keep, name, to, bs⟩, BA, cb⟩ : Om)] rfl (sl_one (E := elO) R4.out) hT30 (Nat.le_trans hU3 K4.out.size) (T ++ [(⟨⟨kind, ino, pos, size, keep, name, to, bs⟩, BA, cb⟩ : Om)]) (k + 1) rfl HTL.out ?_; intro G g w5 q5 o5 s5; have Q5 := Lib.hid q5; have O5 := Lib.hid (own_only HAd.out o5); have HS5 := Lib.hid s5; clear q5 o5 s5))
        have C5 := Lib.hid ((C3.out.on K4.out).push Q5.out HTL.out O5.out (fun d hd => (HS5.out d hd).imp (own_src HAd.out) id) (HOi.out.on K4.out) HSm.out H9.out HOa.out)
        obtain ⟨ga, hga⟩ : ∃ ga, G = some ⟨ga, 0, none⟩ := by
          rcases C5.out.own.open.2 with ⟨_, h0, _⟩ | ⟨g', _, hg', _⟩
          · rw [HTL.out] at h0; omega
          · exact ⟨g', hg'⟩
        subst hga
        clear hT30 hU3
        have HAt := Lib.hid (fun (v : World) (kk : Below w5.heap.size w5 v) => Oms.at (C5.out.on kk).own.sl' k (by rw [HTL.out]; omega) ⟨⟨kind, ino, pos, size, keep, name, to, bs⟩, BA, cb⟩ (by rw [List.getD_eq_getElem?_getD, List.getElem?_append_right (by rw [HT.out]; exact Nat.le_refl _), HT.out, Nat.sub_self]; rfl))
        have HBx := Lib.hid (fun (v : World) (kk : Below w5.heap.size w5 v) => show IBox v q F R.length f F' X.length f' from by have := (C5.out.on kk).box; rwa [HQQ.out] at this)
        simp only [Nat.zero_add] at HAt
        have qb0 := fun u : Wb w5 => (HBx.out _ u.k).c0
        have qb1 := fun u : Wb w5 => (HBx.out _ u.k).c1
        have qo0 := fun u : Wb w5 => (HAt.out _ u.k).1
        have qo1 := fun u : Wb w5 => (HAt.out _ u.k).2.1
        have qo2 := fun u : Wb w5 => (HAt.out _ u.k).2.2.1
        have qo3 := fun u : Wb w5 => (HAt.out _ u.k).2.2.2.1
        have qo4 := fun u : Wb w5 => (HAt.out _ u.k).2.2.2.2.1
        have qo5 := fun u : Wb w5 => (HAt.out _ u.k).2.2.2.2.2.1
        have qo6 := fun u : Wb w5 => (HAt.out _ u.k).2.2.2.2.2.2.1
        have qo7 := fun u : Wb w5 => (HAt.out _ u.k).2.2.2.2.2.2.2
        have Kd := Lib.hid (show Below w5.heap.size w5 w5.drew from (Below.refl _ _).drew)
        have hk1 : (k : Int) < (k : Int) + 1 := by omega
        have HGd := Lib.hid (show GoodI (ig R X) by rw [C.out.is]; exact good_all HOk.out.good _)
        have HLn := Lib.hid (show Lens (30 + 60 * k) (ig R X) by
          rw [C.out.is]
          have := lens_all (T.map Om.o) (ig M Y) 30 HOk.out.good HOk.out.lens (fun o ho => by obtain ⟨x, hx, rfl⟩ := List.mem_map.1 ho; exact C.out.small x hx)
          rwa [List.length_map, HT.out] at this)
        refine wp_region_p (fun w' => ∃ u : Wb w5, w' = u.v) 6 [(0, 5)] [(5, 1)] _ (by kernel_rfl) rfl (by kernel_rfl) (by kernel_rfl) (by kernel_rfl) ⟨⟨w5.drew, Kd.out⟩, rfl⟩ ?_
        simp only [pieces, List.flatMap_cons, List.flatMap_nil, List.take_succ_cons, List.take_zero, List.drop_succ_cons, List.drop_zero, List.append_nil]
        repeat (go_big_quiet_step (fail))
        refine wpQuiet_nil ?_
        clear qb0 qb1 qo0 qo1 qo2 qo3 qo4 qo5 qo6 qo7
        have HIn := Lib.hid (C5.out.on Kd.out)
        have HOp := Lib.hid (C5.out.op _ (List.mem_append_right T (List.mem_singleton.2 rfl)))
        refine tail_cons ?_
        go_wp2_with (go_at_call 24; refine (rapply_any F f F' f' R X ⟨kind, ino, pos, size, keep, name, to, bs⟩ BA cb (30 + 60 * k) _ HIn.out.im (by have := (good_lens HGd.out).1; omega) (by have := (good_lens HGd.out).2; omega) HLn.out (HOp.out.on Kd.out) H9.out (by omega) true (by simpa using HGd.out) (applyS (ig R X) ⟨kind, ino, pos, size, keep, name, to, bs⟩) (fun _ => rfl) (fun h => by cases h)).mono ?_; rintro e w6 ⟨E, e1, E', e2, R2, X2, hi, he, him, k6, hnw⟩; obtain rfl : e = .returned (.agg #[.slice E R2.length e1, .slice E' X2.length e2]) := he; have K6 := Lib.hid (Kd.out.trans (k6.mono Kd.out.size)); have HI6 := Lib.hid hi; have HM6 := Lib.hid him; have HN6 := Lib.hid hnw; have HK6 := Lib.hid k6; clear k6 hi him hnw)
        obtain ⟨bx, XN⟩ := HIn.out.store HI6.out (Tn := T ++ [(⟨⟨kind, ino, pos, size, keep, name, to, bs⟩, BA, cb⟩ : Om)]) (by rw [all_snoc, ← C.out.is]) HM6.out HK6.out HN6.out
        refine tail_done ⟨⟨⟨w6, K6.out⟩, rfl⟩, tail_end ?_⟩
        rw [HQQ.out] at bx XN
        have HXN := Lib.hid XN
        have c0 := bx.c0; have c1 := bx.c1; have f0 := bx.f0; have f1 := bx.f1
        clear bx XN
        go_wp2
        refine tail_done ?_
        go_wp2
        go_roundw
        case rel => exact ⟨k + 1, _, _, _, _, _, _, _, _, _, by omega, rfl, by go_num, HTL.out, HXN.out⟩
        case measure => simp [intOf]; omega
      · have hkn : k = n2 := by omega
        have hki : ¬ (k : Int) < (n2 : Int) := by omega
        have hk40 : k ≤ 40 := by omega
        have KR := Lib.hid (KU.out.trans (C.out.below.mono KU.out.size))
        have B1 := Lib.hid (BU.out.on C.out.below); have I1 := Lib.hid (IU.out.on C.out.below)
        have C1 := Lib.hid (show IBox wr q F R.length f F' X.length f' by have := C.out.box; rwa [HQQ.out] at this)
        have HIm := Lib.hid C.out.im
        have HIs := Lib.hid C.out.is
        have HOs := Lib.hid (show OpsIn wr OA k oc T from ⟨by have := C.out.own.sl'; rwa [HT.out] at this, C.out.op⟩)
        have HSm := Lib.hid C.out.small
        clear C hkn
        have b0 := B1.out.c0; have b1 := B1.out.c1
        go_wp2_with fail
        refine (all_any D d D' d' M Y OA k oc T 30 wr I1.out (by have := (good_lens HOk.out.good).1; omega) (by have := (good_lens HOk.out.good).2; omega) HOk.out.lens HOs.out HSm.out (by omega) true (by simpa using HOk.out.good) (allS (ig M Y) (T.map Om.o)) (fun _ => rfl) (fun h => by cases h)).mono ?_
        rintro e w3 ⟨E, e1, E', e2, R2, X2, hi, he, him, k3⟩
        obtain rfl : e = .returned (.agg #[.slice E R2.length e1, .slice E' X2.length e2]) := he
        have K3 := Lib.hid (KR.out.trans (k3.mono KR.out.size)); have C3 := Lib.hid (C1.out.on k3); have HIm3 := Lib.hid (HIm.out.on k3)
        have HI3 := Lib.hid hi; have J3 := Lib.hid him.im
        clear k3 hi him b0 b1
        obtain ⟨W4, hW4⟩ : ∃ W4, w3.alloc (.cells #[.slice E R2.length e1, .slice E' X2.length e2] 25) = W4 := ⟨_, rfl⟩
        have kk : Below w3.heap.size w3 W4 := by rw [← hW4]; exact (Below.refl _ _).alloc (Nat.le_refl _) _
        have K4 := Lib.hid (K3.out.trans (kk.mono K3.out.size)); have C4 := Lib.hid (C3.out.on kk); have HIm4 := Lib.hid (HIm3.out.on kk); have J4 := Lib.hid (J3.out.on kk)
        have E4 := Lib.hid (show IBox W4 w3.heap.size E R2.length e1 E' X2.length e2 by rw [← hW4]; exact ibox_new _ _ _ _ _ _ _)
        have HW4 := Lib.hid hW4
        clear kk hW4
        go_upto_region 12 with fail
        rw [HW4.out]
        have c0 := C4.out.c0; have c1 := C4.out.c1; have e0 := E4.out.c0; have e1' := E4.out.c1
        go_wp2_with fail
        refine (rsame_img E R2.length e1 E' X2.length e2 R2 X2 F R.length f F' X.length f' R X W4 J4.out HIm4.out true (by simp [HI3.out, HIs.out])).mono ?_
        rintro e w5 ⟨rfl, k5⟩
        have K5 := Lib.hid (K4.out.trans (k5.mono K4.out.size)); have E5 := Lib.hid (E4.out.on k5); have J5 := Lib.hid (J4.out.on k5)
        clear k5 c0 c1 e0 e1'
        have e0 := E5.out.c0; have e1' := E5.out.c1
        go_wp2_with fail
        refine (mayi_any E R2.length e1 E' X2.length e2 R2 X2 w5 J5.out true (by simpa [HI3.out] using good_all HOk.out.good _)).mono ?_
        rintro e w6 ⟨rfl, k6⟩
        have K6 := Lib.hid (K5.out.trans (k6.mono K5.out.size))
        clear k6 e0 e1'
        go_wp2_with fail
        refine (law_runs _).mono ?_
        rintro e w7 ⟨rfl, k7⟩
        have K7 := Lib.hid (K6.out.trans (k7.mono K6.out.size))
        go_wp2
        go_ret
        exact ⟨rfl, K7.out⟩
end Go.Proofs.YtgaaieipeiekiaaGreat

namespace Go.Proofs.YtgaaieipeiekiaaGreat
open Go.RowKit Go.ChangeShapes Go.WideShapes
set_option maxRecDepth 100000

theorem cells111 : Tryz.prog.cellsOf 111 = 2 := by kernel_rfl
theorem cells87 : Tryz.prog.cellsOf 87 = 3 := by kernel_rfl
theorem cells85 : Tryz.prog.cellsOf 85 = 1 := by kernel_rfl
theorem cells50 : Tryz.prog.cellsOf 50 = 1 := by kernel_rfl
theorem cells52 : Tryz.prog.cellsOf 52 = 7 := by kernel_rfl

section
variable {H : Type} {enc : TypeId × Value → H} {w : World} {base : Nat}
theorem bk_read (fuel : Nat) (cs : List Value) (x : DataW H × List MemPlace) (hl : cs.length = elB.k) (h : DataW.trod enc Tryz.prog w base (fun _ => true) true fuel elB.t cs = some x) : ∃ e : Bk, e.ok ∧ cs = elB.enc e := by
  obtain ⟨xs, k, hk, hxy, _, hxl, hf⟩ := DataW.trod_struct (t := 111) Tryz.underlying111 h
  match xs, hxl, cs, hl with
  | [y0, y1], _, [v0, v1], _ =>
    have g0 := hf 0 _ rfl
    have g1 := hf 1 _ rfl
    simp [cells5'] at g0 g1
    obtain ⟨p, hp, _, wp⟩ := DataW.trod_int Tryz.underlying5 g0
    obtain ⟨q, hq, _, wq⟩ := DataW.trod_int Tryz.underlying5 g1
    simp at hp hq
    subst hp hq
    have b1 := bounds_u8 wp; have b2 := bounds_u8 wq
    have hok : (0 ≤ p ∧ p ≤ 255) ∧ (0 ≤ q ∧ q ≤ 255) := by omega
    exact ⟨⟨p, q⟩, hok, rfl⟩
theorem kp_read (fuel : Nat) (cs : List Value) (x : DataW H × List MemPlace) (hl : cs.length = elK.k) (h : DataW.trod enc Tryz.prog w base (fun _ => true) true fuel elK.t cs = some x) : ∃ e : Kp, e.ok w ∧ cs = elK.enc e := by
  obtain ⟨xs, k, hk, hxy, _, hxl, hf⟩ := DataW.trod_struct (t := 87) Tryz.underlying87 h
  match xs, hxl, cs, hl with
  | [y0, y1, y2], _, [v0, v1, v2], _ =>
    have g0 := hf 0 _ rfl
    have g1 := hf 1 _ rfl
    have g2 := hf 2 _ rfl
    simp [cells5', cells50, cells85] at g0 g1 g2
    obtain ⟨p, hp, _, wp⟩ := DataW.trod_int Tryz.underlying5 g0
    obtain ⟨q, hq, _, wq⟩ := DataW.trod_int Tryz.underlying50 g1
    obtain ⟨A, n, c, L, he, hL, hb⟩ := sl_read (E := elB) (ts := 85) (P := Bk.ok) Tryz.underlying85 cells111 bk_read g2
    simp at hp hq
    subst hp hq he
    have b1 := bounds_u8 wp; have b2 := bounds_u16 wq
    exact ⟨⟨p, q, A, n, c, L⟩, ⟨by show 0 ≤ p; omega, by show 0 ≤ q; omega, hL, hb⟩, rfl⟩
theorem lo_read (fuel : Nat) (cs : List Value) (x : DataW H × List MemPlace) (hl : cs.length = elQ.k) (h : DataW.trod enc Tryz.prog w base (fun _ => true) true fuel elQ.t cs = some x) : ∃ e : Lo, e.ok ∧ cs = elQ.enc e := by
  obtain ⟨xs, k, hk, hxy, _, hxl, hf⟩ := DataW.trod_struct (t := 52) Tryz.underlying52 h
  match xs, hxl, cs, hl with
  | [y0, y1, y2, y3, y4, y5, y6], _, [v0, v1, v2, v3, v4, v5, v6], _ =>
    have g0 := hf 0 _ rfl
    have g1 := hf 1 _ rfl
    have g2 := hf 2 _ rfl
    have g3 := hf 3 _ rfl
    have g4 := hf 4 _ rfl
    have g5 := hf 5 _ rfl
    have g6 := hf 6 _ rfl
    simp [cells5', cells50, cells4'] at g0 g1 g2 g3 g4 g5 g6
    obtain ⟨a0, e0, _, w0⟩ := DataW.trod_int Tryz.underlying5 g0
    obtain ⟨a1, e1, _, w1⟩ := DataW.trod_int Tryz.underlying5 g1
    obtain ⟨a2, e2, _, w2⟩ := DataW.trod_int Tryz.underlying5 g2
    obtain ⟨a3, e3, _, w3⟩ := DataW.trod_int Tryz.underlying5 g3
    obtain ⟨a4, e4, _, w4⟩ := DataW.trod_int Tryz.underlying50 g4
    obtain ⟨a5, e5, _, w5⟩ := DataW.trod_int Tryz.underlying50 g5
    obtain ⟨a6, e6, _⟩ := DataW.trod_bool Tryz.underlying4 g6
    simp at e0 e1 e2 e3 e4 e5 e6
    subst e0 e1 e2 e3 e4 e5 e6
    have b0 := bounds_u8 w0; have b1 := bounds_u8 w1; have b2 := bounds_u8 w2; have b3 := bounds_u8 w3; have b4 := bounds_u16 w4; have b5 := bounds_u16 w5
    exact ⟨⟨a0, a1, a2, a3, a4, a5, a6⟩, ⟨⟨by show 0 ≤ a0; omega, by show a0 ≤ 255; omega⟩, ⟨by show 0 ≤ a1; omega, by show a1 ≤ 255; omega⟩, ⟨by show 0 ≤ a2; omega, by show a2 ≤ 255; omega⟩, ⟨by show 0 ≤ a3; omega, by show a3 ≤ 255; omega⟩, ⟨by show 0 ≤ a4; omega, by show a4 ≤ 65535; omega⟩, ⟨by show 0 ≤ a5; omega, by show a5 ≤ 65535; omega⟩⟩, rfl⟩

theorem open_kps {r : Reach} {bb : Nat} {v : Value} {d : DataW H} {p : List MemPlace} (hv : Value.okWide Tryz.prog w r bb 46 v) (h : DataW.Trod enc Tryz.prog w base (fun _ => true) true 46 v d p) : ∃ (A : Option Addr) (n c : Nat) (P : List Kp), v = .slice A n c ∧ KpsIn w A n c P := by
  obtain ⟨A0, n0, c0, rfl⟩ := okWide_slice Tryz.underlying46 hv
  obtain ⟨fuel, hf⟩ := h
  obtain ⟨A, n, c, L, he, hL, hb⟩ := sl_read (E := elK) (ts := 46) (P := fun e => e.ok w) Tryz.underlying46 cells87 kp_read (v := .slice A0 n0 c0) (by simpa [Value.cells] using hf)
  exact ⟨A, n, c, L, he, hL, hb⟩
theorem open_los {r : Reach} {bb : Nat} {v : Value} {d : DataW H} {p : List MemPlace} (hv : Value.okWide Tryz.prog w r bb 47 v) (h : DataW.Trod enc Tryz.prog w base (fun _ => true) true 47 v d p) : ∃ (A : Option Addr) (n c : Nat) (P : List Lo), v = .slice A n c ∧ (Sl elQ w A n c P ∧ ∀ x ∈ P, x.ok) := by
  obtain ⟨A0, n0, c0, rfl⟩ := okWide_slice Tryz.underlying47 hv
  obtain ⟨fuel, hf⟩ := h
  obtain ⟨A, n, c, L, he, hL, hb⟩ := sl_read (E := elQ) (ts := 47) (P := Lo.ok) Tryz.underlying47 cells52 lo_read (v := .slice A0 n0 c0) (by simpa [Value.cells] using hf)
  exact ⟨A, n, c, L, he, hL, hb⟩
end
end Go.Proofs.YtgaaieipeiekiaaGreat

namespace Go.Proofs.YtgaaieipeiekiaaGreat
open Go.RowKit

def oR (a b : ByteArray) : Opv := ⟨6, 0, 0, 0, false, a, b, []⟩
def oD (a : ByteArray) : Opv := ⟨7, 0, 0, 0, false, a, ⟨#[]⟩, []⟩
def oN (a : ByteArray) : Opv := ⟨1, 77, 0, 0, false, a, ⟨#[]⟩, []⟩
theorem find_some {I : Ig} {a : ByteArray} {k : Int} (h : findI I a = (k, true)) : ∃ x, fnd Nm.name I.N a = some x ∧ x.ino = k := by
  unfold findI at h
  cases hx : fnd Nm.name I.N a with
  | none => rw [hx] at h; injection h with _ h; cases h
  | some x => rw [hx] at h; injection h with h _; exact ⟨x, rfl, h⟩
theorem find_none {I : Ig} {a : ByteArray} {k : Int} (h : findI I a = (k, false)) : fnd Nm.name I.N a = none ∧ k = 0 := by
  unfold findI at h
  cases hx : fnd Nm.name I.N a with
  | none => rw [hx] at h; injection h with h _; exact ⟨rfl, h.symm⟩
  | some x => rw [hx] at h; injection h with _ h; cases h
def sumL (D : List Nd) : Nat := (D.map fun d => d.L.length).sum
theorem used_of (N : List Nm) (D : List Nd) : usedI ⟨N, D⟩ = sumL D := rfl
theorem used_all (I : Ig) : usedI I = sumL I.D := rfl
theorem used_perm {D E : List Nd} (h : D.Perm E) : sumL D = sumL E := (h.map _).sum_nat
theorem used_cons (d : Nd) (D : List Nd) : sumL (d :: D) = d.L.length + sumL D := by unfold sumL; rw [List.map_cons, List.sum_cons]
theorem used_del {D : List Nd} {k : Int} {d : Nd} (hr : Rise ordI Nd.ino D) (h : fnd Nd.ino D k = some d) : sumL D = d.L.length + sumL (del Nd.ino D k) := by
  rw [used_perm (del_perm hr h), used_cons]
theorem used_ins (D : List Nd) (d : Nd) : sumL (ins ordI Nd.ino D d) = d.L.length + sumL D := by
  rw [used_perm (ins_perm (O := ordI) Nd.ino D d), used_cons]

theorem names_same {I : Ig} {a b : ByteArray} {n : Int} {ok : Bool} (h : findI I a = (n, ok)) (hc : ok = false ∨ b = a) : applyS I (oR a b) = I := by
  unfold applyS oR
  rw [if_neg (show ¬ (6 : Int) = 1 by decide), if_pos rfl]
  cases ok with
  | false => rw [(find_none h).1]
  | true =>
    obtain ⟨x, hx, _⟩ := find_some h
    simp only [hx]
    rw [if_neg]
    rintro ⟨_, h2⟩
    rcases hc with hc | hc
    · cases hc
    · exact h2 hc

structure Moved (I J : Ig) (a b : ByteArray) (n m : Int) (other : Bool) (cs : Int) (cL wL : List Ex) : Prop where
  there : findI J b = (n, true)
  has : getI J n = ((cs, cL), true)
  away : findI J a = (0, false)
  gone : getI J m = ((0, []), false)
  used : (usedI J : Int) = if other = true then (usedI I : Int) - (wL.length : Int) else (usedI I : Int)
theorem getI_of {I : Ig} {n : Int} {cs : Int} {cL : List Ex} {cy : Bool} (h : getI I n = ((cs, cL), cy)) {d : Nd} (hd : fnd Nd.ino I.D n = some d) : d.s = cs ∧ d.L = cL ∧ cy = true := by
  unfold getI at h
  rw [hd] at h
  injection h with h1 h2
  injection h1 with h3 h4
  exact ⟨h3, h4, h2.symm⟩
theorem getI_some {I : Ig} {n : Int} {d : Nd} (hd : fnd Nd.ino I.D n = some d) : getI I n = ((d.s, d.L), true) := by unfold getI; rw [hd]
theorem getI_none {I : Ig} {n : Int} (hd : fnd Nd.ino I.D n = none) : getI I n = ((0, []), false) := by unfold getI; rw [hd]
theorem findI_some {I : Ig} {a : ByteArray} {x : Nm} (hd : fnd Nm.name I.N a = some x) : findI I a = (x.ino, true) := by unfold findI; rw [hd]
theorem findI_none {I : Ig} {a : ByteArray} (hd : fnd Nm.name I.N a = none) : findI I a = (0, false) := by unfold findI; rw [hd]

theorem none0 {I : Ig} (hg : GoodI I) (hi : ∀ x ∈ I.N, 5 ≤ x.ino ∧ x.ino ≤ 10) : fnd Nd.ino I.D 0 = none := fnd_none.2 fun d hd he => by
  have : d.ino ∈ I.N.map Nm.ino := hg.perm.mem_iff.2 (List.mem_map_of_mem hd)
  obtain ⟨x, hx, hxe⟩ := List.mem_map.1 this
  have := hi x hx
  omega
theorem names_moved {I : Ig} (hg : GoodI I) (hi : ∀ x ∈ I.N, 5 ≤ x.ino ∧ x.ino ≤ 10) {a b : ByteArray} (hb : okName b = true) (hab : b ≠ a) {n m : Int} {other : Bool} (h : findI I a = (n, true)) (h2 : findI I b = (m, other)) {cs ws : Int} {cL wL : List Ex} {cy wy : Bool} (hc : getI I n = ((cs, cL), cy)) (hw : getI I m = ((ws, wL), wy)) : Moved I (applyS I (oR a b)) a b n m other cs cL wL := by
  obtain ⟨x, hx, rfl⟩ := find_some h
  obtain ⟨dx, hdx⟩ := hg.node (fnd_mem hx).1
  obtain ⟨hc1, hc2, hc3⟩ := getI_of hc hdx
  cases other with
  | false =>
    obtain ⟨hy, rfl⟩ := find_none h2
    have hJ : applyS I (oR a b) = ⟨ins ordN Nm.name (del Nm.name I.N a) ⟨b, x.ino⟩, I.D⟩ := by
      unfold applyS oR
      rw [if_neg (show ¬ (6 : Int) = 1 by decide), if_pos rfl]
      simp only [hx]
      rw [if_pos ⟨hb, hab⟩, hy]
    rw [hJ]
    have hf : fnd Nm.name (del Nm.name I.N a) b = none := by rw [fnd_del]; split; rfl; exact hy
    have hr := rise_del hg.rise a
    refine ⟨?_, ?_, ?_, getI_none (I := ⟨ins ordN Nm.name (del Nm.name I.N a) ⟨b, x.ino⟩, I.D⟩) (none0 (I := I) hg hi), by rw [if_neg (by decide)]; rfl⟩
    · refine findI_some (x := ⟨b, x.ino⟩) ?_
      show fnd Nm.name (ins ordN Nm.name (del Nm.name I.N a) ⟨b, x.ino⟩) b = _
      rw [fnd_ins hr hf, if_pos rfl]
    · exact (getI_some (I := ⟨ins ordN Nm.name (del Nm.name I.N a) ⟨b, x.ino⟩, I.D⟩) hdx).trans (by rw [hc1, hc2])
    · refine findI_none ?_
      show fnd Nm.name (ins ordN Nm.name (del Nm.name I.N a) ⟨b, x.ino⟩) a = _
      rw [fnd_ins hr hf, if_neg (fun e => hab e.symm), fnd_del, if_pos rfl]
  | true =>
    obtain ⟨y, hy, rfl⟩ := find_some h2
    obtain ⟨dy, hdy⟩ := hg.node (fnd_mem hy).1
    obtain ⟨hw1, hw2, hw3⟩ := getI_of hw hdy
    have hJ : applyS I (oR a b) = ⟨ins ordN Nm.name (del Nm.name (del Nm.name I.N a) b) ⟨b, x.ino⟩, del Nd.ino I.D y.ino⟩ := by
      unfold applyS oR
      rw [if_neg (show ¬ (6 : Int) = 1 by decide), if_pos rfl]
      simp only [hx]
      rw [if_pos ⟨hb, hab⟩]
      simp only [hy]
    rw [hJ]
    have hf : fnd Nm.name (del Nm.name (del Nm.name I.N a) b) b = none := by rw [fnd_del, if_pos rfl]
    have hr := rise_del (rise_del hg.rise a) b
    have hxy : x.ino ≠ y.ino := by
      intro he
      obtain ⟨i, hi, hxi⟩ := List.mem_iff_getElem.1 (fnd_mem hx).1
      obtain ⟨j, hj, hyj⟩ := List.mem_iff_getElem.1 (fnd_mem hy).1
      have ei : I.N.getD i default = x := by rw [List.getD_eq_getElem?_getD, List.getElem?_eq_getElem hi, hxi]; rfl
      have ej : I.N.getD j default = y := by rw [List.getD_eq_getElem?_getD, List.getElem?_eq_getElem hj, hyj]; rfl
      rcases Nat.lt_trichotomy i j with h1 | h1 | h1
      · exact hg.apart h1 hj (by rw [ei, ej]; exact he)
      · subst h1
        have e1 := (fnd_mem hx).2; have e2 := (fnd_mem hy).2
        rw [← hxi] at e1; rw [← hyj] at e2
        exact hab (e2.symm.trans e1)
      · exact hg.apart h1 hi (by rw [ei, ej]; exact he.symm)
    refine ⟨?_, ?_, ?_, ?_, ?_⟩
    · refine findI_some (x := ⟨b, x.ino⟩) ?_
      show fnd Nm.name (ins ordN Nm.name (del Nm.name (del Nm.name I.N a) b) ⟨b, x.ino⟩) b = _
      rw [fnd_ins hr hf, if_pos rfl]
    · have : fnd Nd.ino (del Nd.ino I.D y.ino) x.ino = some dx := by rw [fnd_del, if_neg hxy]; exact hdx
      exact (getI_some (I := ⟨ins ordN Nm.name (del Nm.name (del Nm.name I.N a) b) ⟨b, x.ino⟩, del Nd.ino I.D y.ino⟩) this).trans (by rw [hc1, hc2])
    · refine findI_none ?_
      show fnd Nm.name (ins ordN Nm.name (del Nm.name (del Nm.name I.N a) b) ⟨b, x.ino⟩) a = _
      rw [fnd_ins hr hf, if_neg (fun e => hab e.symm), fnd_del, if_neg (fun e => hab e.symm), fnd_del, if_pos rfl]
    · refine getI_none ?_
      show fnd Nd.ino (del Nd.ino I.D y.ino) y.ino = none
      rw [fnd_del, if_pos rfl]
    · rw [if_pos rfl]
      have := used_del hg.up hdy
      rw [hw2] at this
      rw [used_of, used_all]
      omega

structure Made (I X : Ig) (a : ByteArray) (cL : List Ex) : Prop where
  there : findI X a = (77, true)
  has : getI X 77 = ((0, []), true)
  used : (usedI X : Int) = (usedI I : Int) - (cL.length : Int)
theorem fnd77 {I : Ig} (hg : GoodI I) (hi : ∀ x ∈ I.N, 5 ≤ x.ino ∧ x.ino ≤ 10) (k : Int) : fnd Nd.ino (del Nd.ino I.D k) 77 = none ∧ fnd Nd.ino I.D 77 = none := by
  have h : ∀ d ∈ I.D, d.ino ≠ 77 := fun d hd he => by
    have : d.ino ∈ I.N.map Nm.ino := hg.perm.mem_iff.2 (List.mem_map_of_mem hd)
    obtain ⟨x, hx, hxe⟩ := List.mem_map.1 this
    have := hi x hx
    omega
  exact ⟨fnd_none.2 fun d hd => h d (mem_del.1 hd).1, fnd_none.2 h⟩
theorem names_made {I : Ig} (hg : GoodI I) (hi : ∀ x ∈ I.N, 5 ≤ x.ino ∧ x.ino ≤ 10) (hl : I.N.length ≤ 6) {a : ByteArray} (ha : okName a = true) {n : Int} {ok : Bool} (h : findI I a = (n, ok)) {cs : Int} {cL : List Ex} {cy : Bool} (hc : getI I n = ((cs, cL), cy)) : Made I (allS I [oD a, oN a]) a cL := by
  have h77 : okIno 77 = true := by decide
  cases ok with
  | false =>
    obtain ⟨hx, rfl⟩ := find_none h
    have h0 : fnd Nd.ino I.D 0 = none := fnd_none.2 fun d hd he => by
      have : d.ino ∈ I.N.map Nm.ino := hg.perm.mem_iff.2 (List.mem_map_of_mem hd)
      obtain ⟨x, hx, hxe⟩ := List.mem_map.1 this
      have := hi x hx
      omega
    rw [getI_none h0] at hc
    injection hc with hc1 _
    injection hc1 with _ hc2
    subst hc2
    have e1 : applyS I (oD a) = I := by
      unfold applyS oD
      rw [if_neg (show ¬ (7 : Int) = 1 by decide), if_neg (show ¬ (7 : Int) = 6 by decide), if_pos rfl]
      simp only [hx]
    have e2 : applyS I (oN a) = ⟨ins ordN Nm.name I.N ⟨a, 77⟩, ins ordI Nd.ino I.D ⟨77, 0, []⟩⟩ := by
      unfold applyS oN
      rw [if_pos rfl, if_pos ⟨ha, hx, h77, (fnd77 hg hi 0).2, by omega⟩]
    have e3 : allS I [oD a, oN a] = ⟨ins ordN Nm.name I.N ⟨a, 77⟩, ins ordI Nd.ino I.D ⟨77, 0, []⟩⟩ := by
      show applyS (applyS I (oD a)) (oN a) = _
      rw [e1, e2]
    rw [e3]
    refine ⟨findI_some (x := ⟨a, 77⟩) ?_, getI_some (d := ⟨77, 0, []⟩) ?_, ?_⟩
    · show fnd Nm.name (ins ordN Nm.name I.N ⟨a, 77⟩) a = _
      rw [fnd_ins hg.rise hx, if_pos rfl]
    · show fnd Nd.ino (ins ordI Nd.ino I.D ⟨77, 0, []⟩) 77 = _
      rw [fnd_ins hg.up (fnd77 hg hi 0).2, if_pos rfl]
    · rw [used_of, used_all, used_ins]; simp
  | true =>
    obtain ⟨x, hx, rfl⟩ := find_some h
    obtain ⟨dx, hdx⟩ := hg.node (fnd_mem hx).1
    obtain ⟨hc1, hc2, hc3⟩ := getI_of hc hdx
    have e1 : applyS I (oD a) = ⟨del Nm.name I.N a, del Nd.ino I.D x.ino⟩ := by
      unfold applyS oD
      rw [if_neg (show ¬ (7 : Int) = 1 by decide), if_neg (show ¬ (7 : Int) = 6 by decide), if_pos rfl]
      simp only [hx]
    have hf : fnd Nm.name (del Nm.name I.N a) a = none := by rw [fnd_del, if_pos rfl]
    have hll := len_del Nm.name I.N a
    have e2 : applyS ⟨del Nm.name I.N a, del Nd.ino I.D x.ino⟩ (oN a) = ⟨ins ordN Nm.name (del Nm.name I.N a) ⟨a, 77⟩, ins ordI Nd.ino (del Nd.ino I.D x.ino) ⟨77, 0, []⟩⟩ := by
      unfold applyS oN
      rw [if_pos rfl, if_pos ⟨ha, hf, h77, (fnd77 hg hi x.ino).1, by show (del Nm.name I.N a).length < 16; omega⟩]
    have e3 : allS I [oD a, oN a] = ⟨ins ordN Nm.name (del Nm.name I.N a) ⟨a, 77⟩, ins ordI Nd.ino (del Nd.ino I.D x.ino) ⟨77, 0, []⟩⟩ := by
      show applyS (applyS I (oD a)) (oN a) = _
      rw [e1, e2]
    rw [e3]
    refine ⟨findI_some (x := ⟨a, 77⟩) ?_, getI_some (d := ⟨77, 0, []⟩) ?_, ?_⟩
    · show fnd Nm.name (ins ordN Nm.name (del Nm.name I.N a) ⟨a, 77⟩) a = _
      rw [fnd_ins (rise_del hg.rise a) hf, if_pos rfl]
    · show fnd Nd.ino (ins ordI Nd.ino (del Nd.ino I.D x.ino) ⟨77, 0, []⟩) 77 = _
      rw [fnd_ins (rise_del hg.up _) (fnd77 hg hi x.ino).1, if_pos rfl]
    · rw [used_of, used_all, used_ins]
      have := used_del hg.up hdx
      rw [hc2] at this
      simp
      omega
end Go.Proofs.YtgaaieipeiekiaaGreat
