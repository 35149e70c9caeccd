/- Contract of image's renewed: the walk. / Contract of image's changed. / Contract of image's changed: the walk. / Changes in memory; contracts of image's All, Apply. / Contracts of the laws' few and Few. / Contracts of slices.Sort, Compact over numbers (the shelf's), EqualFunc of numbers and files, image's paired. -/
import Derived.Test.YtgaaieipeiekiaaGreatPkK
import Derived.WalkKit
import Derived.WalkSpells
import Derived.WalkLawsBesides
import Derived.Lib.Hide
import Derived.BigQuiet
import Derived.Test.YtgaaieipeiekiaaGreatShelf
import Derived.Test.YtgaaieipeiekiaaGreatPkJ
import Derived.OwnWalk
namespace Go.Proofs.YtgaaieipeiekiaaGreat
open Go.RowKit
set_option maxRecDepth 100000

theorem own_free {α : Type} [Inhabited α] {E : El α} {B : Nat} {w : World} {g n c : Nat} {L : List α} (h : OwnS E B w (.slice (some ⟨g, 0, none⟩) n c) L) (j : Nat) : w.frozen? ⟨g, j, none⟩ = false := by
  obtain ⟨_, _, he, _, hfz⟩ := h.sl
  injection he with e1 e2 e3
  exact (hfz g 0 e1.symm).2.2.2 j

set_option maxHeartbeats 8000000 in
theorem renewed_any (A : Option Addr) (c : Nat) (A' : Option Addr) (c' : Nat) (N : List Nm) (Z : List Nz) (w : World) (h : Im w A N.length c A' Z.length c' N Z) (hn : N.length ≤ 1000) (hk : Z.length ≤ 1000) (hl : ∀ z ∈ Z, z.n ≤ 1000000) :
    Calls Tryz.prog 53 #[iv A N.length c A' Z.length c'] w (RenewPost N Z w) := by
  obtain ⟨W, hW⟩ : ∃ W, entry w A N.length c A' Z.length c' = W := ⟨_, rfl⟩
  have HW := Lib.hid (show (w.alloc (.cells #[.slice A N.length c, .slice A' Z.length c'] 25)).alloc (.cells #[.slice none 0 0, .slice none 0 0] 25) = W from hW)
  have KW := Lib.hid (show Below w.heap.size w W by rw [← hW]; exact entry_below _ _ _ _ _ _ _)
  have B0 := Lib.hid (show IBox W w.heap.size A N.length c A' Z.length c' by
    rw [← hW]; exact (ibox_new w _ _ _ _ _ _).on ((Below.refl _ _).alloc (Nat.le_refl _) _))
  have R0 := Lib.hid (show IBox W (w.heap.size + 1) none 0 0 none 0 0 by
    rw [← hW]
    have := ibox_new (w.alloc (.cells #[.slice A N.length c, .slice A' Z.length c'] 25)) none 0 0 none 0 0
    simpa [entry] using this)
  have HS := Lib.hid (show W.heap.size = w.heap.size + 2 by rw [← hW]; simp [entry])
  have H := Lib.hid h; have HL := Lib.hid hl
  clear h hl hW
  show Calls Tryz.prog 53 #[.agg #[.slice A N.length c, .slice A' Z.length c']] w _
  go_enter Tryz.func53, Tryz.ntmps53
  go_upto_region 1 with fail
  rw [HW.out]
  have b0 := B0.out.c0; have b1 := B0.out.c1
  go_upto_region 2 with (at_make; refine st_makeE tyZ rfl _ _ rfl _ Z.length rfl rfl rfl (by omega) ?_; intro g w1 hg q1 k1; have Q1 := Lib.hid q1; have K1 := Lib.hid k1; have HG := Lib.hid hg; clear q1 k1 hg)
  clear b0 b1
  have X0 := Lib.hid (show Rn w w1 A c A' c' N Z g (List.replicate Z.length nz0) 0 from ⟨Q1.out.mono KW.out.size, by simp, fun i hi => absurd hi (by omega), H.out.on (KW.out.trans (K1.out.mono KW.out.size)), B0.out.on K1.out, R0.out.on K1.out, KW.out.trans (K1.out.mono KW.out.size), by have := HS.out; have := HG.out; omega, by
    rcases Q1.out.addr with h0 | ⟨g', he, _, hlt⟩
    · cases h0
    · injection he with he; injection he with he; subst he; exact hlt⟩)
  have b0 := X0.out.box.c0; have b1 := X0.out.box.c1
  go_wp2
  go_loopw [13] (fun i wr => ∃ (j : Nat) (R : List Nz), j ≤ Z.length ∧ i = .int .i64 j ∧ Hid (Rn w wr A c A' c' N Z g R j)) (fun i _ => Z.length - (intOf i).toNat)
  case atStart => exact ⟨0, _, Nat.zero_le _, rfl, X0.out⟩
  case round =>
    clear X0 b0 b1 Q1 K1
    obtain ⟨j, R, hj, rfl, X⟩ := hrel
    by_cases hlt : j < Z.length
    · obtain ⟨b, o, rfl, hb, _⟩ := X.out.im.nodes.cells (by omega)
      obtain ⟨e0, e1, e2⟩ := Nds.at X.out.im.nodes j hlt
      have hji : (j : Int) < (Z.length : Int) := by omega
      have HM := Lib.hid (getD_mem' hlt)
      have HP := Lib.hid (fun (w2 : World) (k : Below wr.heap.size wr w2) {F : Option Addr} {e : Nat} (hm : Mut (g + 1) w2 F (Z.getD j default).L.length e (Z.getD j default).L) => (X.out.on k).put hlt H.out hm)
      generalize Z.getD j default = z at *
      have HE := Lib.hid (X.out.im.exts z HM.out)
      obtain ⟨zi, zs, zA, zn, zc, zL⟩ := z
      simp only at e0 e1 e2 HP HE
      have hzn := HL.out _ HM.out
      simp only at hzn
      go_upto_region 5 with fail
      obtain ⟨W1, hW1⟩ : ∃ W1, wr.alloc (.cells #[.int .i64 zi, .int .i64 zs, .slice zA zn zc] 59) = W1 := ⟨_, rfl⟩
      have HA := Lib.hid (show Below wr.heap.size wr W1 by rw [← hW1]; exact (Below.refl _ _).alloc (Nat.le_refl _) _)
      have D0 := Lib.hid (show ZBox W1 wr.heap.size zi zs zA zn zc by rw [← hW1]; exact zbox_new _ _ _ _ _ _)
      have HS1 := Lib.hid (show W1.heap.size = wr.heap.size + 1 by rw [← hW1]; simp)
      have HW1 := Lib.hid hW1
      have X1 := Lib.hid (X.out.on HA.out)
      have HE1 := Lib.hid (HE.out.on HA.out)
      clear hW1 e0 e1 e2
      rw [HW1.out]
      have S1 := And.intro D0.out.c0 (And.intro D0.out.c1 D0.out.c2)
      have SF := Lib.hid (fun w' (k : Below W1.heap.size W1 w') => And.intro (D0.out.on k).c0 (And.intro (D0.out.on k).c1 (D0.out.on k).c2))
      have HP1 := Lib.hid (show Below W1.heap.size W1 (W1.drewN 1) from below_drewN (Below.refl _ _) 1)
      have SG := Lib.hid (fun w2 w' (k : Below W1.heap.size W1 w2) (o : Only (fun d => d = g) w2 w') => have q : ZBox w' wr.heap.size zi zs zA zn zc := Row.only (D0.out.on k) o (by have := X.out.g1; omega); And.intro q.c0 (And.intro q.c1 q.c2))
      have hl1 : (0 : Nat) ≤ j := Nat.zero_le _
      go_region_held3 (fun w' => w'.cell? ⟨wr.heap.size, 0, none⟩ = some (.int .i64 zi) ∧ w'.cell? ⟨wr.heap.size, 1, none⟩ = some (.int .i64 zs) ∧ w'.cell? ⟨wr.heap.size, 2, none⟩ = some (.slice zA zn zc))
        (first | assumption | exact S1 | exact SF.out _ (Below.refl _ _) | exact SF.out _ HP1.out | exact SF.out _ K2.out | exact SG.out _ _ K2.out (only_set3 _ _ _ _ _ _ _ _))
        (first | (go_at_call 33; refine (copied_any zs zA zn zc zL _ (HE1.out.on HP1.out) hzn).mono ?_; rintro e w2 ⟨F, f, he, hm, k2⟩; obtain rfl : e = .returned (.agg #[.int .i64 zs, .slice F zL.length f]) := he; have K2 := Lib.hid (HP1.out.trans (k2.mono HP1.out.size)); have HM2 := Lib.hid hm; have X2 := Lib.hid (X1.out.on K2.out); obtain ⟨e0, e1, e2⟩ := Nds.at0 X2.out.own.sl' j hlt; have hfz := (own_free X2.out.own); have f0 := hfz (j * 3); have f1 := hfz (j * 3 + 1); have f2 := hfz (j * 3 + 2); clear k2 hm hfz))
      have XN := Lib.hid (HP.out w2 (HA.out.trans (K2.out.mono HA.out.size)) (HM2.out.weak (by show g + 1 ≤ W1.heap.size; have := X.out.g1; have := HS1.out; omega)))
      clear e0 e1 e2 f0 f1 f2 S1
      go_wp2
      go_roundw
      case rel => exact ⟨j + 1, _, by omega, by go_num, XN.out⟩
      case measure => simp [intOf]; omega
    · have hjz : j = Z.length := by omega
      have b0 := X.out.box.c0; have b1 := X.out.box.c1
      have HJ := Lib.hid hjz
      go_upto_region 7 with fail
      clear hjz
      go_wp2_with fail
      refine (clonen_any A N.length c N wr X.out.im.names (by omega)).mono ?_
      rintro e w2 ⟨D, d, rfl, q, k2⟩
      have X2 := Lib.hid (X.out.on k2)
      have Q2 := Lib.hid q; have K2 := Lib.hid k2
      clear q k2 b0 b1
      have r0 := X2.out.res.c0; have r1 := X2.out.res.c1; have g0 := X2.out.res.f0; have g1 := X2.out.res.f1
      go_wp2
      have ob := only_set2 w2 (w.heap.size + 1) (.slice D N.length d) (.slice (some ⟨g, 0, none⟩) Z.length Z.length)
      have hg0 := X2.out.g0
      have hDg : ∀ a, D = some ⟨a, 0, none⟩ → wr.heap.size ≤ a := fun a ha => by
        rcases Q2.out.addr with h0 | ⟨a', he, h1, _⟩
        · rw [h0] at ha; cases ha
        · rw [he] at ha; injection ha with ha; injection ha with ha; omega
      have hgr := X.out.g1
      have hap : ∀ z ∈ R, Mut (g + 1) wr z.A z.n z.c z.L := fun z hz => by
        obtain ⟨i, hi, rfl⟩ := List.mem_iff_getElem.1 hz
        have := (X.out.new i (by rw [HJ.out, ← X.out.len]; exact hi)).2
        rwa [List.getD_eq_getElem?_getD, List.getElem?_eq_getElem hi] at this
      have hwr := X.out.below.size
      refine res_ibox rfl (w.heap.size + 1) D N.length d (some ⟨g, 0, none⟩) Z.length Z.length rfl (X2.out.res.put _ _ _ _ _ _) rfl ⟨D, d, some ⟨g, 0, none⟩, Z.length, R, by rw [X.out.len], map_d_ext X.out.len (fun i hi => (X.out.new i (by rw [HJ.out]; exact hi)).1), ⟨?_, ?_, fun z hz => ?_, fun z hz hn' a o' he hS => ?_, X.out.im.str⟩, below_put X2.out.below _ (by omega) _ _⟩
      · exact (Q2.out.mono hwr).only ob (fun a ha hd => by have := hDg a ha; omega)
      · rw [X.out.len]
        exact X2.out.own.only ob (fun a ha hd => by injection ha with ha; injection ha with ha; omega)
      · exact ((hap z hz).on K2.out).exts.only ob (fun a o' he _ hd => by have := ((hap z hz).own a o' he).1; omega)
      · obtain ⟨h1, h2, _⟩ := (hap z hz).own a o' he
        rcases hS with hS | hS
        · have := hDg a hS; omega
        · injection hS with hS; injection hS with hS; omega
end Go.Proofs.YtgaaieipeiekiaaGreat

namespace Go.Proofs.YtgaaieipeiekiaaGreat
open Go.RowKit
set_option maxRecDepth 100000

theorem ins_map {α β K : Type} {O : Ord K} {key : α → K} {key' : β → K} (f : β → α) (hf : ∀ z, key (f z) = key' z) (L : List β) (y : β) : ins O key (L.map f) (f y) = (ins O key' L y).map f := by
  have e : (fun x => O.lt (key (f x)) (key' y)) = fun x => O.lt (key' x) (key' y) := by funext x; rw [hf]
  unfold ins ahd bhd
  rw [hf, List.takeWhile_map, List.dropWhile_map, List.map_append, List.map_cons]
  show List.map f (List.takeWhile (fun x => O.lt (key (f x)) (key' y)) L) ++ _ :: List.map f (List.dropWhile (fun x => O.lt (key (f x)) (key' y)) L) = _
  rw [e]
theorem exts_ibox {w : World} {g p n c : Nat} {L : List Ex} {A : Option Addr} {a b : Nat} {A' : Option Addr} {a' b' : Nat} (h : Exts w (some ⟨g, p, none⟩) n c L) (hn : 0 < n) (hb : IBox w g A a b A' a' b') : False := by
  obtain ⟨g', p', he, _, hc⟩ := h.cells hn
  injection he with he; injection he with e1 e2; subst e1 e2
  have h0 := hc 0 hn 0 _ rfl
  simp only [Nat.zero_mul, Nat.add_zero] at h0
  rw [Row.at hb] at h0
  match p, h0 with
  | 0, h0 => simp at h0
  | 1, h0 => simp at h0
  | p + 2, h0 => simp at h0
theorem next_res {B : Nat} {w w3 : World} {A A' D : Option Addr} {d : Nat} {D' : Option Addr} {d' : Nat} {M : List Nm} {Y : List Nz} (n : Next B w w3 A A' D d D' d' M Y) {b : Nat} {F : Option Addr} {f k : Nat} {F' : Option Addr} {f' k' : Nat} (hr : IBox w3 b F f k F' f' k') (hb : w.heap.size ≤ b) :
    IBox ((w3.setCell ⟨b, 0, none⟩ (.slice D M.length d)).setCell ⟨b, 1, none⟩ (.slice D' Y.length d')) b D M.length d D' Y.length d' ∧
    Next B w ((w3.setCell ⟨b, 0, none⟩ (.slice D M.length d)).setCell ⟨b, 1, none⟩ (.slice D' Y.length d')) A A' D d D' d' M Y := by
  have ob := only_set2 w3 b (.slice D M.length d) (.slice D' Y.length d')
  exact ⟨hr.put _ _ _ _ _ _, ⟨n.img.keep ob (fun g hg he => by subst he; exact n.img.ne hr (by decide) (by decide) hg) (fun z hz hn g p he h3 => by subst h3; have := n.img.exts z hz; rw [he] at this; exact exts_ibox this hn hr), n.only.trans ob (fun d hd hl => by omega), n.src⟩⟩
def ChPost (B : Nat) (A A' : Option Addr) (I : Ig) (w : World) (e : Ending) (w' : World) : Prop := ∃ M Y, ig M Y = I ∧ ImgPost B A A' M Y w e w'
/-- Answered, stored. -/
theorem Vo.answer {B : Nat} {w wr w4 : World} {A : Option Addr} {c : Nat} {A' : Option Addr} {c' : Nat} {N : List Nm} {Z : List Nz} {o : Opv} {BA : Option Addr} {cb : Nat} (h : Vo B w wr A c A' c' N Z o BA cb) {D : Option Addr} {d : Nat} {D' : Option Addr} {d' : Nat} {M : List Nm} {Y : List Nz} (n : Next B wr w4 A A' D d D' d' M Y) :
    IBox w4 (w.heap.size + 2) none 0 0 none 0 0 ∧
    IBox ((w4.setCell ⟨w.heap.size + 2, 0, none⟩ (.slice D M.length d)).setCell ⟨w.heap.size + 2, 1, none⟩ (.slice D' Y.length d')) (w.heap.size + 2) D M.length d D' Y.length d' ∧
    ImgPost B A A' M Y w (.returned (iv D M.length d D' Y.length d')) ((w4.setCell ⟨w.heap.size + 2, 0, none⟩ (.slice D M.length d)).setCell ⟨w.heap.size + 2, 1, none⟩ (.slice D' Y.length d')) := by
  have hr : IBox w4 (w.heap.size + 2) none 0 0 none 0 0 := Row.only h.res n.only (fun hd => by have := (h.old.lt hd).2; omega)
  have X := next_res (n.pre h.below) hr (by omega)
  exact ⟨hr, X.1, D, d, D', d', rfl, X.2⟩
/-- What create asks, and makes. -/
theorem apply_create {N : List Nm} {Z : List Nz} {o : Opv} (h16 : N.length ≤ 16) (hk : o.kind = 1) : ∃ M Y, ig M Y = applyS (ig N Z) o ∧ (mayCr N Z o.name o.ino → ins ordN Nm.name N ⟨o.name, o.ino⟩ = M ∧ ins ordI Nz.ino Z (nzE o.ino) = Y) ∧ (¬ mayCr N Z o.name o.ino → N = M ∧ Z = Y) := by
  have hf := fnd_map (key := Nd.ino) (key' := Nz.ino) Nz.d (fun _ => rfl) Z o.ino
  by_cases hc : mayCr N Z o.name o.ino
  · refine ⟨_, _, ?_, fun _ => ⟨rfl, rfl⟩, fun h => absurd hc h⟩
    unfold applyS
    rw [if_pos hk, if_pos ⟨hc.1, hc.2.1, hc.2.2.1, by show fnd Nd.ino (Z.map Nz.d) o.ino = none; rw [hf, hc.2.2.2.1]; rfl, by have := hc.2.2.2.2; show N.length < 16; omega⟩]
    show Ig.mk _ _ = Ig.mk _ _
    congr 1
    exact (ins_map (key := Nd.ino) (key' := Nz.ino) Nz.d (fun _ => rfl) Z (nzE o.ino)).symm
  · refine ⟨N, Z, ?_, fun h => absurd h hc, fun _ => ⟨rfl, rfl⟩⟩
    unfold applyS
    rw [if_pos hk, if_neg]
    rintro ⟨h1, h2, h3, h4, h5⟩
    refine hc ⟨h1, h2, h3, ?_, by have : N.length < 16 := h5; omega⟩
    have h4' : fnd Nd.ino (Z.map Nz.d) o.ino = none := h4
    rw [hf] at h4'
    exact Option.map_eq_none_iff.1 h4'
theorem ig_rem (N : List Nm) (Z : List Nz) (name : ByteArray) : ig (remN N name) (remZ N Z name) = (match fnd Nm.name N name with | none => ig N Z | some x => ⟨del Nm.name N name, del Nd.ino (Z.map Nz.d) x.ino⟩) := by
  unfold remN remZ
  cases fnd Nm.name N name with
  | none => rfl
  | some x =>
    show Ig.mk _ _ = Ig.mk _ _
    congr 1
    exact (del_map (key := Nd.ino) (key' := Nz.ino) Nz.d (fun _ => rfl) Z x.ino).symm
theorem apply_remove {N : List Nm} {Z : List Nz} {o : Opv} (hk : o.kind = 7) : ig (remN N o.name) (remZ N Z o.name) = applyS (ig N Z) o := by
  rw [ig_rem]
  unfold applyS
  rw [if_neg (by omega), if_neg (by omega), if_pos hk]
  rfl
theorem apply_rename {N : List Nm} {Z : List Nz} {o : Opv} (hk : o.kind = 6) : ∃ M Y, ig M Y = applyS (ig N Z) o ∧ (mayRn N o.name o.to → ∀ x, fnd Nm.name N o.name = some x → ins ordN Nm.name (remN (del Nm.name N o.name) o.to) ⟨o.to, x.ino⟩ = M ∧ remZ (del Nm.name N o.name) Z o.to = Y) ∧ (¬ mayRn N o.name o.to → N = M ∧ Z = Y) := by
  by_cases hc : mayRn N o.name o.to
  · obtain ⟨x, hx⟩ := Option.isSome_iff_exists.1 hc.1
    refine ⟨ins ordN Nm.name (remN (del Nm.name N o.name) o.to) ⟨o.to, x.ino⟩, remZ (del Nm.name N o.name) Z o.to, ?_, fun _ y hy => by rw [hx] at hy; injection hy with hy; subst hy; exact ⟨rfl, rfl⟩, fun h => absurd hc h⟩
    have hf : fnd Nm.name (del Nm.name N o.name) o.to = fnd Nm.name N o.to := by rw [fnd_del, if_neg hc.2.2]
    unfold applyS
    rw [if_neg (by omega), if_pos hk]
    show _ = match fnd Nm.name N o.name with | none => _ | some x => _
    rw [hx]
    simp only
    rw [if_pos ⟨hc.2.1, hc.2.2⟩]
    show _ = match fnd Nm.name N o.to with | none => _ | some y => _
    unfold remN remZ
    rw [hf]
    cases fnd Nm.name N o.to with
    | none => rfl
    | some y =>
      show Ig.mk _ _ = Ig.mk _ _
      congr 1
      exact (del_map (key := Nd.ino) (key' := Nz.ino) Nz.d (fun _ => rfl) Z y.ino).symm
  · refine ⟨N, Z, ?_, fun h => absurd h hc, fun _ => ⟨rfl, rfl⟩⟩
    unfold applyS
    rw [if_neg (by omega), if_pos hk]
    show _ = match fnd Nm.name N o.name with | none => _ | some x => _
    cases hx : fnd Nm.name N o.name with
    | none => rfl
    | some x =>
      simp only
      rw [if_neg]
      rintro ⟨h1, h2⟩
      exact hc ⟨by rw [hx]; rfl, h1, h2⟩
theorem apply_none {I : Ig} {o : Opv} (h : o.kind < 1 ∨ 7 < o.kind) : I = applyS I o := by
  unfold applyS
  rw [if_neg (by omega), if_neg (by omega), if_neg (by omega)]
  split
  · rfl
  · unfold chg
    rw [if_neg (by omega), if_neg (by omega), if_neg (by omega), if_neg (by omega)]
end Go.Proofs.YtgaaieipeiekiaaGreat

namespace Go.Proofs.YtgaaieipeiekiaaGreat
open Go.RowKit
set_option maxRecDepth 100000

theorem rise_d {Z : List Nz} : Rise ordI Nd.ino (Z.map Nz.d) ↔ Rise ordI Nz.ino Z := by unfold Rise; rw [List.pairwise_map]; exact Iff.rfl
theorem good_node {N : List Nm} {Z : List Nz} (h : GoodI (ig N Z)) (t : ByteArray) (x : Nm) (hx : fnd Nm.name N t = some x) : ∃ y, fnd Nz.ino Z x.ino = some y := by
  obtain ⟨d, hd⟩ := h.node (fnd_mem hx).1
  have hd' : fnd Nd.ino (Z.map Nz.d) x.ino = some d := hd
  rw [fnd_map (key' := Nz.ino) Nz.d (fun _ => rfl)] at hd'
  obtain ⟨y, hy, _⟩ := Option.map_eq_some_iff.1 hd'
  exact ⟨y, hy⟩
theorem good_lens {N : List Nm} {Z : List Nz} (h : GoodI (ig N Z)) : N.length ≤ 16 ∧ Z.length ≤ 16 := by
  have h1 := h.len
  have h2 := h.leq
  have h3 : (Z.map Nz.d).length = Z.length := by simp
  exact ⟨h1, by rw [← h3]; exact Nat.le_trans (Nat.le_of_eq h2.symm) h1⟩

set_option maxHeartbeats 8000000 in
theorem changed_any (B : Nat) (A : Option Addr) (c : Nat) (A' : Option Addr) (c' : Nat) (N : List Nm) (Z : List Nz) (o : Opv) (BA : Option Addr) (cb : Nat) (w : World) (h : Img B w A c A' c' N Z) (hg : GoodI (ig N Z)) (hl : ∀ z ∈ Z, z.n ≤ 10000) (ho : OpIn w o BA cb) (hB : B ≤ w.heap.size) :
    Calls Tryz.prog 54 #[iv A N.length c A' Z.length c', ov o BA cb] w (ChPost B A A' (applyS (ig N Z) o) w) := by
  obtain ⟨W, hW⟩ : ∃ W, vo w A N.length c A' Z.length c' o BA cb = W := ⟨_, rfl⟩
  have V0 := Lib.hid (show Vo B w W A c A' c' N Z o BA cb by rw [← hW]; exact vo_new h ho)
  have HW := Lib.hid hW
  have HG := Lib.hid hg; have HL := Lib.hid hl
  have hu := Lib.hid (rise_d.1 hg.up)
  obtain ⟨hn16, hk16⟩ := good_lens hg
  have HC1 := Lib.hid (fun hk => apply_create (N := N) (Z := Z) (o := o) hn16 hk)
  have HC6 := Lib.hid (fun hk => apply_rename (N := N) (Z := Z) (o := o) hk)
  have HC7 := Lib.hid (fun hk => apply_remove (N := N) (Z := Z) (o := o) hk)
  have HC0 := Lib.hid (fun hk => apply_none (I := ig N Z) (o := o) hk)
  have HO := Lib.hid V0.out.op
  have hsn := HO.out.sn; have hst := HO.out.st
  have hBW : B ≤ W.heap.size := Nat.le_trans hB V0.out.below.size
  clear h hg hl ho hW
  obtain ⟨kind, ino, pos, size, keep, name, to, bs⟩ := o
  show Calls Tryz.prog 54 #[.agg #[.slice A N.length c, .slice A' Z.length c'], .agg #[.int .i64 kind, .int .i64 ino, .int .i64 pos, .int .i64 size, .bool keep, .string name, .string to, .slice BA bs.length cb]] w _
  have HW2 := Lib.hid (show ((w.alloc (.cells #[.slice A N.length c, .slice A' Z.length c'] 25)).alloc (.cells #[.int .i64 kind, .int .i64 ino, .int .i64 pos, .int .i64 size, .bool keep, .string name, .string to, .slice BA bs.length cb] 42)).alloc (.cells #[.slice none 0 0, .slice none 0 0] 25) = W from HW.out)
  clear HW
  simp only at hsn hst
  go_enter Tryz.func54, Tryz.ntmps54
  go_upto_region 1 with fail
  rw [HW2.out]
  have b0 := V0.out.box.c0; have b1 := V0.out.box.c1
  have o0 := V0.out.bo.c0; have o1 := V0.out.bo.c1; have o2 := V0.out.bo.c2; have o3 := V0.out.bo.c3; have o4 := V0.out.bo.c4; have o5 := V0.out.bo.c5; have o6 := V0.out.bo.c6; have o7 := V0.out.bo.c7
  simp only at o0 o1 o2 o3 o4 o5 o6 o7
  have hcase : kind = 1 ∨ kind = 2 ∨ kind = 3 ∨ kind = 4 ∨ kind = 5 ∨ kind = 6 ∨ kind = 7 ∨ (kind < 1 ∨ 7 < kind) := by omega
  rcases hcase with hk | hk | hk | hk | hk | hk | hk | hk
  · subst hk
    obtain ⟨M, Y, hI, h1, h2⟩ := HC1.out rfl
    have HI := Lib.hid hI; have H1 := Lib.hid h1; have H2 := Lib.hid h2
    clear hI h1 h2
    go_wp2_with fail
    refine (created_any B A c A' c' N Z name ino W V0.out.img HG.out.rise hu.out (by omega) (by omega) hsn hBW M Y H1.out H2.out).mono ?_
    rintro e w4 ⟨D, d, D', d', he, n4⟩
    obtain rfl : e = .returned (.agg #[.slice D M.length d, .slice D' Y.length d']) := he
    have X := Lib.hid (V0.out.answer n4)
    clear n4 b0 b1 o0 o1 o2 o3 o4 o5 o6 o7
    have r0 := X.out.1.c0; have r1 := X.out.1.c1; have g0 := X.out.1.f0; have g1 := X.out.1.f1
    go_wp2
    exact res_ibox rfl (w.heap.size + 2) _ _ _ _ _ _ rfl X.out.2.1 rfl ⟨M, Y, HI.out, X.out.2.2⟩
  · subst hk
    go_wp2_with fail
    refine (refilled_any B A c A' c' N Z ⟨2, ino, pos, size, keep, name, to, bs⟩ BA cb W V0.out.img hu.out (by omega) HL.out HO.out (by simp)).mono ?_
    rintro e w4 ⟨Y, hI, D, d, D', d', he, n4⟩
    obtain rfl : e = .returned (.agg #[.slice D N.length d, .slice D' Y.length d']) := he
    have X := Lib.hid (V0.out.answer n4)
    have HI := Lib.hid hI
    clear hI n4 b0 b1 o0 o1 o2 o3 o4 o5 o6 o7
    have r0 := X.out.1.c0; have r1 := X.out.1.c1; have g0 := X.out.1.f0; have g1 := X.out.1.f1
    go_wp2
    exact res_ibox rfl (w.heap.size + 2) _ _ _ _ _ _ rfl X.out.2.1 rfl ⟨N, Y, HI.out, X.out.2.2⟩
  · subst hk
    go_wp2_with fail
    refine (refilled_any B A c A' c' N Z ⟨3, ino, pos, size, keep, name, to, bs⟩ BA cb W V0.out.img hu.out (by omega) HL.out HO.out (by simp)).mono ?_
    rintro e w4 ⟨Y, hI, D, d, D', d', he, n4⟩
    obtain rfl : e = .returned (.agg #[.slice D N.length d, .slice D' Y.length d']) := he
    have X := Lib.hid (V0.out.answer n4)
    have HI := Lib.hid hI
    clear hI n4 b0 b1 o0 o1 o2 o3 o4 o5 o6 o7
    have r0 := X.out.1.c0; have r1 := X.out.1.c1; have g0 := X.out.1.f0; have g1 := X.out.1.f1
    go_wp2
    exact res_ibox rfl (w.heap.size + 2) _ _ _ _ _ _ rfl X.out.2.1 rfl ⟨N, Y, HI.out, X.out.2.2⟩
  · subst hk
    go_wp2_with fail
    refine (refilled_any B A c A' c' N Z ⟨4, ino, pos, size, keep, name, to, bs⟩ BA cb W V0.out.img hu.out (by omega) HL.out HO.out (by simp)).mono ?_
    rintro e w4 ⟨Y, hI, D, d, D', d', he, n4⟩
    obtain rfl : e = .returned (.agg #[.slice D N.length d, .slice D' Y.length d']) := he
    have X := Lib.hid (V0.out.answer n4)
    have HI := Lib.hid hI
    clear hI n4 b0 b1 o0 o1 o2 o3 o4 o5 o6 o7
    have r0 := X.out.1.c0; have r1 := X.out.1.c1; have g0 := X.out.1.f0; have g1 := X.out.1.f1
    go_wp2
    exact res_ibox rfl (w.heap.size + 2) _ _ _ _ _ _ rfl X.out.2.1 rfl ⟨N, Y, HI.out, X.out.2.2⟩
  · subst hk
    go_wp2_with fail
    refine (refilled_any B A c A' c' N Z ⟨5, ino, pos, size, keep, name, to, bs⟩ BA cb W V0.out.img hu.out (by omega) HL.out HO.out (by simp)).mono ?_
    rintro e w4 ⟨Y, hI, D, d, D', d', he, n4⟩
    obtain rfl : e = .returned (.agg #[.slice D N.length d, .slice D' Y.length d']) := he
    have X := Lib.hid (V0.out.answer n4)
    have HI := Lib.hid hI
    clear hI n4 b0 b1 o0 o1 o2 o3 o4 o5 o6 o7
    have r0 := X.out.1.c0; have r1 := X.out.1.c1; have g0 := X.out.1.f0; have g1 := X.out.1.f1
    go_wp2
    exact res_ibox rfl (w.heap.size + 2) _ _ _ _ _ _ rfl X.out.2.1 rfl ⟨N, Y, HI.out, X.out.2.2⟩
  · subst hk
    obtain ⟨M, Y, hI, h1, h2⟩ := HC6.out rfl
    have HI := Lib.hid hI; have H1 := Lib.hid h1; have H2 := Lib.hid h2
    clear hI h1 h2
    go_wp2_with fail
    refine (renamed_any B A c A' c' N Z name to W V0.out.img HG.out.rise hu.out (good_node HG.out) (by omega) (by omega) hst hBW M Y H1.out H2.out).mono ?_
    rintro e w4 ⟨D, d, D', d', he, n4⟩
    obtain rfl : e = .returned (.agg #[.slice D M.length d, .slice D' Y.length d']) := he
    have X := Lib.hid (V0.out.answer n4)
    clear n4 b0 b1 o0 o1 o2 o3 o4 o5 o6 o7
    have r0 := X.out.1.c0; have r1 := X.out.1.c1; have g0 := X.out.1.f0; have g1 := X.out.1.f1
    go_wp2
    exact res_ibox rfl (w.heap.size + 2) _ _ _ _ _ _ rfl X.out.2.1 rfl ⟨M, Y, HI.out, X.out.2.2⟩
  · subst hk
    obtain ⟨M, hM⟩ : ∃ M, remN N name = M := ⟨_, rfl⟩
    obtain ⟨Y, hY⟩ : ∃ Y, remZ N Z name = Y := ⟨_, rfl⟩
    have HI := Lib.hid (show ig M Y = _ from hM ▸ hY ▸ HC7.out rfl)
    have HM := Lib.hid hM; have HY := Lib.hid hY
    clear hM hY
    go_wp2_with fail
    refine (removed_any B A c A' c' N Z name W V0.out.img HG.out.rise hu.out (good_node HG.out name) (by omega) (by omega) M Y HM.out HY.out).mono ?_
    rintro e w4 ⟨D, d, D', d', he, n4⟩
    obtain rfl : e = .returned (.agg #[.slice D M.length d, .slice D' Y.length d']) := he
    have X := Lib.hid (V0.out.answer n4)
    clear n4 b0 b1 o0 o1 o2 o3 o4 o5 o6 o7
    have r0 := X.out.1.c0; have r1 := X.out.1.c1; have g0 := X.out.1.f0; have g1 := X.out.1.f1
    go_wp2
    exact res_ibox rfl (w.heap.size + 2) _ _ _ _ _ _ rfl X.out.2.1 rfl ⟨M, Y, HI.out, X.out.2.2⟩
  · have HI := Lib.hid (HC0.out hk)
    have k1 : (kind == 1) = false := by simp; omega
    have k2 : (kind == 2) = false := by simp; omega
    have k3 : (kind == 3) = false := by simp; omega
    have k4 : (kind == 4) = false := by simp; omega
    have k5 : (kind == 5) = false := by simp; omega
    have k6 : (kind == 6) = false := by simp; omega
    have k7 : (kind == 7) = false := by simp; omega
    have r0 := V0.out.res.c0; have r1 := V0.out.res.c1; have g0 := V0.out.res.f0; have g1 := V0.out.res.f1
    go_wp2
    have X := V0.out.same
    exact res_ibox rfl (w.heap.size + 2) _ _ _ _ _ _ rfl X.1 rfl ⟨N, Z, HI.out, X.2⟩
end Go.Proofs.YtgaaieipeiekiaaGreat

namespace Go.Proofs.YtgaaieipeiekiaaGreat
open Go.RowKit
set_option maxRecDepth 100000

instance : Inhabited Opv := ⟨⟨0, 0, 0, 0, false, ⟨#[]⟩, ⟨#[]⟩, []⟩⟩
/-- A change as it lies. -/
structure Om where
  o : Opv
  A : Option Addr
  c : Nat
deriving Inhabited
def ocl (x : Om) : List Value := [.int .i64 x.o.kind, .int .i64 x.o.ino, .int .i64 x.o.pos, .int .i64 x.o.size, .bool x.o.keep, .string x.o.name, .string x.o.to, .slice x.A x.o.bs.length x.c]
def elO : El Om := ⟨42, 8, ocl, fun _ => rfl, fun x v h => by simp [ocl] at h; rcases h with rfl | rfl | rfl | rfl | rfl | rfl | rfl | rfl <;> rfl, by decide⟩
def om0 : Om := ⟨⟨0, 0, 0, 0, false, ⟨#[]⟩, ⟨#[]⟩, []⟩, none, 0⟩
theorem tyO : Ty elO 49 om0 96 := ⟨Tryz.underlying49, by kernel_rfl, by kernel_rfl, by decide, by decide⟩
structure OpsIn (w : World) (A : Option Addr) (n c : Nat) (L : List Om) : Prop where
  sl : Sl elO w A n c L
  op : ∀ x ∈ L, OpIn w x.o x.A x.c
theorem OpsIn.on {w w' : World} {A : Option Addr} {n c : Nat} {L : List Om} (h : OpsIn w A n c L) (k : Below w.heap.size w w') : OpsIn w' A n c L := ⟨h.sl.on k, fun x hx => (h.op x hx).on k⟩
theorem Ops.at {w : World} {b o n c : Nat} {L : List Om} (h : Sl elO w (some ⟨b, o, none⟩) n c L) (j : Nat) (hj : j < n) :
    w.cell? ⟨b, o + j * 8, none⟩ = some (.int .i64 (L.getD j default).o.kind) ∧ w.cell? ⟨b, o + j * 8 + 1, none⟩ = some (.int .i64 (L.getD j default).o.ino) ∧ w.cell? ⟨b, o + j * 8 + 2, none⟩ = some (.int .i64 (L.getD j default).o.pos) ∧ w.cell? ⟨b, o + j * 8 + 3, none⟩ = some (.int .i64 (L.getD j default).o.size) ∧ w.cell? ⟨b, o + j * 8 + 4, none⟩ = some (.bool (L.getD j default).o.keep) ∧ w.cell? ⟨b, o + j * 8 + 5, none⟩ = some (.string (L.getD j default).o.name) ∧ w.cell? ⟨b, o + j * 8 + 6, none⟩ = some (.string (L.getD j default).o.to) ∧ w.cell? ⟨b, o + j * 8 + 7, none⟩ = some (.slice (L.getD j default).A (L.getD j default).o.bs.length (L.getD j default).c) := by
  obtain ⟨b', o', he, _, hc⟩ := h.cells (by omega)
  injection he with he; injection he with e1 e2; subst e1 e2
  exact ⟨hc j hj 0 _ rfl, hc j hj 1 _ rfl, hc j hj 2 _ rfl, hc j hj 3 _ rfl, hc j hj 4 _ rfl, hc j hj 5 _ rfl, hc j hj 6 _ rfl, hc j hj 7 _ rfl⟩
def allS (I : Ig) (os : List Opv) : Ig := os.foldl applyS I
theorem all_succ (I : Ig) (L : List Om) (j : Nat) (hj : j < L.length) : allS I ((L.take (j + 1)).map Om.o) = applyS (allS I ((L.take j).map Om.o)) (L.getD j default).o := by
  rw [getD_take L j hj, List.map_append]; unfold allS; rw [List.foldl_append]; rfl
theorem good_all {I : Ig} (h : GoodI I) (os : List Opv) : GoodI (allS I os) := by
  induction os generalizing I with
  | nil => exact h
  | cons o r ih => exact ih (good_apply h o)
theorem lens_z {N : List Nm} {Z : List Nz} {K : Nat} {w : World} (h : Lens K (ig N Z)) (he : ∀ z ∈ Z, Exts w z.A z.n z.c z.L) : ∀ z ∈ Z, z.n ≤ K := fun z hz => by
  have h1 := h z.d (List.mem_map_of_mem hz)
  have h2 := (he z hz).len
  rw [← h2]; exact h1
/-- What is told in All's loop. -/
structure Al (w wr : World) (q : Nat) (I0 : Ig) (L : List Om) (K : Nat) (j : Nat) (D : Option Addr) (d : Nat) (D' : Option Addr) (d' : Nat) (M : List Nm) (Y : List Nz) : Prop where
  is : ig M Y = allS I0 ((L.take j).map Om.o)
  lens : Lens (K + 60 * j) (ig M Y)
  img : Img (w.heap.size + 2) wr D d D' d' M Y
  box : IBox wr q D M.length d D' Y.length d'
  res : IBox wr (w.heap.size + 1) none 0 0 none 0 0
  below : Below w.heap.size w wr
  q0 : w.heap.size + 2 ≤ q
def AllPost (I : Ig) (w : World) (e : Ending) (w' : World) : Prop := ∃ D d D' d' M Y, ig M Y = I ∧ e = .returned (iv D M.length d D' Y.length d') ∧ Img w.heap.size w' D d D' d' M Y ∧ Below w.heap.size w w'
section
variable {w wr w2 : World} {q : Nat} {I0 : Ig} {L : List Om} {K j : Nat} {D : Option Addr} {d : Nat} {D' : Option Addr} {d' : Nat} {M : List Nm} {Y : List Nz}
theorem Al.on (h : Al w wr q I0 L K j D d D' d' M Y) (k : Below wr.heap.size wr w2) : Al w w2 q I0 L K j D d D' d' M Y :=
  ⟨h.is, h.lens, h.img.on k, h.box.on k, h.res.on k, h.below.trans (k.mono h.below.size), h.q0⟩
theorem Al.seen (h : Al w wr q I0 L K j D d D' d' M Y) (o : Only (S2 D D') wr w2) : IBox w2 q D M.length d D' Y.length d' ∧ IBox w2 (w.heap.size + 1) none 0 0 none 0 0 :=
  ⟨Row.only h.box o (h.img.ne h.box (by decide) (by decide)), Row.only h.res o (h.img.ne h.res (by decide) (by decide))⟩
theorem Al.next (h : Al w wr q I0 L K j D d D' d' M Y) (hg : GoodI I0) (hj : j < L.length) (hs : ∀ x ∈ L, Small x.o) {F : Option Addr} {f : Nat} {F' : Option Addr} {f' : Nat} {M2 : List Nm} {Y2 : List Nz} (hi : ig M2 Y2 = applyS (ig M Y) (L.getD j default).o) (n : Next (w.heap.size + 2) wr w2 D D' F f F' f' M2 Y2) :
    Al w ((w2.setCell ⟨q, 0, none⟩ (.slice F M2.length f)).setCell ⟨q, 1, none⟩ (.slice F' Y2.length f')) q I0 L K (j + 1) F f F' f' M2 Y2 := by
  obtain ⟨hb, hr⟩ := h.seen n.only
  have hq := h.box.lt
  have ob := only_set2 w2 q (.slice F M2.length f) (.slice F' Y2.length f')
  have hq0 := h.q0
  have k1 : Below w.heap.size w w2 := h.below.trans (n.only.below h.below.size (fun g hg => by have := (h.img.lt hg).1; omega))
  refine ⟨by rw [hi, h.is, all_succ _ _ _ hj], ?_, n.img.keep ob (fun g hg he => by subst he; exact n.img.ne hb (by decide) (by decide) hg) (fun z hz hn g p he h3 => by subst h3; have := n.img.exts z hz; rw [he] at this; exact exts_ibox this hn hb), hb.put _ _ _ _ _ _, Row.only hr ob (by omega), k1.trans (ob.below k1.size (fun g hg => by omega)), h.q0⟩
  rw [hi, show K + 60 * (j + 1) = K + 60 * j + 60 by omega]
  exact lens_apply (by rw [h.is]; exact good_all hg _) h.lens (hs _ (getD_mem' hj))
/-- Answered, stored. -/
theorem Al.done (h : Al w wr q I0 L K j D d D' d' M Y) (hj : L.length = j) :
    IBox ((wr.setCell ⟨w.heap.size + 1, 0, none⟩ (.slice D M.length d)).setCell ⟨w.heap.size + 1, 1, none⟩ (.slice D' Y.length d')) (w.heap.size + 1) D M.length d D' Y.length d' ∧
    AllPost (allS I0 (L.map Om.o)) w (.returned (iv D M.length d D' Y.length d')) ((wr.setCell ⟨w.heap.size + 1, 0, none⟩ (.slice D M.length d)).setCell ⟨w.heap.size + 1, 1, none⟩ (.slice D' Y.length d')) := by
  have ob := only_set2 wr (w.heap.size + 1) (.slice D M.length d) (.slice D' Y.length d')
  refine ⟨h.res.put _ _ _ _ _ _, D, d, D', d', M, Y, ?_, rfl, (h.img.keep ob (fun g hg he => by have := (h.img.lt hg).1; omega) (fun z hz hn g p he h3 => by subst h3; have := h.img.exts z hz; rw [he] at this; exact exts_ibox this hn h.res)).mono (by omega), h.below.trans (ob.below h.below.size (fun g hg => by omega))⟩
  rw [h.is, ← hj, List.take_length]
end
end Go.Proofs.YtgaaieipeiekiaaGreat

namespace Go.Proofs.YtgaaieipeiekiaaGreat
open Go.RowKit
set_option maxRecDepth 100000

/-- What few and Few tell. -/
def FewPost (P : Prop) (w : World) (e : Ending) (w' : World) : Prop := ∃ z, e = .returned (.bool z) ∧ (z = true → P) ∧ Below w.heap.size w w'
def FewI (N : List Nm) (Z : List Nz) : Prop := N.length ≤ 30 ∧ Z.length ≤ 30 ∧ ∀ x ∈ Z, x.n ≤ 60

set_option maxHeartbeats 4000000 in
theorem few_op (o : Opv) (BA : Option Addr) (cb : Nat) (w : World) (h : OpIn w o BA cb) : Calls Tryz.prog 22 #[ov o BA cb] w (FewPost (Small o) w) := by
  obtain ⟨kind, ino, pos, size, keep, name, to, bs⟩ := o
  obtain ⟨W, hW⟩ : ∃ W, w.alloc (.cells #[.int .i64 kind, .int .i64 ino, .int .i64 pos, .int .i64 size, .bool keep, .string name, .string to, .slice BA bs.length cb] 42) = W := ⟨_, rfl⟩
  have KW := Lib.hid (show Below w.heap.size w W by rw [← hW]; exact (Below.refl _ _).alloc (Nat.le_refl _) _)
  have B0 := Lib.hid (show OBox W w.heap.size ⟨kind, ino, pos, size, keep, name, to, bs⟩ BA cb by rw [← hW]; exact obox_new w ⟨kind, ino, pos, size, keep, name, to, bs⟩ BA cb)
  have hsn : name.size ≤ maxLen := h.sn
  have hst : to.size ≤ maxLen := h.st
  have hb : bs.length ≤ maxLen := Nat.le_trans h.nums.le h.nums.mx
  unfold maxLen at hsn hst hb
  have HW := Lib.hid hW
  clear h hW
  have b3 := B0.out.c3; have b5 := B0.out.c5; have b6 := B0.out.c6; have b7 := B0.out.c7
  simp only at b3 b5 b6 b7
  show Calls Tryz.prog 22 #[.agg #[.int .i64 kind, .int .i64 ino, .int .i64 pos, .int .i64 size, .bool keep, .string name, .string to, .slice BA bs.length cb]] w _
  have HS := Lib.hid (show bs.length ≤ 100 → (size ≤ 400 ∨ 32768 < size) → Small ⟨kind, ino, pos, size, keep, name, to, bs⟩ from fun a b => ⟨a, b⟩)
  generalize bs.length = m at *
  go_enter Tryz.func22, Tryz.ntmps22
  go_upto_region 1 with fail
  rw [HW.out]
  by_cases h1 : m ≤ 100
  · by_cases h2 : name.size ≤ 60
    · by_cases h3 : to.size ≤ 60
      · by_cases h4 : size ≤ 400
        · go_wp2
          go_ret
          exact ⟨_, rfl, fun _ => HS.out h1 (.inl h4), KW.out⟩
        · by_cases h5 : 32768 < size
          · go_wp2
            go_ret
            exact ⟨_, rfl, fun _ => HS.out h1 (.inr h5), KW.out⟩
          · go_wp2
            go_ret
            exact ⟨_, rfl, fun h => by simp at h, KW.out⟩
      · go_wp2
        go_ret
        exact ⟨_, rfl, fun h => by simp at h, KW.out⟩
    · go_wp2
      go_ret
      exact ⟨_, rfl, fun h => by simp at h, KW.out⟩
  · go_wp2
    go_ret
    exact ⟨_, rfl, fun h => by simp at h, KW.out⟩

set_option maxHeartbeats 4000000 in
theorem few_img (A : Option Addr) (n c : Nat) (A' : Option Addr) (n' c' : Nat) (N : List Nm) (Z : List Nz) (w : World) (h : Im w A n c A' n' c' N Z) : Calls Tryz.prog 7 #[iv A n c A' n' c'] w (FewPost (FewI N Z) w) := by
  obtain ⟨W, hW⟩ : ∃ W, w.alloc (.cells #[.slice A n c, .slice A' n' c'] 25) = W := ⟨_, rfl⟩
  have KW := Lib.hid (show Below w.heap.size w W by rw [← hW]; exact (Below.refl _ _).alloc (Nat.le_refl _) _)
  have B0 := Lib.hid (show IBox W w.heap.size A n c A' n' c' by rw [← hW]; exact ibox_new _ _ _ _ _ _ _)
  have H := Lib.hid (h.on KW.out)
  have hn := h.names.max
  have hn' := h.nodes.max
  have HW := Lib.hid hW
  have HL := Lib.hid (show N.length = n ∧ Z.length = n' from ⟨h.names.len, h.nodes.len⟩)
  clear h hW
  have b0 := B0.out.c0; have b1 := B0.out.c1
  show Calls Tryz.prog 7 #[.agg #[.slice A n c, .slice A' n' c']] w _
  go_enter Tryz.func7, Tryz.ntmps7
  go_upto_region 1 with fail
  rw [HW.out]
  by_cases h1 : 30 < n
  · go_wp2
    go_ret
    exact ⟨_, rfl, fun h => by simp at h, KW.out⟩
  · by_cases h2 : 30 < n'
    · go_wp2
      go_ret
      exact ⟨_, rfl, fun h => by simp at h, KW.out⟩
    · go_wp2
      go_loop [3, 4] (fun s i => ∃ (j : Nat) (t : Int), j ≤ n' ∧ 0 ≤ t ∧ t ≤ 60 * j ∧ i = .int .i64 j ∧ s = .int .i64 t ∧ Hid (∀ x ∈ Z.take j, x.n ≤ 60)) (fun _ i => n' - (intOf i).toNat)
      case atStart => exact ⟨0, 0, Nat.zero_le _, Int.le_refl _, by omega, rfl, rfl, by simp [Hid]⟩
      case round =>
        obtain ⟨j, t, hj, t0, t1, rfl, rfl, HT⟩ := hrel
        by_cases hlt : j < n'
        · obtain ⟨b, o, rfl, _, _⟩ := H.out.nodes.cells (by omega)
          obtain ⟨_, _, x2⟩ := Nds.at H.out.nodes j hlt
          have hji : (j : Int) < (n' : Int) := by omega
          have HM := Lib.hid (H.out.nodes.mem j hlt)
          have HX := Lib.hid (show (Z.getD j default).n ≤ 60 → ∀ x ∈ Z.take (j + 1), x.n ≤ 60 from fun h x hx => by
            rcases mem_take_succ (by have := HL.out; omega) hx with hx | hx
            · exact HT.out x hx
            · rw [hx]; exact h)
          obtain ⟨x, hx⟩ : ∃ x, Z.getD j default = x := ⟨_, rfl⟩
          rw [hx] at x2 HX HM
          have hmx := (H.out.exts x HM.out).max
          clear hx
          obtain ⟨xi, xs, xA, xn, xc, xL⟩ := x
          simp only at x2 HX hmx
          by_cases h3 : 60 < xn
          · go_wp2
            go_ret
            exact ⟨_, rfl, fun h => by simp at h, KW.out⟩
          · go_wp2
            go_round
            case rel => exact ⟨j + 1, t + xn, by omega, by omega, by omega, by go_num, by go_num, HX.out (by omega)⟩
            case measure => simp [intOf]; omega
        · have hjn : j = n' := by omega
          go_wp2
          go_ret
          refine ⟨_, rfl, fun _ => ⟨by have := HL.out; omega, by have := HL.out; omega, ?_⟩, KW.out⟩
          have := HT.out
          rw [List.take_of_length_le (by have := HL.out; omega)] at this
          exact this
end Go.Proofs.YtgaaieipeiekiaaGreat

namespace Go.Proofs.YtgaaieipeiekiaaGreat
open Go.RowKit
set_option maxRecDepth 100000

def icl (zs : List Int) : List Value := zs.map (Value.int .i64)
theorem info3 : (Tryz.prog.info? 3).map (fun i => (i.zero, i.size, i.bytes)) = some (some (.int .i64 0), 1, 8) := by kernel_rfl
/-- make([]int, n). -/
theorem st_makei {w : World} {ops : Array Oper} {rest : List Oper} {o : Oper} {a : Act} {Q : Exit → Act → World → Prop} (hgd : o.guard = none) (l c : Operand) (ho : o.op = .makeSlice 99 l c) (C : Int) (m : Nat) (hl : a.eval l = .int .i64 C) (hc : a.eval c = .int .i64 C) (hC : C = (m : Int)) (hm : m ≤ 1000000)
    (hn : ∀ g w', g = w.heap.size → Row w' g 3 (icl (List.replicate m 0)).toArray → Below w.heap.size w w' → wpList Tryz.prog ops Q rest (a.put o.dst (.slice (some ⟨g, 0, none⟩) m m)) w') :
    wpList Tryz.prog ops Q (o :: rest) a w := by
  obtain ⟨i0, hi, hz0, hz1, hz2⟩ := info_parts info3
  refine wpList_make_full (P := Tryz.prog) w hgd l c 99 ho w.heap.size 3 i0 _ 1 Tryz.underlying99 hi hz0 hz1 .i64 .i64 C C m hl hc hC hC (by rw [hz2]; omega) (by unfold maxLen; omega) (Nat.le_refl _) ?_
  intro w' h1 h2
  refine hn w.heap.size w' rfl ?_ ⟨h2.os, h2.tape, h2.output, h2.size, fun k hk => h2.block k hk (fun h => by cases h)⟩
  obtain ⟨hl, ⟨he, _⟩ | ⟨g, cap, cur, he, _, hg, _, _, hs, ht⟩⟩ := h1
  · cases he
  · injection he with e1 e2 e3
    injection e1 with e1; injection e1 with e1
    subst e1 e3
    rw [List.take_of_length_le (by rw [Array.length_toList]; omega)] at ht
    have : cur = (icl (List.replicate m 0)).toArray := by
      apply Array.toList_inj.1
      rw [ht]
      apply List.ext_getElem?
      intro i
      simp only [madeCells, icl]
      by_cases h : i < m
      · simp [h, Value.cells, Nat.mod_one]
      · rw [List.getElem?_eq_none (by simp; omega), List.getElem?_eq_none (by simp; omega)]
    rw [← this]
    exact hg

theorem row_put {w : World} {g : Nat} {zs ys : List Int} (h : Row w g 3 (icl zs).toArray) (hl : ys.length = zs.length) (q : Nat) (os : Array Obj) :
    Row (Sort.grow (Sort.putRow (Value.int .i64) (Sort.ahead w q) g 0 ys.toArray) os) g 3 (icl ys).toArray ∧ Only (fun d => d = g) w (Sort.grow (Sort.putRow (Value.int .i64) (Sort.ahead w q) g 0 ys.toArray) os) := by
  have hlt := h.lt
  have hm : ∀ k, (Sort.grow (Sort.putRow (Value.int .i64) (Sort.ahead w q) g 0 ys.toArray) os).heap[k]? = if k < w.heap.size then (if g = k then (w.heap[k]?).map (Sort.onCells (Sort.putCells (Value.int .i64) 0 ys.toArray)) else w.heap[k]?) else os[k - w.heap.size]? := by
    intro k
    simp only [Sort.grow, Sort.putRow, Sort.mapBlock, Sort.ahead]
    rw [Array.getElem?_append]
    simp only [Array.size_modify, Array.getElem?_modify]
  refine ⟨?_, rfl, rfl, rfl, by simp [Sort.grow, Sort.putRow, Sort.mapBlock, Sort.ahead], fun k hk hn => ?_⟩
  · unfold Row at h ⊢
    rw [hm, if_pos hlt, if_pos rfl, h]
    simp only [Option.map_some, Sort.onCells]
    congr 2
    apply Array.ext_getElem?
    intro k
    simp only [Sort.putCells, Array.getElem?_mapIdx, icl]
    by_cases hk : k < zs.length
    · simp [hk, show k < ys.length by omega]
    · rw [List.getElem?_toArray, List.getElem?_eq_none (by simp; omega), List.getElem?_toArray, List.getElem?_eq_none (by simp; omega)]; rfl
  · rw [hm, if_pos hk, if_neg (fun h => hn h.symm)]
theorem row_holds {w : World} {g : Nat} {zs : List Int} (h : Row w g 3 (icl zs).toArray) : Sort.Holds (Value.int .i64) w g 0 zs.toArray := by
  intro j hj
  have hj' : j < zs.length := by simpa using hj
  refine ⟨?_, by rw [Nat.zero_add]; exact h.free j⟩
  rw [Nat.zero_add, h.at]
  simp [icl, hj']
def srt (zs : List Int) : List Int := zs.mergeSort fun x y => decide (x ≤ y)
theorem srt_perm (zs : List Int) : (srt zs).Perm zs := List.mergeSort_perm _ _
theorem srt_le (zs : List Int) : (srt zs).Pairwise (· ≤ ·) := by
  have := List.pairwise_mergeSort (le := fun x y : Int => decide (x ≤ y)) (fun a b c h1 h2 => by simp only [decide_eq_true_eq] at *; omega) (fun a b => by simp only [Bool.or_eq_true, decide_eq_true_eq]; omega) zs
  exact this.imp fun h => of_decide_eq_true h
theorem sort_any (g c : Nat) (zs : List Int) (w : World) (h : Row w g 3 (icl zs).toArray) (hn : zs.length ≤ 1000000) :
    Calls Tryz.prog 64 #[.slice (some ⟨g, 0, none⟩) zs.length c] w fun e w' => e = .returned (.tuple #[]) ∧ Row w' g 3 (icl (srt zs)).toArray ∧ Only (fun d => d = g) w w' := by
  refine (Tryz.slices_Sort_int g 0 c zs w (row_holds h) h.lt (by omega)).mono ?_
  rintro e w' ⟨rfl, q, os, rfl⟩
  have := row_put h (ys := srt zs) (srt_perm zs).length_eq q os
  exact ⟨rfl, this.1, this.2⟩
theorem strict_of_adj : ∀ S : List Int, S.Pairwise (· ≤ ·) → (∀ j, 0 < j → j < S.length → S.getD j 0 ≠ S.getD (j - 1) 0) → S.Pairwise (· < ·)
  | [], _, _ => List.Pairwise.nil
  | [a], _, _ => List.pairwise_singleton _ _
  | a :: b :: r, h, hne => by
    have ih := strict_of_adj (b :: r) (List.pairwise_cons.1 h).2 (fun j h0 hj => by
      have := hne (j + 1) (by omega) (by simpa using hj)
      obtain ⟨i, rfl⟩ : ∃ i, j = i + 1 := ⟨j - 1, by omega⟩
      simpa using this)
    have h1 := (List.pairwise_cons.1 h).1 b (by simp)
    have h2 := hne 1 (by omega) (by simp)
    simp at h2
    have hab : a < b := by omega
    refine List.pairwise_cons.2 ⟨fun x hx => ?_, ih⟩
    rcases List.mem_cons.1 hx with rfl | hx
    · exact hab
    · have := (List.pairwise_cons.1 ih).1 x hx; omega
theorem bang_getD (S : List Int) (j : Nat) : S.toArray[j]! = S.getD j 0 := by
  rw [getElem!_def, List.getElem?_toArray, List.getD_eq_getElem?_getD]
  cases S[j]? <;> rfl
theorem compact_strict {S : List Int} (h : S.Pairwise (· < ·)) : Lib.compact S = S := by
  refine Lib.compact_all S fun j hj => ?_
  by_cases h0 : j = 0
  · subst h0; exact Lib.keeps_lt_one _ 0 (by omega)
  · refine Lib.keeps_pos ?_
    rw [bang_getD, bang_getD]
    have := List.pairwise_iff_getElem.1 h (j - 1) j (by omega) hj (by omega)
    rw [List.getD_eq_getElem?_getD, List.getD_eq_getElem?_getD, List.getElem?_eq_getElem hj, List.getElem?_eq_getElem (by omega)]
    simp only [Option.getD_some]
    omega
theorem filter_lt {α : Type} {p : α → Bool} {l : List α} {x : α} (hx : x ∈ l) (hp : p x = false) : (l.filter p).length < l.length := by
  induction l with
  | nil => cases hx
  | cons a l ih =>
    rw [List.filter_cons]
    rcases List.mem_cons.1 hx with rfl | hx
    · rw [hp]
      have := List.length_filter_le p l
      simp only [List.length_cons]; exact Nat.lt_succ_of_le this
    · have := ih hx
      split <;> simp only [List.length_cons] <;> omega
theorem compact_less {S : List Int} (h : S.Pairwise (· ≤ ·)) (hn : ¬ S.Pairwise (· < ·)) : (Lib.compact S).length < S.length := by
  have : ∃ j, 0 < j ∧ j < S.length ∧ S.getD j 0 = S.getD (j - 1) 0 := by
    refine Classical.byContradiction fun hc => hn (strict_of_adj S h fun j h0 hj he => hc ⟨j, h0, hj, he⟩)
  obtain ⟨j, h0, hj, he⟩ := this
  unfold Lib.compact Lib.compactUpTo
  rw [List.length_map]
  have := filter_lt (p := Lib.keeps S.toArray) (List.mem_range.2 hj) (Lib.keeps_neg h0 (by rw [bang_getD, bang_getD]; exact he))
  simpa using this
/-- What Compact leaves of numbers that are sorted: all of them, or fewer. -/
def CompactPost (g c : Nat) (S : List Int) (w : World) (e : Ending) (w' : World) : Prop := ∃ m, e = .returned (.slice (some ⟨g, 0, none⟩) m c) ∧ m ≤ S.length ∧ (S.Pairwise (· < ·) → m = S.length ∧ Row w' g 3 (icl S).toArray) ∧ (¬ S.Pairwise (· < ·) → m < S.length) ∧ Only (fun d => d = g) w w'
theorem compact_any (g c : Nat) (S : List Int) (w : World) (h : Row w g 3 (icl S).toArray) (hs : S.Pairwise (· ≤ ·)) (hn : S.length ≤ 1000000) (hc : S.length ≤ c) :
    Calls Tryz.prog 65 #[.slice (some ⟨g, 0, none⟩) S.length c] w (CompactPost g c S w) := by
  refine (Tryz.slices_Compact_int g 0 c S w (row_holds h) (by omega) hc).mono ?_
  rintro e w' ⟨rfl, q, rfl⟩
  have hle : (Lib.compact S).length ≤ S.length := by
    unfold Lib.compact Lib.compactUpTo
    rw [List.length_map]
    exact Nat.le_trans (List.length_filter_le _ _) (by simp)
  have := row_put h (ys := Lib.compact S ++ List.replicate (S.length - (Lib.compact S).length) 0) (by simp; omega) q #[]
  rw [Sort.grow_empty] at this
  refine ⟨_, rfl, hle, fun hp => ?_, fun hp => compact_less hs hp, this.2⟩
  rw [compact_strict hp]
  have h1 := this.1
  rw [compact_strict hp] at h1
  refine ⟨rfl, ?_⟩
  simpa using h1

set_option maxHeartbeats 400000 in
theorem eqi_any (k : Int) (i s : Int) (B : Option Addr) (q d : Nat) (w : World) (z : Bool) (hz : decide (k = i) = z) : Calls Tryz.prog 67 #[.int .i64 k, .agg #[.int .i64 i, .int .i64 s, .slice B q d]] w (TruthPost z w) := by
  have HZ := Lib.hid hz
  have K1 := Lib.hid (show Below w.heap.size w (w.alloc (.cells #[.int .i64 i, .int .i64 s, .slice B q d] 59)) from (Below.refl _ _).alloc (Nat.le_refl _) _)
  clear hz
  go_enter Tryz.func67, Tryz.ntmps67
  go_wp2
  go_ret
  exact ⟨ret_bool (by rw [← HZ.out]; first | rfl | (simp; done) | (rw [Bool.eq_iff_iff]; simp)), K1.out⟩

theorem take_eq_succ {zs ys : List Int} {k : Nat} (h1 : k < zs.length) (h2 : k < ys.length) (h : zs.take k = ys.take k) (he : zs.getD k 0 = ys.getD k 0) : zs.take (k + 1) = ys.take (k + 1) := by
  rw [List.take_add_one, List.take_add_one, h, List.getElem?_eq_getElem h1, List.getElem?_eq_getElem h2]
  rw [List.getD_eq_getElem?_getD, List.getD_eq_getElem?_getD, List.getElem?_eq_getElem h1, List.getElem?_eq_getElem h2] at he
  have he' : zs[k] = ys[k] := by simpa using he
  rw [he']
theorem ino_get (Z : List Nz) (k : Nat) (h : k < Z.length) : (Z.map Nz.ino).getD k 0 = (Z.getD k default).ino := by
  rw [List.getD_eq_getElem?_getD, List.getD_eq_getElem?_getD, List.getElem?_map, List.getElem?_eq_getElem h]; rfl

set_option maxHeartbeats 2000000 in
theorem eqf_any (A : Option Addr) (n c : Nat) (zs : List Int) (A' : Option Addr) (n' c' : Nat) (Z : List Nz) (w : World) (h : Nums .i64 w A n c zs) (h' : Nds w A' n' c' Z) (hn : n ≤ 1000000) (z : Bool) (hz : decide (zs = Z.map Nz.ino) = z) :
    Calls Tryz.prog 66 #[.slice A n c, .slice A' n' c', .func (.func 67) #[] #[]] w (TruthPost z w) := by
  have H := Lib.hid h; have H' := Lib.hid h'; have HZ := Lib.hid hz
  have hl := h.len
  have hl' := h'.len
  have hm' := h'.max
  clear h h' hz
  by_cases hnn : n = n'
  · subst hnn
    have HL := Lib.hid hl; have HL' := Lib.hid hl'
    clear hl hl'
    go_enter Tryz.func66, Tryz.ntmps66
    go_wp2
    go_loopw [17] (fun i wr => ∃ k : Nat, k ≤ n ∧ i = .int .i64 k ∧ Hid (zs.take k = (Z.map Nz.ino).take k) ∧ Hid (Below w.heap.size w wr)) (fun i _ => n - (intOf i).toNat)
    case atStart => exact ⟨0, Nat.zero_le _, rfl, by simp [Hid], Below.refl _ _⟩
    case round =>
      obtain ⟨k, hk, rfl, HT, K1⟩ := hrel
      by_cases hlt : k < n
      · obtain ⟨b, o, rfl, hb, hc⟩ := (H.out.on K1.out).cells (by omega)
        have c0 := hc k hlt
        obtain ⟨b', o', rfl, hb', _⟩ := (H'.out.on K1.out).cells (by omega)
        have hat := Nds.at (H'.out.on K1.out) k hlt
        have HS := Lib.hid (take_eq_succ (zs := zs) (ys := Z.map Nz.ino) (k := k) (by rw [HL.out]; exact hlt) (by rw [List.length_map, HL'.out]; exact hlt) HT.out)
        have HN := Lib.hid (show zs.getD k 0 ≠ (Z.map Nz.ino).getD k 0 → zs ≠ Z.map Nz.ino from fun h e => h (by rw [e]))
        rw [ino_get Z k (by rw [HL'.out]; exact hlt)] at HS HN
        clear hc
        generalize zs.getD k 0 = x at *
        generalize Z.getD k default = e at *
        obtain ⟨ek, es, eA, en, ec, eL⟩ := e
        obtain ⟨d0, d1, d2⟩ := hat
        simp only at d0 d1 d2 HS HN
        have hki : (k : Int) < (n : Int) := by omega
        obtain ⟨y, hy⟩ : ∃ y, decide (x = ek) = y := ⟨_, rfl⟩
        have HY := Lib.hid hy
        clear hy
        cases y with
        | true =>
          go_wp2_with (go_at_call 67; refine (eqi_any x ek es eA en ec _ true HY.out).mono ?_; rintro e' w2 ⟨rfl, k2⟩; have K2 := Lib.hid k2; clear k2)
          go_roundw
          case rel => exact ⟨k + 1, by omega, by go_num, HS.out (of_decide_eq_true HY.out), K1.out.trans ((((Below.refl _ _).alloc (Nat.le_refl _) _).trans (K2.out.mono (by simp))).mono K1.out.size)⟩
          case measure => simp [intOf]; omega
        | false =>
          go_wp2_with (go_at_call 67; refine (eqi_any x ek es eA en ec _ false HY.out).mono ?_; rintro e' w2 ⟨rfl, k2⟩; have K2 := Lib.hid k2; clear k2)
          go_ret
          exact ⟨ret_bool (by rw [← HZ.out, decide_eq_false (HN.out (of_decide_eq_false HY.out))]), K1.out.trans ((((Below.refl _ _).alloc (Nat.le_refl _) _).trans (K2.out.mono (by simp))).mono K1.out.size)⟩
      · have hkn : k = n := by omega
        have HE := Lib.hid (show zs = Z.map Nz.ino by
          have := HT.out
          rw [hkn, List.take_of_length_le (by rw [HL.out]; omega), List.take_of_length_le (by rw [List.length_map, HL'.out]; omega)] at this
          exact this)
        go_wp2
        go_ret
        exact ⟨ret_bool (by rw [← HZ.out, decide_eq_true HE.out]), K1.out⟩
  · have HE := Lib.hid (show z = false by
      rw [← HZ.out]
      refine decide_eq_false fun he => hnn ?_
      have := congrArg List.length he
      rw [List.length_map] at this
      omega)
    have h1 : ¬ ((n : Int) = (n' : Int)) := by omega
    clear hl hl'
    go_enter Tryz.func66, Tryz.ntmps66
    go_wp2
    go_ret
    exact ⟨ret_bool HE.out.symm, Below.refl _ _⟩
end Go.Proofs.YtgaaieipeiekiaaGreat
