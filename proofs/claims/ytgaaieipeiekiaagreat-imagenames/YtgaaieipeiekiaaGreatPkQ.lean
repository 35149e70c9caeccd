/- Contract of the reference's CopyImage. / Pieces of slices of any elements; contract of the reference's called. / Contract of the reference's gone. / Contract of the reference's change. -/
import Derived.Test.YtgaaieipeiekiaaGreatPkO
import Derived.Test.YtgaaieipeiekiaaGreatPkP
import Derived.Test.YtgaaieipeiekiaaGreatPkL
import Derived.Test.YtgaaieipeiekiaaGreatPkF
namespace Go.Proofs.YtgaaieipeiekiaaGreat
open Go.RowKit
set_option maxRecDepth 100000

section
variable {α : Type} {E : El α} {ts : TypeId} {z0 : α} {by_ : Nat} {w : World} {ops : Array Oper} {o : Oper} {a : Act} {Q : Exit → Act → World → Prop} {K : Act → World → Prop} {X : Prop}
/-- append onto a row of one's own, in a drawn region. -/
theorem step_catE [Inhabited α] (T : Ty E ts z0 by_) (hgd : o.guard = none) (s x : Operand) (ho : o.op = .call { callee := .builtin .append, args := #[s, x], argTypes := #[ts, ts] }) (B : Nat) (v : Value) (L : List α) (hs : a.eval s = v) (hown : OwnS E B w v L) (A : Option Addr) (n c : Nat) (M : List α) (hx : a.eval x = .slice A n c) (hr : Sl E w A n c M) (hl : L.length + n ≤ 1000000) (hB : B ≤ w.heap.size) (R : List α) (m : Nat) (hR : L ++ M = R) (hm : R.length = m)
    (h : ∀ A' c' w', OwnS E B w' (.slice A' m c') R → Only (fun d => v.ownBlock = some d) w w' → (∀ d, A' = some ⟨d, 0, none⟩ → v.ownBlock = some d ∨ w.heap.size ≤ d) → K (a.put o.dst (.slice A' m c')) w') : if Region.wanted o (yielded ops a.tmps) = true then Oper.wp Tryz.prog o a w K Q else X := by
  have hw : Region.wanted o (yielded ops a.tmps) = true := by simp [Region.wanted, hgd]
  rw [if_pos hw]
  obtain ⟨v', w', hrun, q1, q2, q3⟩ := run_joinE T hown hr hl hB o.type
  rw [hR] at q1
  obtain ⟨A', c', hv, _⟩ := q1.sl
  rw [hm] at hv
  subst hv
  unfold Oper.wp
  simp [execOp, ho, resolve, invoke, builtin, hs, hx, hrun, Result.andThen]
  exact h A' c' w' q1 q2 (fun d hd => q3 d (by rw [hd]; rfl))
end
theorem own_only {w w' : World} {A : Option Addr} {n c : Nat} (hA : A = none ∨ ∃ g, A = some ⟨g, 0, none⟩) (h : Only (fun d => (Value.slice A n c).ownBlock = some d) w w') : Only (fun d => A = some ⟨d, 0, none⟩) w w' := h.mono fun d hd => by
  rcases hA with rfl | ⟨g, rfl⟩
  · cases hd
  · have : g = d := Option.some.inj hd
    subst this; rfl
theorem own_src {A : Option Addr} {n c d : Nat} (hA : A = none ∨ ∃ g, A = some ⟨g, 0, none⟩) (h : (Value.slice A n c).ownBlock = some d) : A = some ⟨d, 0, none⟩ := by
  rcases hA with rfl | ⟨g, rfl⟩
  · cases h
  · have : g = d := Option.some.inj h
    subst this; rfl
/-- Other files, some of them new. -/
theorem Img.addZ {B : Nat} {w w' : World} {A : Option Addr} {c : Nat} {A' : Option Addr} {c' : Nat} {N : List Nm} {Z : List Nz} (h : Img B w A c A' c' N Z) {D : Option Addr} {m d : Nat} {R : List Nz} (q : OwnS elZ B w' (.slice D m d) R) (hm : R.length = m) (o : Only (fun d => A' = some ⟨d, 0, none⟩) w w') (s : ∀ g, D = some ⟨g, 0, none⟩ → A' = some ⟨g, 0, none⟩ ∨ w.heap.size ≤ g) (hR : ∀ z ∈ R, z ∈ Z ∨ (Exts w z.A z.n z.c z.L ∧ ∀ g o, 0 < z.n → z.A = some ⟨g, o, none⟩ → ¬ S2 A A' g)) : Next B w w' A A' A c D d N R := by
  have hE : ∀ z ∈ R, Exts w z.A z.n z.c z.L ∧ ∀ g o, 0 < z.n → z.A = some ⟨g, o, none⟩ → ¬ S2 A A' g := fun z hz => (hR z hz).elim (fun hz => ⟨h.exts z hz, fun g o hn he => h.apart z hz hn g o he⟩) id
  refine ⟨⟨h.names.only o (fun g hg hA => h.two hg hA), by rw [hm]; exact q, fun z hz => (hE z hz).1.only o (fun g p he hn hA => (hE z hz).2 g p hn he (.inr hA)), fun z hz hn g p he hS => ?_, h.str⟩, o.mono (fun d hd => .inr hd), fun g hg => ?_⟩
  · rcases hS with hS | hS
    · exact (hE z hz).2 g p hn he (.inl hS)
    · rcases s g hS with h1 | h1
      · exact (hE z hz).2 g p hn he (.inr h1)
      · have := (hE z hz).1; rw [he] at this; have := this.lt hn; omega
  · rcases hg with hg | hg
    · exact .inl (.inl hg)
    · exact (s g hg).imp .inr id
/-- The first j files are copied into the variable q. -/
structure Cp (w wr : World) (q : Nat) (A : Option Addr) (c : Nat) (A' : Option Addr) (c' : Nat) (N : List Nm) (Z : List Nz) (D : Option Addr) (d : Nat) (F : Option Addr) (f : Nat) (R : List Nz) (j : Nat) : Prop where
  len : R.length = j
  is : R.map Nz.d = (Z.take j).map Nz.d
  img : Img (w.heap.size + 2) wr D d F f N R
  box : IBox wr q D N.length d F R.length f
  src : IBox wr w.heap.size A N.length c A' Z.length c'
  res : IBox wr (w.heap.size + 1) none 0 0 none 0 0
  im : Im wr A N.length c A' Z.length c' N Z
  below : Below w.heap.size w wr
  q0 : w.heap.size + 2 ≤ q
  new : ∀ z ∈ R, 0 < z.n → ∀ g p, z.A = some ⟨g, p, none⟩ → w.heap.size ≤ g
/-- A copy: new memory, its blocks, too. -/
def RenewPostN (N : List Nm) (Z : List Nz) (w : World) (e : Ending) (w' : World) : Prop := ∃ D d D' d' Y, e = .returned (iv D N.length d D' Y.length d') ∧ Y.map Nz.d = Z.map Nz.d ∧ Img w.heap.size w' D d D' d' N Y ∧ Below w.heap.size w w' ∧ (∀ z ∈ Y, 0 < z.n → ∀ g p, z.A = some ⟨g, p, none⟩ → w.heap.size ≤ g)
section
variable {w wr w2 : World} {q : Nat} {A : Option Addr} {c : Nat} {A' : Option Addr} {c' : Nat} {N : List Nm} {Z : List Nz} {D : Option Addr} {d : Nat} {F : Option Addr} {f : Nat} {R : List Nz} {j : Nat}
theorem Cp.on (h : Cp w wr q A c A' c' N Z D d F f R j) (k : Below wr.heap.size wr w2) : Cp w w2 q A c A' c' N Z D d F f R j :=
  ⟨h.len, h.is, h.img.on k, h.box.on k, h.src.on k, h.res.on k, h.im.on k, h.below.trans (k.mono h.below.size), h.q0, h.new⟩
theorem Cp.add (h : Cp w wr q A c A' c' N Z D d F f R j) (hj : j < Z.length) (him : Im w A N.length c A' Z.length c' N Z) {z : Nz} (hz : z.d = (Z.getD j default).d) (he : Exts wr z.A z.n z.c z.L) (hap : ∀ g o, 0 < z.n → z.A = some ⟨g, o, none⟩ → ¬ S2 D F g) (hnw : ∀ g p, z.A = some ⟨g, p, none⟩ → w.heap.size ≤ g) {w3 : World} {G : Option Addr} {g : Nat} (ho : OwnS elZ (w.heap.size + 2) w3 (.slice G (j + 1) g) (R ++ [z])) (o : Only (fun d => F = some ⟨d, 0, none⟩) wr w3) (s : ∀ d, G = some ⟨d, 0, none⟩ → F = some ⟨d, 0, none⟩ ∨ wr.heap.size ≤ d) :
    IBox w3 q D N.length d F R.length f ∧ Cp w (w3.setCell ⟨q, 1, none⟩ (.slice G (j + 1) g)) q A c A' c' N Z D d G g (R ++ [z]) (j + 1) := by
  have n := h.img.addZ ho (by rw [List.length_append, h.len]; rfl) o s (fun y hy => by
    rcases List.mem_append.1 hy with hy | hy
    · exact .inl hy
    · rw [List.mem_singleton] at hy; subst hy; exact .inr ⟨he, hap⟩)
  have hb : IBox w3 q D N.length d F R.length f := Row.only h.box o (fun hd => h.img.ne h.box (by decide) (by decide) (.inr hd))
  have hs : IBox w3 w.heap.size A N.length c A' Z.length c' := Row.only h.src o (fun hd => h.img.ne h.src (by decide) (by decide) (.inr hd))
  have hr : IBox w3 (w.heap.size + 1) none 0 0 none 0 0 := Row.only h.res o (fun hd => h.img.ne h.res (by decide) (by decide) (.inr hd))
  have ob := only_set1 w3 q 1 (.slice G (j + 1) g)
  have hq0 := h.q0
  have k1 : Below w.heap.size w w3 := h.below.trans (o.below h.below.size (fun d hd => by have := (h.img.lt (d := d) (.inr hd)).1; omega))
  have k2 : Below w.heap.size w (w3.setCell ⟨q, 1, none⟩ (.slice G (j + 1) g)) := k1.trans (ob.below k1.size (fun d hd => by omega))
  refine ⟨hb, by rw [List.length_append, h.len]; rfl, ?_, n.img.keep ob (fun a ha hd => by subst hd; exact n.img.ne hb (by decide) (by decide) ha) (fun y hy hn a p hA hd => by subst hd; have := n.img.exts y hy; rw [hA] at this; exact exts_ibox this hn hb), ?_, Row.only hs ob (by omega), Row.only hr ob (by omega), him.on k2, k2, h.q0, fun y hy hn a p hA => (List.mem_append.1 hy).elim (fun hy => h.new y hy hn a p hA) (fun hy => by rw [List.mem_singleton] at hy; subst hy; exact hnw a p hA)⟩
  · rw [getD_take Z j hj, List.map_append, List.map_append, h.is, List.map_cons, List.map_cons, hz]
  · have := Row.setv hb 1 (.slice G (j + 1) g)
    rw [List.length_append, h.len]
    exact this
end

set_option maxHeartbeats 8000000 in
theorem rcopy_img (A : Option Addr) (c : Nat) (A' : Option Addr) (c' : Nat) (N : List Nm) (Z : List Nz) (w : World) (h : Im w A N.length c A' Z.length c' N Z) (hn : N.length ≤ 1000) (hk : Z.length ≤ 1000) (hl : ∀ z ∈ Z, z.n ≤ 1000000) :
    Calls Tryz.prog 46 #[iv A N.length c A' Z.length c'] w (RenewPostN N Z w) := by
  obtain ⟨W, hW⟩ : ∃ W, entry w A N.length c A' Z.length c' = W := ⟨_, rfl⟩
  have HW := Lib.hid (show (w.alloc (.cells #[.slice A N.length c, .slice A' Z.length c'] 25)).alloc (.cells #[.slice none 0 0, .slice none 0 0] 25) = W from hW)
  have KW := Lib.hid (show Below w.heap.size w W by rw [← hW]; exact entry_below _ _ _ _ _ _ _)
  have B0 := Lib.hid (show IBox W w.heap.size A N.length c A' Z.length c' by
    rw [← hW]; exact (ibox_new w _ _ _ _ _ _).on ((Below.refl _ _).alloc (Nat.le_refl _) _))
  have R0 := Lib.hid (show IBox W (w.heap.size + 1) none 0 0 none 0 0 by
    rw [← hW]
    have := ibox_new (w.alloc (.cells #[.slice A N.length c, .slice A' Z.length c'] 25)) none 0 0 none 0 0
    simpa [entry] using this)
  have HS := Lib.hid (show W.heap.size = w.heap.size + 2 by rw [← hW]; simp [entry])
  have H := Lib.hid h; have HL := Lib.hid hl
  have HNW := Lib.hid (h.names.on KW.out)
  clear h hl hW
  show Calls Tryz.prog 46 #[.agg #[.slice A N.length c, .slice A' Z.length c']] w _
  go_enter Tryz.func46, Tryz.ntmps46
  go_upto_region 1 with fail
  rw [HW.out]
  have b0 := B0.out.c0; have b1 := B0.out.c1
  go_upto_region 2 with (at_builtin; with_reducible refine st_catE tyN rfl _ _ rfl W.heap.size _ [] rfl (owns_nil _ _) A N.length c N rfl HNW.out (by simpa using (show N.length ≤ 1000000 by omega)) (Nat.le_refl _) N N.length rfl rfl ?_; intro D d w1 q1 k1 _; have Q1 := Lib.hid q1; have K1 := Lib.hid k1; clear q1 k1)
  clear b0 b1
  have KN := Lib.hid (show Below W.heap.size W w1 from K1.out.below (Nat.le_refl _) (fun d hd => by cases hd))
  obtain ⟨W2, hW2⟩ : ∃ W2, w1.alloc (.cells #[.slice D N.length d, .slice none 0 0] 25) = W2 := ⟨_, rfl⟩
  have KW2 := Lib.hid (show Below w1.heap.size w1 W2 by rw [← hW2]; exact (Below.refl _ _).alloc (Nat.le_refl _) _)
  have KX := Lib.hid (show Below W.heap.size W W2 from KN.out.trans (KW2.out.mono KN.out.size))
  have KY := Lib.hid (show Below w.heap.size w W2 from KW.out.trans (KX.out.mono KW.out.size))
  have X0 := Lib.hid (show Cp w W2 w1.heap.size A c A' c' N Z D d none 0 [] 0 from ⟨rfl, rfl, ⟨by rw [← HS.out]; exact Q1.out.on KW2.out, owns_nil _ _, by simp, by simp, H.out.str⟩, by rw [← hW2]; exact ibox_new _ _ _ _ _ _ _, B0.out.on KX.out, R0.out.on KX.out, H.out.on KY.out, KY.out, by have := KN.out.size; have := HS.out; omega, by simp⟩)
  have HW2 := Lib.hid hW2
  obtain ⟨q, hq⟩ : ∃ q, w1.heap.size = q := ⟨_, rfl⟩
  rw [hq] at X0
  have HQ := Lib.hid hq
  clear hW2 hq
  rw [HW2.out, HQ.out]
  have hkm : Z.length ≤ 1000 := hk
  go_wp2
  go_loopw [4] (fun i wr => ∃ (j : Nat) (F : Option Addr) (f : Nat) (R : List Nz), j ≤ Z.length ∧ i = .int .i64 j ∧ Hid (Cp w wr q A c A' c' N Z D d F f R j)) (fun i _ => Z.length - (intOf i).toNat)
  case atStart => exact ⟨0, none, 0, [], Nat.zero_le _, rfl, X0.out⟩
  case round =>
    clear X0 HW2 HQ KW2 KX KY KN Q1 K1
    obtain ⟨j, F, f, R, hj, rfl, X⟩ := hrel
    have b1 := X.out.src.c1
    by_cases hlt : j < Z.length
    · obtain ⟨b, o, rfl, hb, _⟩ := X.out.im.nodes.cells (by omega)
      have HN := Lib.hid (fun w' (kk : Below wr.heap.size wr w') => Nds.at (X.out.im.nodes.on kk) j hlt)
      have hji : (j : Int) < (Z.length : Int) := by omega
      have HM := Lib.hid (getD_mem' hlt)
      have HA := Lib.hid (fun w' (kk : Below wr.heap.size wr w') z' w3 G g hd hE hap hnw ho hO hs => (X.out.on kk).add hlt H.out (z := z') (w3 := w3) (G := G) (g := g) hd hE hap hnw ho hO hs)
      generalize Z.getD j default = z at *
      have HE := Lib.hid (X.out.im.exts z HM.out)
      have hzn := HL.out _ HM.out
      obtain ⟨zi, zs, zA, zn, zc, zL⟩ := z
      simp only at HN HE hzn HA
      have e0 := (HN.out wr (Below.refl _ _)).1; have e1 := (HN.out wr (Below.refl _ _)).2.1; have e2 := (HN.out wr (Below.refl _ _)).2.2
      have q1 := X.out.box.c1
      have hRl := X.out.len
      rw [hRl] at q1
      have HOwn := Lib.hid (fun w' (kk : Below wr.heap.size wr w') => (show OwnS elZ (w.heap.size + 2) w' (.slice F j f) R from by have := (X.out.on kk).img.nodes; rwa [X.out.len] at this))
      have HAd := Lib.hid (show F = none ∨ ∃ g, F = some ⟨g, 0, none⟩ from X.out.img.nodes.addr.imp id (fun ⟨g, hg, _⟩ => ⟨g, hg⟩))
      go_upto_region 5 with fail
      have hbw : b < w.heap.size := by
        obtain ⟨b', o', he, hl', _⟩ := H.out.nodes.cells (by omega)
        injection he with he; injection he with h1 h2; omega
      have HFb := Lib.hid (show ∀ d, F = some ⟨d, 0, none⟩ → w.heap.size + 2 ≤ d from fun d hd => (X.out.img.lt (d := d) (.inr hd)).1)
      have qq1 := fun u : Wo wr (fun d => F = some ⟨d, 0, none⟩) => (show u.v.cell? ⟨q, 1, none⟩ = some (.slice F j f) from by have : IBox u.v q D N.length d F R.length f := Row.only X.out.box u.k (fun hd => X.out.img.ne X.out.box (by decide) (by decide) (.inr hd)); have := this.c1; rwa [hRl] at this)
      have qs1 := fun u : Wo wr (fun d => F = some ⟨d, 0, none⟩) => (show u.v.cell? ⟨w.heap.size, 1, none⟩ = some (.slice (some ⟨b, o, none⟩) Z.length c') from by have : IBox u.v w.heap.size A N.length c (some ⟨b, o, none⟩) Z.length c' := Row.only X.out.src u.k (fun hd => X.out.img.ne X.out.src (by decide) (by decide) (.inr hd)); exact this.c1)
      have HC := Lib.hid (fun (u : Wo wr (fun d => F = some ⟨d, 0, none⟩)) (k : Nat) => u.k.cell (p := ⟨b, k, none⟩) hb (fun hd => by have := HFb.out _ hd; simp only at this; omega))
      have qe0 := fun u : Wo wr (fun d => F = some ⟨d, 0, none⟩) => (HC.out u (o + j * 3)).trans e0
      have qe1 := fun u : Wo wr (fun d => F = some ⟨d, 0, none⟩) => (HC.out u (o + j * 3 + 1)).trans e1
      have qe2 := fun u : Wo wr (fun d => F = some ⟨d, 0, none⟩) => (HC.out u (o + j * 3 + 2)).trans e2
      have HEd := Lib.hid (HE.out.on (Below.refl _ _).drew)
      have Kd := Lib.hid (show Below wr.heap.size wr wr.drew from (Below.refl _ _).drew)
      clear e0 e1 e2 q1 b1
      refine wp_region_p (fun w' => ∃ u : Wo wr (fun d => F = some ⟨d, 0, none⟩), w' = u.v) 18 [(0, 14)] [(14, 4)] _ (by kernel_rfl) rfl (by kernel_rfl) (by kernel_rfl) (by kernel_rfl) ⟨⟨wr.drew, Only.of_below Kd.out⟩, rfl⟩ ?_
      simp only [pieces, List.flatMap_cons, List.flatMap_nil, List.take_succ_cons, List.take_zero, List.drop_succ_cons, List.drop_zero, List.append_nil]
      repeat (go_big_quiet_step (fail))
      refine wpQuiet_nil ?_
      clear qq1 qs1 qe0 qe1 qe2
      refine tail_cons ?_
      go_wp2_with (go_at_call 35; refine (copy_any zs zA zn zc zL _ HEd.out hzn).mono ?_; rintro e w2 ⟨F', f', he, hm, k2⟩; obtain rfl : e = .returned (.agg #[.int .i64 zs, .slice F' zL.length f']) := he; have K2 := Lib.hid (Kd.out.trans (k2.mono Kd.out.size)); have HM2 := Lib.hid hm; clear k2 hm)
      refine tail_done ⟨⟨⟨w2, Only.of_below K2.out⟩, rfl⟩, tail_cons ?_⟩
      go_wp2
      refine tail_done ⟨⟨⟨w2, Only.of_below K2.out⟩, rfl⟩, tail_cons ?_⟩
      go_wp2_with (with_reducible refine st_oneE tyZ rfl (.tmp 31) rfl (⟨zi, zs, F', zL.length, f', zL⟩ : Nz) rfl ?_; intro vb w3 hvb r3 k3; have R3 := Lib.hid r3; have K3 := Lib.hid (K2.out.trans (k3.mono K2.out.size)); have HV3 := Lib.hid hvb; have L3 := Lib.hid k3; clear r3 k3 hvb)
      refine tail_done ⟨⟨⟨w3, Only.of_below K3.out⟩, rfl⟩, tail_cons ?_⟩
      have X3 := Lib.hid (X.out.on K3.out)
      have O3 := Lib.hid (HOwn.out w3 K3.out)
      have hlm : (R ++ [(⟨zi, zs, F', zL.length, f', zL⟩ : Nz)]).length = j + 1 := by rw [List.length_append, hRl]; rfl
      have hB3 : w.heap.size + 2 ≤ w3.heap.size := by have := X.out.q0; have := X.out.box.lt; have := K3.out.size; omega
      have hl3 : R.length + 1 ≤ 1000000 := by omega
      have S3 := Lib.hid (sl_one (E := elZ) R3.out)
      go_wp2_with (at_builtin; refine st_catE tyZ rfl _ _ rfl (w.heap.size + 2) (.slice F j f) R rfl O3.out (some ⟨vb, 0, none⟩) 1 1 [⟨zi, zs, F', zL.length, f', zL⟩] rfl S3.out hl3 hB3 (R ++ [⟨zi, zs, F', zL.length, f', zL⟩]) (j + 1) rfl hlm ?_; intro G g' w4 q4 o4 s4; have Q4 := Lib.hid q4; have O4 := Lib.hid (own_only HAd.out o4); have HS4 := Lib.hid s4; clear q4 o4 s4)
      refine tail_done ⟨⟨⟨w4, (Only.of_below K3.out).trans O4.out (fun d hd _ => hd)⟩, rfl⟩, tail_end ?_⟩
      obtain ⟨bx, XN⟩ := HA.out w3 K3.out ⟨zi, zs, F', zL.length, f', zL⟩ w4 G g' rfl (HM2.out.exts.on L3.out) (fun g p _ he hS => by
        have h1 := (HM2.out.own g p he).1
        have h2 : wr.drew.heap.size = wr.heap.size := rfl
        have := (X.out.img.lt hS).2
        omega) (fun g p he => Nat.le_trans (Nat.le_trans X.out.below.size (Nat.le_refl wr.drew.heap.size)) (HM2.out.own g p he).1) Q4.out O4.out (fun d hd => (HS4.out d hd).imp (own_src HAd.out) id)
      have HXN := Lib.hid XN
      have x1 := bx.c1; have y1 := bx.f1
      clear bx XN
      go_wp2
      refine tail_done ?_
      go_wp2
      go_roundw
      case rel => exact ⟨j + 1, G, g', _, by omega, by go_num, HXN.out⟩
      case measure => simp [intOf]; omega
    · have hjz : j = Z.length := by omega
      have hRl := X.out.len
      have q0 := X.out.box.c0; have q1 := X.out.box.c1
      have r0 := X.out.res.c0; have r1 := X.out.res.c1; have g0 := X.out.res.f0; have g1 := X.out.res.f1
      have HI := Lib.hid (show R.map Nz.d = Z.map Nz.d by have := X.out.is; rwa [hjz, List.take_length] at this)
      clear hjz hRl
      go_wp2
      have ob := only_set2 wr (w.heap.size + 1) (.slice D N.length d) (.slice F R.length f)
      exact res_ibox rfl (w.heap.size + 1) _ _ _ _ _ _ rfl (X.out.res.put _ _ _ _ _ _) rfl ⟨D, d, F, f, R, rfl, HI.out, (X.out.img.keep ob (fun g hg he => by have := (X.out.img.lt hg).1; omega) (fun z hz hn g p he h3 => by subst h3; have := X.out.img.exts z hz; rw [he] at this; exact exts_ibox this hn X.out.res)).mono (by omega), X.out.below.trans (ob.below X.out.below.size (fun g hg => by omega)), X.out.new⟩
end Go.Proofs.YtgaaieipeiekiaaGreat

namespace Go.Proofs.YtgaaieipeiekiaaGreat
open Go.RowKit
set_option maxRecDepth 100000

section
variable {α : Type} {E : El α} {ts : TypeId} {z0 : α} {by_ : Nat}
theorem szE (T : Ty E ts z0 by_) (w : World) : (sizeOf (Tryz.prog.elem ts)).run Tryz.prog w = .ok E.k w := by
  obtain ⟨i0, hi, _, hz1, _⟩ := info_parts T.info
  rw [T.elem]
  simp [sizeOf, typeInfo, hi, hz1]
theorem cut_hE [Inhabited α] (T : Ty E ts z0 by_) {w : World} {A : Option Addr} {n c : Nat} {L : List α} (h : Sl E w A n c L) (hi : Nat) (hh : hi ≤ n) :
    ∃ A' c', (∀ w', (Instr.sliceAt ts (.slice A n c) none (some (.int .i64 (hi : Int))) none).run Tryz.prog w' = .ok (.slice A' hi c') w') ∧ Sl E w A' hi c' (L.take hi) := by
  have hc := h.le
  have hp := h.piece 0 hi (by omega)
  rw [List.drop_zero] at hp
  refine ⟨_, _, fun w' => ?_, hp⟩
  have hsl : Tryz.prog.underlying ts = some (.slice (Tryz.prog.elem ts)) := by rw [T.elem]; exact T.sl
  rw [run_sliceAt_slice (P := Tryz.prog) (w := w') ts _ _ _ _ hsl, run_slice_h (P := Tryz.prog) (w := w') ts A n c hsl .i64 hi (by omega) (by omega)]
  rw [szE T]
  simp [Result.andThen, sliced]
theorem cut_lE [Inhabited α] (T : Ty E ts z0 by_) {w : World} {A : Option Addr} {n c : Nat} {L : List α} (h : Sl E w A n c L) (lo : Nat) (hl : lo ≤ n) :
    ∃ A' c', (∀ w', (Instr.sliceAt ts (.slice A n c) (some (.int .i64 (lo : Int))) none none).run Tryz.prog w' = .ok (.slice A' (n - lo) c') w') ∧ Sl E w A' (n - lo) c' (L.drop lo) := by
  have hc := h.le
  have hp := h.piece lo (n - lo) (by omega)
  rw [List.take_of_length_le (l := L.drop lo) (by rw [List.length_drop, h.len]; exact Nat.le_refl _)] at hp
  refine ⟨_, _, fun w' => ?_, hp⟩
  have hsl : Tryz.prog.underlying ts = some (.slice (Tryz.prog.elem ts)) := by rw [T.elem]; exact T.sl
  rw [run_sliceAt_slice (P := Tryz.prog) (w := w') ts _ _ _ _ hsl, run_slice_l (P := Tryz.prog) (w := w') ts A n c hsl .i64 lo (by omega) (by omega)]
  rw [szE T]
  simp [Result.andThen, sliced]
end
theorem own_low {α : Type} {E : El α} {B : Nat} {w : World} {v : Value} {L : List α} (h : OwnS E B w v L) {d : Nat} (hd : v.ownBlock = some d) : B ≤ d := (h.row.lt d hd).1
/-- The names in the variable q are others. -/
def CalledPost (q : Nat) (A' : Option Addr) (m c' : Nat) (M : List Nm) (w : World) (e : Ending) (w' : World) : Prop := ∃ D d, e = .returned (.tuple #[]) ∧ IBox w' q D M.length d A' m c' ∧ OwnS elN w.heap.size w' (.slice D M.length d) M ∧ Only (fun d => d = q) w w'

set_option maxHeartbeats 8000000 in
theorem called_any (q : Nat) (A : Option Addr) (n c : Nat) (A' : Option Addr) (m c' : Nat) (N : List Nm) (name : ByteArray) (k : Int) (w : World) (hb : IBox w q A n c A' m c') (h : Nms w A n c N) (hn : n ≤ 1000) (M : List Nm) (hM : ins ordN Nm.name N ⟨name, k⟩ = M) :
    Calls Tryz.prog 47 #[.pointer (some ⟨q, 0, none⟩), .string name, .int .i64 k] w (CalledPost q A' m c' M w) := by
  have HB := Lib.hid hb; have H := Lib.hid h; have HM := Lib.hid hM
  have HL := Lib.hid h.len
  have b0 := hb.c0; have b1 := hb.c1; have f0 := hb.f0; have f1 := hb.f1
  clear hb h hM
  go_enter Tryz.func47, Tryz.ntmps47
  go_wp2
  go_loop [6] (fun i => ∃ j : Nat, j ≤ n ∧ i = .int .i64 j ∧ Hid (∀ i, i < j → nlt (N.getD i default).name name = true)) (fun i => n - (intOf i).toNat)
  case atStart => exact ⟨0, Nat.zero_le _, rfl, fun i hi => absurd hi (by omega)⟩
  case round =>
    obtain ⟨j, hj, rfl, HT⟩ := hrel
    by_cases hlt : j < n
    · obtain ⟨b, o, rfl, _, _⟩ := H.out.cells (by omega)
      obtain ⟨x0, x1⟩ := Nms.at H.out j hlt
      have hji : (j : Int) < (n : Int) := by omega
      obtain ⟨y, hy⟩ : ∃ y, nlt (N.getD j default).name name = y := ⟨_, rfl⟩
      have hy' : Op.bytesLess (N.getD j default).name.toList name.toList = y := hy
      have HS := Lib.hid (show y = true → ∀ i, i < j + 1 → nlt (N.getD i default).name name = true from fun h i hi => by
        rcases Nat.lt_or_ge i j with h1 | h1
        · exact HT.out i h1
        · obtain rfl : i = j := by omega
          rw [hy, h])
      have HP := Lib.hid (show y = false → pl ordN Nm.name N name = j from fun h => pl_unique (by rw [HL.out]; exact hj) HT.out (fun _ => by show nlt _ _ = false; rw [hy, h]))
      generalize (N.getD j default).name = xs at *
      clear hy
      cases y with
      | true =>
        have HX := Lib.hid (HS.out (by first | rfl | trivial))
        go_wp2
        go_round
        case rel => exact ⟨j + 1, by omega, by go_num, HX.out⟩
        case measure => simp [intOf]; omega
      | false =>
        have HX := Lib.hid (HP.out (by first | rfl | trivial))

        obtain ⟨t, ht⟩ : ∃ t, t = j := ⟨_, rfl⟩
        subst ht
        have HMt := Lib.hid (show N.take t ++ [⟨name, k⟩] ++ N.drop t = M by rw [← HM.out, ← ins_pl]; show _ = N.take (pl ordN Nm.name N name) ++ _ :: N.drop (pl ordN Nm.name N name); rw [HX.out, List.append_assoc]; rfl)
        have hML := Lib.hid (show M.length = n + 1 by rw [← HMt.out]; simp; have := HL.out; omega)
        obtain ⟨A1, d1, hs1, hx1⟩ := cut_hE tyN H.out t hj
        obtain ⟨A2, d2, hs2, hx2⟩ := cut_lE tyN H.out t hj
        have X1 := Lib.hid hx1; have X2 := Lib.hid hx2
        have hl1 : (([] : List Nm).length + t) ≤ 1000000 := by simp; omega
        have hm1 : (N.take t).length = t := by rw [List.length_take, HL.out]; omega
        clear hx1 hx2
        go_upto_region 4 with (at_builtin; refine st_catE tyN rfl _ _ rfl w.heap.size _ [] rfl (owns_nil _ _) A1 t d1 (N.take t) rfl X1.out hl1 (Nat.le_refl _) (N.take t) t rfl hm1 ?_; intro D1 g1 w1 q1 k1 _; have Q1 := Lib.hid q1; have K1 := Lib.hid (k1.below (B := w.heap.size) (Nat.le_refl _) (fun d hd => by cases hd)); clear q1 k1)
        have hm2 : (N.take t ++ [(⟨name, k⟩ : Nm)]).length = t + 1 := by rw [List.length_append, hm1]; rfl
        have hl2 : (N.take t).length + 1 ≤ 1000000 := by omega
        go_upto_region 5 with (first | (with_reducible refine st_oneE tyN rfl (.tmp 39) rfl (⟨name, k⟩ : Nm) rfl ?_; intro vb w2 hvb r2 k2; have R2 := Lib.hid (sl_one (E := elN) r2); have K2 := Lib.hid (K1.out.trans (k2.mono K1.out.size)); have Q2 := Lib.hid (Q1.out.on k2); clear r2 k2 hvb) | (at_builtin; refine st_catE tyN rfl _ _ rfl w.heap.size _ (N.take t) rfl Q2.out (some ⟨vb, 0, none⟩) 1 1 [⟨name, k⟩] rfl R2.out hl2 K2.out.size _ (t + 1) rfl hm2 ?_; intro D3 g3 w3 q3 k3 s3; have Q3 := Lib.hid q3; have K3 := Lib.hid (K2.out.trans (k3.below (B := w.heap.size) K2.out.size (fun d hd => own_low Q2.out hd))); clear q3 k3 s3))
        have hl3 : (N.take t ++ [(⟨name, k⟩ : Nm)]).length + (n - t) ≤ 1000000 := by rw [hm2]; omega
        have hm3 : (N.take t ++ [(⟨name, k⟩ : Nm)] ++ N.drop t).length = n + 1 := by rw [HMt.out]; exact hML.out
        have c0 := (HB.out.on K3.out).c0; have c1 := (HB.out.on K3.out).c1
        go_wp2_with (at_builtin; refine st_catE tyN rfl _ _ rfl w.heap.size _ _ rfl Q3.out A2 (n - t) d2 (N.drop t) rfl (X2.out.on K3.out) hl3 K3.out.size _ (n + 1) rfl hm3 ?_; intro D4 g4 w4 q4 k4 _; have Q4 := Lib.hid q4; have K4 := Lib.hid (K3.out.trans (k4.below (B := w.heap.size) K3.out.size (fun d hd => own_low Q3.out hd))); have e0 := (HB.out.on K4.out).c0; have e1 := (HB.out.on K4.out).c1; have i0 := (HB.out.on K4.out).f0; clear q4 k4 c0 c1)
        refine bodyPost_end (results_none rfl _ _ _) rfl ⟨D4, g4, rfl, ?_, ?_, (Only.of_below K4.out).trans (only_set1 _ _ _ _) (fun d hd _ => hd)⟩
        · rw [hML.out]
          exact Row.setv (HB.out.on K4.out) 0 (.slice D4 (n + 1) g4)
        · have hq := HB.out.lt
          rw [hML.out]
          have := Q4.out
          rw [HMt.out] at this
          exact this.only (only_set1 _ _ _ _) (fun g hg hd => by
            subst hd
            have := own_low this (d := g) (by rw [hg]; rfl)
            omega)
    · have HX := Lib.hid (show pl ordN Nm.name N name = j from pl_unique (by rw [HL.out]; exact hj) HT.out (fun hh => absurd hh (by rw [HL.out]; omega)))
      have hji : ¬ ((j : Int) < (n : Int)) := by omega
      obtain ⟨t, ht⟩ : ∃ t, t = j := ⟨_, rfl⟩
      subst ht
      have HMt := Lib.hid (show N.take t ++ [⟨name, k⟩] ++ N.drop t = M by rw [← HM.out, ← ins_pl]; show _ = N.take (pl ordN Nm.name N name) ++ _ :: N.drop (pl ordN Nm.name N name); rw [HX.out, List.append_assoc]; rfl)
      have hML := Lib.hid (show M.length = n + 1 by rw [← HMt.out]; simp; have := HL.out; omega)
      obtain ⟨A1, d1, hs1, hx1⟩ := cut_hE tyN H.out t hj
      obtain ⟨A2, d2, hs2, hx2⟩ := cut_lE tyN H.out t hj
      have X1 := Lib.hid hx1; have X2 := Lib.hid hx2
      have hl1 : (([] : List Nm).length + t) ≤ 1000000 := by simp; omega
      have hm1 : (N.take t).length = t := by rw [List.length_take, HL.out]; omega
      clear hx1 hx2
      go_upto_region 4 with (at_builtin; refine st_catE tyN rfl _ _ rfl w.heap.size _ [] rfl (owns_nil _ _) A1 t d1 (N.take t) rfl X1.out hl1 (Nat.le_refl _) (N.take t) t rfl hm1 ?_; intro D1 g1 w1 q1 k1 _; have Q1 := Lib.hid q1; have K1 := Lib.hid (k1.below (B := w.heap.size) (Nat.le_refl _) (fun d hd => by cases hd)); clear q1 k1)
      have hm2 : (N.take t ++ [(⟨name, k⟩ : Nm)]).length = t + 1 := by rw [List.length_append, hm1]; rfl
      have hl2 : (N.take t).length + 1 ≤ 1000000 := by omega
      go_upto_region 5 with (first | (with_reducible refine st_oneE tyN rfl (.tmp 39) rfl (⟨name, k⟩ : Nm) rfl ?_; intro vb w2 hvb r2 k2; have R2 := Lib.hid (sl_one (E := elN) r2); have K2 := Lib.hid (K1.out.trans (k2.mono K1.out.size)); have Q2 := Lib.hid (Q1.out.on k2); clear r2 k2 hvb) | (at_builtin; refine st_catE tyN rfl _ _ rfl w.heap.size _ (N.take t) rfl Q2.out (some ⟨vb, 0, none⟩) 1 1 [⟨name, k⟩] rfl R2.out hl2 K2.out.size _ (t + 1) rfl hm2 ?_; intro D3 g3 w3 q3 k3 s3; have Q3 := Lib.hid q3; have K3 := Lib.hid (K2.out.trans (k3.below (B := w.heap.size) K2.out.size (fun d hd => own_low Q2.out hd))); clear q3 k3 s3))
      have hl3 : (N.take t ++ [(⟨name, k⟩ : Nm)]).length + (n - t) ≤ 1000000 := by rw [hm2]; omega
      have hm3 : (N.take t ++ [(⟨name, k⟩ : Nm)] ++ N.drop t).length = n + 1 := by rw [HMt.out]; exact hML.out
      have c0 := (HB.out.on K3.out).c0; have c1 := (HB.out.on K3.out).c1
      go_wp2_with (at_builtin; refine st_catE tyN rfl _ _ rfl w.heap.size _ _ rfl Q3.out A2 (n - t) d2 (N.drop t) rfl (X2.out.on K3.out) hl3 K3.out.size _ (n + 1) rfl hm3 ?_; intro D4 g4 w4 q4 k4 _; have Q4 := Lib.hid q4; have K4 := Lib.hid (K3.out.trans (k4.below (B := w.heap.size) K3.out.size (fun d hd => own_low Q3.out hd))); have e0 := (HB.out.on K4.out).c0; have e1 := (HB.out.on K4.out).c1; have i0 := (HB.out.on K4.out).f0; clear q4 k4 c0 c1)
      refine bodyPost_end (results_none rfl _ _ _) rfl ⟨D4, g4, rfl, ?_, ?_, (Only.of_below K4.out).trans (only_set1 _ _ _ _) (fun d hd _ => hd)⟩
      · rw [hML.out]
        exact Row.setv (HB.out.on K4.out) 0 (.slice D4 (n + 1) g4)
      · have hq := HB.out.lt
        rw [hML.out]
        have := Q4.out
        rw [HMt.out] at this
        exact this.only (only_set1 _ _ _ _) (fun g hg hd => by
          subst hd
          have := own_low this (d := g) (by rw [hg]; rfl)
          omega)
end Go.Proofs.YtgaaieipeiekiaaGreat

namespace Go.Proofs.YtgaaieipeiekiaaGreat
open Go.RowKit
set_option maxRecDepth 100000

def GonePost (q : Nat) (A' : Option Addr) (c' : Nat) (drop : Bool) (M : List Nm) (Y : List Nz) (w : World) (e : Ending) (w' : World) : Prop := ∃ D d D' d', e = .returned (.tuple #[]) ∧ IBox w' q D M.length d D' Y.length d' ∧ OwnS elN w.heap.size w' (.slice D M.length d) M ∧ (drop = true → OwnS elZ w.heap.size w' (.slice D' Y.length d') Y) ∧ (drop = false → D' = A' ∧ d' = c') ∧ Only (fun d => d = q) w w'

theorem sz_ibox {w : World} {q o n c : Nat} {L : List Nz} {A : Option Addr} {a b : Nat} {A' : Option Addr} {a' b' : Nat} (h : Nds w (some ⟨q, o, none⟩) n c L) (hn : 0 < n) (hb : IBox w q A a b A' a' b') : False := by
  have h0 := (Nds.at h 0 hn).1
  rw [Row.at hb] at h0
  match o, h0 with
  | 0, h0 => simp at h0
  | 1, h0 => simp at h0
  | p + 2, h0 => simp at h0

set_option maxHeartbeats 8000000 in
theorem gone_any (q : Nat) (A : Option Addr) (n c : Nat) (A' : Option Addr) (m c' : Nat) (N : List Nm) (Z : List Nz) (name : ByteArray) (drop : Bool) (w : World) (hb : IBox w q A n c A' m c') (h : Im w A n c A' m c' N Z) (hn : n ≤ 1000) (hk : m ≤ 1000) (j : Nat) (x : Nm) (hj : ixOf Nm.name N name = j) (hjn : j < n) (hx : N.getD j default = x) (i : Nat) (hi : drop = true → ixOf Nz.ino Z x.ino = i ∧ i < m) (M : List Nm) (Y : List Nz) (hM : N.take j ++ N.drop (j + 1) = M) (hY1 : drop = true → Z.take i ++ Z.drop (i + 1) = Y) (hY0 : drop = false → Z = Y) :
    Calls Tryz.prog 48 #[.pointer (some ⟨q, 0, none⟩), .string name, .bool drop] w (GonePost q A' c' drop M Y w) := by
  have HB := Lib.hid hb; have H := Lib.hid h
  have HJ := Lib.hid hj; have HX := Lib.hid hx; have HI := Lib.hid hi; have HM := Lib.hid hM; have HY1 := Lib.hid hY1; have HY0 := Lib.hid hY0
  have HL := Lib.hid h.names.len; have HL' := Lib.hid h.nodes.len
  have b0 := hb.c0; have b1 := hb.c1
  clear hb h hj hx hi hM hY1 hY0
  go_enter Tryz.func48, Tryz.ntmps48
  go_wp2_with fail
  refine (rnamed_any A n c A' m c' N Z name w H.out (j : Int) HJ.out).mono ?_
  rintro e w1 ⟨rfl, k1⟩
  have K1 := Lib.hid k1
  have HB1 := Lib.hid (HB.out.on k1); have H1 := Lib.hid (H.out.on k1)
  clear k1 b0 b1
  have b0 := HB1.out.c0; have b1 := HB1.out.c1
  have hji : (j : Int) < (n : Int) := by omega
  obtain ⟨g, o, rfl, _, _⟩ := H1.out.names.cells (by omega)
  have hc := (Nms.at H1.out.names j hjn).2
  rw [HX.out] at hc
  obtain ⟨k, hkx⟩ : ∃ k, x.ino = k := ⟨_, rfl⟩
  rw [hkx] at hc HI
  obtain ⟨r, hr⟩ : ∃ r, ixOf Nz.ino Z k = r := ⟨_, rfl⟩
  have HR := Lib.hid hr
  clear hkx hr
  go_upto_region 2 with fail
  clear hc b0 b1
  obtain ⟨A1, d1, hs1, hx1⟩ := cut_hE tyN H1.out.names j (by omega)
  obtain ⟨A2, d2, hs2, hx2⟩ := cut_lE tyN H1.out.names (j + 1) (by omega)
  have X1 := Lib.hid hx1; have X2 := Lib.hid hx2
  have hadd : (((j + 1 : Nat)) : Int) = (j : Int) + 1 := by omega
  rw [hadd] at hs2
  have qb := fun u : Wb w1 => (HB1.out.on u.k).c0
  have Kd := Lib.hid (show Below w1.heap.size w1 w1.drew from (Below.refl _ _).drew)
  have hl1 : (([] : List Nm).length + j) ≤ 1000000 := by simp; omega
  have hm1 : (N.take j).length = j := by rw [List.length_take, HL.out]; omega
  have hl2 : (N.take j).length + (n - (j + 1)) ≤ 1000000 := by rw [hm1]; omega
  have hm2 : (N.take j ++ N.drop (j + 1)).length = M.length := by rw [HM.out]
  clear hx1 hx2
  refine wp_region_p (fun w' => ∃ u : Wb w1, w' = u.v) 16 [(0, 7), (8, 7)] [(7, 1), (15, 1)] _ (by kernel_rfl) rfl (by kernel_rfl) (by kernel_rfl) (by kernel_rfl) ⟨⟨w1.drew, Kd.out⟩, rfl⟩ ?_
  simp only [pieces, List.flatMap_cons, List.flatMap_nil, List.take_succ_cons, List.take_zero, List.drop_succ_cons, List.drop_zero, List.append_nil, List.cons_append, List.nil_append]
  repeat (go_big_quiet_step (fail))
  refine wpQuiet_nil ?_
  clear qb hs1 hs2
  refine tail_cons ?_
  go_wp2_with (at_builtin; refine st_catE tyN rfl _ _ rfl w1.heap.size _ [] rfl (owns_nil _ _) A1 j d1 (N.take j) rfl (X1.out.on Kd.out) hl1 (Nat.le_refl _) (N.take j) j rfl hm1 ?_; intro D1 g1 w2 q1 k1 _; have Q1 := Lib.hid q1; have K2 := Lib.hid (Kd.out.trans (k1.below (B := w1.heap.size) (Nat.le_refl _) (fun d hd => by cases hd))); clear q1 k1)
  refine tail_done ⟨⟨⟨w2, K2.out⟩, rfl⟩, tail_cons ?_⟩
  go_wp2_with (at_builtin; refine st_catE tyN rfl _ _ rfl w1.heap.size _ (N.take j) rfl Q1.out A2 (n - (j + 1)) d2 (N.drop (j + 1)) rfl (X2.out.on K2.out) hl2 K2.out.size _ M.length rfl hm2 ?_; intro D2 g2 w3 q1 k1 _; have Q2 := Lib.hid q1; have K3 := Lib.hid (K2.out.trans (k1.below (B := w1.heap.size) K2.out.size (fun d hd => own_low Q1.out hd))); clear q1 k1)
  refine tail_done ⟨⟨⟨w3, K3.out⟩, rfl⟩, tail_end ?_⟩
  have e := (HB1.out.on K3.out).f0; have ec := (HB1.out.on K3.out).c0
  go_wp2
  refine tail_done ?_
  clear e ec
  obtain ⟨W4, hW4⟩ : ∃ W4, w3.setCell ⟨q, 0, none⟩ (.slice D2 M.length g2) = W4 := ⟨_, rfl⟩
  have hq := HB1.out.lt
  have ob := only_set1 w3 q 0 (.slice D2 M.length g2)
  have HB4 := Lib.hid (show IBox W4 q D2 M.length g2 A' m c' by rw [← hW4]; exact Row.setv (HB1.out.on K3.out) 0 _)
  have HQ4 := Lib.hid (show OwnS elN w1.heap.size W4 (.slice D2 M.length g2) M by
    rw [← hW4]
    have := Q2.out
    rw [HM.out] at this
    exact this.only ob (fun g hg hd => by
      subst hd
      have := own_low this (d := g) (by rw [hg]; rfl)
      omega))
  have HO4 := Lib.hid (show Only (fun d => d = q) w W4 by
    rw [← hW4]
    exact (Only.of_below (K1.out.trans (K3.out.mono K1.out.size))).trans ob (fun d hd _ => hd))
  have H4 := Lib.hid (show Im W4 D2 M.length g2 A' m c' M Z by
    have h3 := H1.out.on K3.out
    have hb3 := HB1.out.on K3.out
    refine ⟨HQ4.out.sl', ?_, fun z hz => ?_, fun y hy => ?_⟩
    · rw [← hW4]; exact h3.nodes.only ob (fun g o hg hn hd => by subst hd; have := h3.nodes; rw [hg] at this; exact sz_ibox this hn hb3)
    · rw [← hW4]; exact (h3.exts z hz).only ob (fun g p he hn hd => by subst hd; have := h3.exts z hz; rw [he] at this; exact exts_ibox this hn hb3)
    · rw [← HM.out] at hy
      rcases List.mem_append.1 hy with hy | hy
      · exact H1.out.str y (List.mem_of_mem_take hy)
      · exact H1.out.str y (List.mem_of_mem_drop hy))
  have HW4 := Lib.hid hW4
  clear hW4 ob
  go_upto_region 3 with fail
  rw [HW4.out]
  have b0 := HB4.out.c0; have b1 := HB4.out.c1
  go_wp2_with fail
  refine (rnode_any D2 M.length g2 A' m c' M Z k W4 H4.out r HR.out).mono ?_
  rintro e w5 ⟨rfl, k5⟩
  have HB5 := Lib.hid (HB4.out.on k5); have H5 := Lib.hid (H4.out.on k5)
  have HO5 := Lib.hid (show Only (fun d => d = q) w w5 from HO4.out.trans (Only.of_below (S := fun _ => False) k5) (fun _ h => h.elim))
  have HQ5 := Lib.hid ((HQ4.out.on k5).mono K1.out.size)
  clear k5 b0 b1
  cases drop with
  | false =>
    have hYZ := HY0.out (by first | rfl | trivial)
    have hZl : m = Y.length := by rw [← HL'.out, hYZ]
    go_wp2
    refine bodyPost_end (results_none rfl _ _ _) rfl ⟨D2, g2, A', c', rfl, by rw [← hZl]; exact HB5.out, HQ5.out, (fun h => by cases h), (fun _ => ⟨rfl, rfl⟩), HO5.out⟩
  | true =>
    obtain ⟨hri, hi⟩ := HI.out (by first | rfl | trivial)
    have hYM := Lib.hid (HY1.out (by first | rfl | trivial))
    rw [HR.out] at hri
    subst hri
    have hii : (i : Int) < (m : Int) := by omega
    go_upto_region 5 with fail
    obtain ⟨A1z, d1z, hs1, hx1⟩ := cut_hE tyZ H5.out.nodes i (by omega)
    obtain ⟨A2z, d2z, hs2, hx2⟩ := cut_lE tyZ H5.out.nodes (i + 1) (by omega)
    have X1z := Lib.hid hx1; have X2z := Lib.hid hx2
    have hadd : (((i + 1 : Nat)) : Int) = (i : Int) + 1 := by omega
    rw [hadd] at hs2
    have qb := fun u : Wb w5 => (HB5.out.on u.k).c1
    have Kdz := Lib.hid (show Below w5.heap.size w5 w5.drew from (Below.refl _ _).drew)
    have hl1z : (([] : List Nz).length + i) ≤ 1000000 := by simp; omega
    have hm1z : (Z.take i).length = i := by rw [List.length_take, HL'.out]; omega
    have hl2z : (Z.take i).length + (m - (i + 1)) ≤ 1000000 := by rw [hm1z]; omega
    have hm2z : (Z.take i ++ Z.drop (i + 1)).length = Y.length := by rw [hYM.out]
    clear hx1 hx2
    refine wp_region_p (fun w' => ∃ u : Wb w5, w' = u.v) 16 [(0, 7), (8, 7)] [(7, 1), (15, 1)] _ (by kernel_rfl) rfl (by kernel_rfl) (by kernel_rfl) (by kernel_rfl) ⟨⟨w5.drew, Kdz.out⟩, rfl⟩ ?_
    simp only [pieces, List.flatMap_cons, List.flatMap_nil, List.take_succ_cons, List.take_zero, List.drop_succ_cons, List.drop_zero, List.append_nil, List.cons_append, List.nil_append]
    repeat (go_big_quiet_step (fail))
    refine wpQuiet_nil ?_
    clear qb hs1 hs2
    refine tail_cons ?_
    go_wp2_with (at_builtin; refine st_catE tyZ rfl _ _ rfl w5.heap.size _ [] rfl (owns_nil _ _) A1z i d1z (Z.take i) rfl (X1z.out.on Kdz.out) hl1z (Nat.le_refl _) (Z.take i) i rfl hm1z ?_; intro D1z g1z w2z q1 k1 _; have Q1z := Lib.hid q1; have K2z := Lib.hid (Kdz.out.trans (k1.below (B := w5.heap.size) (Nat.le_refl _) (fun d hd => by cases hd))); clear q1 k1)
    refine tail_done ⟨⟨⟨w2z, K2z.out⟩, rfl⟩, tail_cons ?_⟩
    go_wp2_with (at_builtin; refine st_catE tyZ rfl _ _ rfl w5.heap.size _ (Z.take i) rfl Q1z.out A2z (m - (i + 1)) d2z (Z.drop (i + 1)) rfl (X2z.out.on K2z.out) hl2z K2z.out.size _ Y.length rfl hm2z ?_; intro D2z g2z w3z q1 k1 _; have Q2z := Lib.hid q1; have K3z := Lib.hid (K2z.out.trans (k1.below (B := w5.heap.size) K2z.out.size (fun d hd => own_low Q1z.out hd))); clear q1 k1)
    refine tail_done ⟨⟨⟨w3z, K3z.out⟩, rfl⟩, tail_end ?_⟩
    have ez := (HB5.out.on K3z.out).f1; have ecz := (HB5.out.on K3z.out).c1
    go_wp2
    refine tail_done ?_
    clear ez ecz
    have ob := only_set1 w3z q 1 (.slice D2z Y.length g2z)
    have hq5 := HB5.out.lt
    have hsz := HO5.out.size
    go_wp2
    refine bodyPost_end (results_none rfl _ _ _) rfl ⟨D2, g2, D2z, g2z, rfl, Row.setv (HB5.out.on K3z.out) 1 _, (HQ5.out.on K3z.out).only ob (fun g hg hd => ?_), fun _ => ?_, fun h => (by cases h), (HO5.out.trans (Only.of_below (S := fun _ => False) K3z.out) (fun _ h => h.elim)).trans ob (fun d hd _ => hd)⟩
    · subst hd
      have := own_low HQ4.out (d := g) (by rw [hg]; rfl)
      omega
    · have h2 := Q2z.out
      rw [hYM.out] at h2
      refine (h2.mono hsz).only ob (fun g hg hd => ?_)
      subst hd
      have := own_low h2 (d := g) (by rw [hg]; rfl)
      omega
end Go.Proofs.YtgaaieipeiekiaaGreat

namespace Go.Proofs.YtgaaieipeiekiaaGreat
open Go.RowKit
set_option maxRecDepth 100000

/-- A change's numbers are Go's. -/
def Op9 (o : Opv) : Prop := (-9223372036854775808 ≤ o.pos ∧ o.pos ≤ 9223372036854775807) ∧ (-9223372036854775808 ≤ o.size ∧ o.size ≤ 9223372036854775807)
set_option maxHeartbeats 8000000 in
theorem rchange_any (s : Int) (A : Option Addr) (n c : Nat) (L : List Ex) (o : Opv) (BA : Option Addr) (cb : Nat) (w : World) (h : Exts w A n c L) (hn : n ≤ 10000) (ho : OpIn w o BA cb) (h9 : Op9 o) (z : Bool) (s' : Int) (M : List Ex) (h1 : (chg o s L).isSome = z) (h2 : ∀ r, chg o s L = some r → r = (s', M)) :
    Calls Tryz.prog 49 #[ct s A n c, ov o BA cb] w (RefillPost z s' M w) := by
  obtain ⟨W, hW⟩ : ∃ W, tri w s A n c o BA cb = W := ⟨_, rfl⟩
  have T0 := Lib.hid (show Tri w W s A n c o BA cb by rw [← hW]; exact tri_new _ _ _ _ _ _ _ _)
  have HW := Lib.hid hW
  have H := Lib.hid (h.on T0.out.below); have HO := Lib.hid (ho.on T0.out.below); have H1 := Lib.hid h1; have H2 := Lib.hid h2
  clear h ho h1 h2 hW
  obtain ⟨kind, ino, pos, size, keep, name, to, bs⟩ := o
  obtain ⟨p9, s9⟩ := h9
  simp only at p9 s9
  have HN := Lib.hid HO.out.nums; have HB := Lib.hid HO.out.byte
  show Calls Tryz.prog 49 #[.agg #[.int .i64 s, .slice A n c], .agg #[.int .i64 kind, .int .i64 ino, .int .i64 pos, .int .i64 size, .bool keep, .string name, .string to, .slice BA bs.length cb]] w _
  have HW2 := Lib.hid (show ((w.alloc (.cells #[.int .i64 s, .slice A n c] 32)).alloc (.cells #[.int .i64 kind, .int .i64 ino, .int .i64 pos, .int .i64 size, .bool keep, .string name, .string to, .slice BA bs.length cb] 42)).alloc (.cells #[.int .i64 0, .slice none 0 0] 32) = W from HW.out)
  clear HW HO
  go_enter Tryz.func49, Tryz.ntmps49
  go_upto_region 1 with fail
  rw [HW2.out]
  have o0 := T0.out.bo.c0; have o2 := T0.out.bo.c2; have o3 := T0.out.bo.c3; have o4 := T0.out.bo.c4; have o7 := T0.out.bo.c7
  have c0 := T0.out.b0.c0; have c1 := T0.out.b0.c1
  simp only at o0 o2 o3 o4 o7
  have hcase : kind = 2 ∨ kind = 3 ∨ kind = 4 ∨ kind = 5 ∨ (kind < 2 ∨ 5 < kind) := by omega
  rcases hcase with hk | hk | hk | hk | hk
  · subst hk
    have HC := Lib.hid (show chg ⟨2, ino, pos, size, keep, name, to, bs⟩ s L = if ((eo pos (bs.length : Int)).isSome && decide (bs.length ≤ 4096) && may s L) = true then some (wsz s pos bs.length, wrl L pos bs) else none from rfl)
    have HG := Lib.hid (show ((eo pos (bs.length : Int)).isSome && decide (bs.length ≤ 4096) && may s L) = z by rw [← H1.out, HC.out]; cases ((eo pos (bs.length : Int)).isSome && decide (bs.length ≤ 4096) && may s L) <;> rfl)
    go_wp2_with fail
    refine (rwrite_any s A n c L pos BA bs.length cb bs _ H.out hn p9 HN.out HB.out z HG.out).mono ?_
    rintro e w1 ⟨A', n', c', M', he, hM, hm, k1⟩
    have T1 := Lib.hid (T0.out.on k1)
    have HX := Lib.hid (show z = true → (if z = true then wsz s pos bs.length else 0) = s' ∧ M' = M from fun hz => by
      have hc := HC.out
      rw [HG.out, hz] at hc
      have hr := H2.out _ hc
      injection hr with e1 e2
      rw [if_pos hz]
      refine ⟨e1, ?_⟩
      rw [← e2]
      rw [hz] at hM
      have gm : may s L = true := by have := HG.out; rw [hz] at this; simp only [Bool.and_eq_true] at this; exact this.2
      exact wr_is gm (by simpa using hM))
    obtain ⟨sx, hsx⟩ : ∃ x, (if z = true then wsz s pos bs.length else 0) = x := ⟨_, rfl⟩
    rw [hsx] at he
    obtain rfl : e = .returned (.tuple #[.agg #[.int .i64 sx, .slice A' n' c'], .bool z]) := he
    have HX2 := Lib.hid (hsx ▸ HX.out)
    have HM := Lib.hid hm
    clear k1 hM hm HX hsx o0 o2 o3 o4 o7 c0 c1
    have d0 := T1.out.b1.c0; have d1 := T1.out.b1.c1; have f0 := T1.out.b1.f0; have f1 := T1.out.b1.f1
    go_wp2
    have X := T1.out.done sx HM.out T0.out.size
    refine res_box2 rfl (w.heap.size + 2) sx A' n' c' rfl X.1 rfl ?_
    exact ⟨sx, A', n', c', M', rfl, HX2.out, X.2.1, X.2.2⟩
  · subst hk
    have HC := Lib.hid (show chg ⟨3, ino, pos, size, keep, name, to, bs⟩ s L = if (decide (0 ≤ size) && decide (size ≤ 1099511627776) && may s L) = true then some (size, wo L size 1099511627776) else none from rfl)
    have HG := Lib.hid (show (decide (0 ≤ size) && decide (size ≤ 1099511627776) && may s L) = z by rw [← H1.out, HC.out]; cases (decide (0 ≤ size) && decide (size ≤ 1099511627776) && may s L) <;> rfl)
    go_wp2_with fail
    refine (rtrunc_any s A n c L size _ H.out (by omega) z HG.out).mono ?_
    rintro e w1 ⟨A', n', c', M', he, hM, hm, k1⟩
    have T1 := Lib.hid (T0.out.on k1)
    have HX := Lib.hid (show z = true → (if z = true then size else 0) = s' ∧ M' = M from fun hz => by
      have hc := HC.out
      rw [HG.out, hz] at hc
      have hr := H2.out _ hc
      injection hr with e1 e2
      rw [if_pos hz]
      refine ⟨e1, ?_⟩
      rw [← e2]
      rw [hz] at hM
      skip
      simpa using hM)
    obtain ⟨sx, hsx⟩ : ∃ x, (if z = true then size else 0) = x := ⟨_, rfl⟩
    rw [hsx] at he
    obtain rfl : e = .returned (.tuple #[.agg #[.int .i64 sx, .slice A' n' c'], .bool z]) := he
    have HX2 := Lib.hid (hsx ▸ HX.out)
    have HM := Lib.hid hm
    clear k1 hM hm HX hsx o0 o2 o3 o4 o7 c0 c1
    have d0 := T1.out.b1.c0; have d1 := T1.out.b1.c1; have f0 := T1.out.b1.f0; have f1 := T1.out.b1.f1
    go_wp2
    have X := T1.out.done sx HM.out T0.out.size
    refine res_box2 rfl (w.heap.size + 2) sx A' n' c' rfl X.1 rfl ?_
    exact ⟨sx, A', n', c', M', rfl, HX2.out, X.2.1, X.2.2⟩
  · subst hk
    have HC := Lib.hid (show chg ⟨4, ino, pos, size, keep, name, to, bs⟩ s L = if ((eo pos size).isSome && decide (1 ≤ size) && decide (size ≤ 32768) && may s L) = true then some (asz s pos size keep, alo L pos size) else none from rfl)
    have HG := Lib.hid (show ((eo pos size).isSome && decide (1 ≤ size) && decide (size ≤ 32768) && may s L) = z by rw [← H1.out, HC.out]; cases ((eo pos size).isSome && decide (1 ≤ size) && decide (size ≤ 32768) && may s L) <;> rfl)
    go_wp2_with fail
    refine (ralloc_any s A n c L pos size keep _ H.out hn p9 s9 z HG.out).mono ?_
    rintro e w1 ⟨A', n', c', M', he, hM, hm, k1⟩
    have T1 := Lib.hid (T0.out.on k1)
    have HX := Lib.hid (show z = true → (if z = true then asz s pos size keep else 0) = s' ∧ M' = M from fun hz => by
      have hc := HC.out
      rw [HG.out, hz] at hc
      have hr := H2.out _ hc
      injection hr with e1 e2
      rw [if_pos hz]
      refine ⟨e1, ?_⟩
      rw [← e2]
      rw [hz] at hM
      skip
      simpa using hM)
    obtain ⟨sx, hsx⟩ : ∃ x, (if z = true then asz s pos size keep else 0) = x := ⟨_, rfl⟩
    rw [hsx] at he
    obtain rfl : e = .returned (.tuple #[.agg #[.int .i64 sx, .slice A' n' c'], .bool z]) := he
    have HX2 := Lib.hid (hsx ▸ HX.out)
    have HM := Lib.hid hm
    clear k1 hM hm HX hsx o0 o2 o3 o4 o7 c0 c1
    have d0 := T1.out.b1.c0; have d1 := T1.out.b1.c1; have f0 := T1.out.b1.f0; have f1 := T1.out.b1.f1
    go_wp2
    have X := T1.out.done sx HM.out T0.out.size
    refine res_box2 rfl (w.heap.size + 2) sx A' n' c' rfl X.1 rfl ?_
    exact ⟨sx, A', n', c', M', rfl, HX2.out, X.2.1, X.2.2⟩
  · subst hk
    have HC := Lib.hid (show chg ⟨5, ino, pos, size, keep, name, to, bs⟩ s L = if ((eo pos size).isSome && decide (1 ≤ size) && may s L) = true then some (s, wo L pos (pos + size)) else none from rfl)
    have HG := Lib.hid (show ((eo pos size).isSome && decide (1 ≤ size) && may s L) = z by rw [← H1.out, HC.out]; cases ((eo pos size).isSome && decide (1 ≤ size) && may s L) <;> rfl)
    go_wp2_with fail
    refine (rpunch_any s A n c L pos size _ H.out (by omega) p9 s9 z HG.out).mono ?_
    rintro e w1 ⟨A', n', c', M', he, hM, hm, k1⟩
    have T1 := Lib.hid (T0.out.on k1)
    have HX := Lib.hid (show z = true → (if z = true then s else 0) = s' ∧ M' = M from fun hz => by
      have hc := HC.out
      rw [HG.out, hz] at hc
      have hr := H2.out _ hc
      injection hr with e1 e2
      rw [if_pos hz]
      refine ⟨e1, ?_⟩
      rw [← e2]
      rw [hz] at hM
      skip
      simpa using hM)
    obtain ⟨sx, hsx⟩ : ∃ x, (if z = true then s else 0) = x := ⟨_, rfl⟩
    rw [hsx] at he
    obtain rfl : e = .returned (.tuple #[.agg #[.int .i64 sx, .slice A' n' c'], .bool z]) := he
    have HX2 := Lib.hid (hsx ▸ HX.out)
    have HM := Lib.hid hm
    clear k1 hM hm HX hsx o0 o2 o3 o4 o7 c0 c1
    have d0 := T1.out.b1.c0; have d1 := T1.out.b1.c1; have f0 := T1.out.b1.f0; have f1 := T1.out.b1.f1
    go_wp2
    have X := T1.out.done sx HM.out T0.out.size
    refine res_box2 rfl (w.heap.size + 2) sx A' n' c' rfl X.1 rfl ?_
    exact ⟨sx, A', n', c', M', rfl, HX2.out, X.2.1, X.2.2⟩
  · have HC := Lib.hid (show chg ⟨kind, ino, pos, size, keep, name, to, bs⟩ s L = none by
      unfold chg
      rw [if_neg (by show ¬ kind = 2; omega), if_neg (by show ¬ kind = 3; omega), if_neg (by show ¬ kind = 4; omega), if_neg (by show ¬ kind = 5; omega)])
    have HG := Lib.hid (show false = z by rw [← H1.out, HC.out]; rfl)
    have k2 : (kind == 2) = false := by simp; omega
    have k3 : (kind == 3) = false := by simp; omega
    have k4 : (kind == 4) = false := by simp; omega
    have k5 : (kind == 5) = false := by simp; omega
    have d0 := T0.out.b1.c0; have d1 := T0.out.b1.c1; have f0 := T0.out.b1.f0; have f1 := T0.out.b1.f1
    have hz := HG.out
    subst hz
    go_wp2
    have X := T0.out.done 0 (mut_nil W.heap.size W) T0.out.size
    refine res_box2 rfl (w.heap.size + 2) 0 none 0 0 rfl X.1 rfl ?_
    exact ⟨0, none, 0, 0, [], rfl, (fun h => by cases h), X.2.1, X.2.2⟩
end Go.Proofs.YtgaaieipeiekiaaGreat
