/- Contract of the law ImageTells. / What the laws' walks are told of their arguments: images, changes. / A drawn region whose last operation may end what the others lean on. -/
import Derived.Test.YtgaaieipeiekiaaGreatPkL
import Derived.Test.YtgaaieipeiekiaaGreatPkN
import Derived.Test.YtgaaieipeiekiaaGreatPkO
import Derived.Lib.SmallJoins
import Derived.ProofKit
import Derived.OpenShut
import Derived.WalkKit
import Derived.Deep.Slices
import Derived.Deep.SlicePairs
import Derived.OrdersHeld
import Derived.Deep.RegionHeld3
namespace Go.Proofs.YtgaaieipeiekiaaGreat
open Go.RowKit
set_option maxRecDepth 100000

theorem pick_any {α : Type} (z : Bool) (I J : α) : ∃ K : α, (z = true → I = K) ∧ (z = false → J = K) := by
  cases z
  · exact ⟨J, (fun h => by cases h), fun _ => rfl⟩
  · exact ⟨I, (fun _ => rfl), fun h => by cases h⟩
theorem bool_of (p : Prop) : ∃ z : Bool, p ↔ z = true := by
  by_cases h : p
  · exact ⟨true, by simpa using h⟩
  · exact ⟨false, by simpa using h⟩
/-- Calls with a known answer, in a class of worlds that only grew. -/
theorem grew_name {P : Program} {f : FuncId} {args : Array Value} {w : World} {u : Wb w} {v : Value} (h : Calls P f args u.v fun e w' => e = .returned v ∧ u.v = w') : Calls P f args u.v fun e w'' => e = .returned v ∧ ∃ m : Wb w, w'' = m.v := grew_same h

set_option maxHeartbeats 16000000 in
theorem law_tells (A : Option Addr) (n c : Nat) (A' : Option Addr) (n' c' : Nat) (N : List Nm) (Z : List Nz) (D : Option Addr) (m d : Nat) (D' : Option Addr) (m' d' : Nat) (M : List Nm) (Y : List Nz) (name : ByteArray) (no : Int) (w : World) (h : Im w A n c A' n' c' N Z) (h2 : Im w D m d D' m' d' M Y) (hs : name.size ≤ maxLen) (hno : (Lit.int .i64 no).wf = true) :
    Calls Tryz.prog 3 #[iv A n c A' n' c', iv D m d D' m' d', .string name, .int .i64 no] w (TruthPost true w) := by
  obtain rfl := h.names.len
  obtain rfl := h.nodes.len
  obtain rfl := h2.names.len
  obtain rfl := h2.nodes.len
  have hno' := bounds_i64 hno
  have HSn := Lib.hid hs
  unfold maxLen at hs
  clear hno
  obtain ⟨W, hW⟩ : ∃ W, (w.alloc (.cells #[.slice A N.length c, .slice A' Z.length c'] 25)).alloc (.cells #[.slice D M.length d, .slice D' Y.length d'] 25) = W := ⟨_, rfl⟩
  have KW := Lib.hid (show Below w.heap.size w W by rw [← hW]; exact ((Below.refl _ _).alloc (Nat.le_refl _) _).alloc (by simp) _)
  have B0 := Lib.hid (show IBox W w.heap.size A N.length c A' Z.length c' by rw [← hW]; exact (ibox_new _ _ _ _ _ _ _).on ((Below.refl _ _).alloc (Nat.le_refl _) _))
  have C0 := Lib.hid (show IBox W (w.heap.size + 1) D M.length d D' Y.length d' by
    rw [← hW]
    have := ibox_new (w.alloc (.cells #[.slice A N.length c, .slice A' Z.length c'] 25)) D M.length d D' Y.length d'
    simpa using this)
  have H := Lib.hid (h.on KW.out); have G := Lib.hid (h2.on KW.out)
  have HW := Lib.hid hW
  clear h h2 hW
  show Calls Tryz.prog 3 #[.agg #[.slice A N.length c, .slice A' Z.length c'], .agg #[.slice D M.length d, .slice D' Y.length d'], .string name, .int .i64 no] w _
  go_enter Tryz.func3, Tryz.ntmps3
  go_upto_region 1 with fail
  rw [HW.out]
  have b0 := B0.out.c0; have b1 := B0.out.c1; have c0 := C0.out.c0; have c1 := C0.out.c1
  go_wp2_with fail
  refine (few_img A N.length c A' Z.length c' N Z W H.out).mono ?_
  rintro e w1 ⟨x, rfl, hx, k1⟩
  have K1 := Lib.hid (KW.out.trans (k1.mono KW.out.size)); have B1 := Lib.hid (B0.out.on k1); have C1 := Lib.hid (C0.out.on k1); have H1 := Lib.hid (H.out.on k1); have G1 := Lib.hid (G.out.on k1)
  clear k1 b0 b1 c0 c1
  have b0 := B1.out.c0; have b1 := B1.out.c1; have c0 := C1.out.c0; have c1 := C1.out.c1
  cases x with
  | false =>
    clear hx
    go_wp2_with fail
    refine (law_runs _).mono ?_
    rintro e w2 ⟨rfl, k2⟩
    have K2 := Lib.hid (K1.out.trans (k2.mono K1.out.size))
    go_wp2
    go_ret
    exact ⟨rfl, K2.out⟩
  | true =>
    have HF := Lib.hid (hx rfl)
    clear hx
    go_wp2_with fail
    refine (few_img D M.length d D' Y.length d' M Y w1 G1.out).mono ?_
    rintro e w2 ⟨x, rfl, hx, k2⟩
    have K2 := Lib.hid (K1.out.trans (k2.mono K1.out.size)); have B2 := Lib.hid (B1.out.on k2); have C2 := Lib.hid (C1.out.on k2); have H2 := Lib.hid (H1.out.on k2); have G2 := Lib.hid (G1.out.on k2)
    clear k2 b0 b1 c0 c1 hx
    have b0 := B2.out.c0; have b1 := B2.out.c1; have c0 := C2.out.c0; have c1 := C2.out.c1
    cases x with
    | false =>
      go_wp2_with fail
      refine (law_runs _).mono ?_
      rintro e w3 ⟨rfl, k3⟩
      have K3 := Lib.hid (K2.out.trans (k3.mono K2.out.size))
      go_wp2
      go_ret
      exact ⟨rfl, K3.out⟩
    | true =>
      by_cases hn60 : 60 < name.size
      · go_wp2_with fail
        refine (law_runs _).mono ?_
        rintro e w3 ⟨rfl, k3⟩
        have K3 := Lib.hid (K2.out.trans (k3.mono K2.out.size))
        go_wp2
        go_ret
        exact ⟨rfl, K3.out⟩
      · obtain ⟨z, hz⟩ := bool_of (GoodI (ig N Z))
        obtain ⟨⟨fk, fy⟩, hf1, hf2⟩ := pick_any z (findS N name) ((0 : Int), false)
        obtain ⟨⟨⟨gs, gL⟩, gy⟩, hg1, hg2⟩ := pick_any z (getS Z no) (((0 : Int), ([] : List Ex)), false)
        obtain ⟨u, hu1, hu2⟩ := pick_any z (usedS Z : Int) 0
        obtain ⟨q, hq⟩ := bool_of (ig N Z = ig M Y)
        obtain ⟨mn, hmn⟩ : ∃ mn, okName name = mn := ⟨_, rfl⟩
        have HZ := Lib.hid hz; have HF1 := Lib.hid hf1; have HF2 := Lib.hid hf2; have HG1 := Lib.hid hg1; have HG2 := Lib.hid hg2; have HU1 := Lib.hid hu1; have HU2 := Lib.hid hu2; have HQ := Lib.hid hq; have HMn := Lib.hid hmn
        have HN := Lib.hid (show N.length ≤ 1000 ∧ Z.length ≤ 1000 by have h1 := HF.out.1; have h2 := HF.out.2.1; exact ⟨by omega, by omega⟩)
        have HZn := Lib.hid (show ∀ x ∈ Z, x.n ≤ 1000000 from fun x hx => by have := HF.out.2.2 x hx; omega)
        have HZl := Lib.hid (show ∀ x ∈ Z, x.L.length ≤ 1000000 from fun x hx => by have := HF.out.2.2 x hx; have := (H2.out.exts x hx).len; omega)
        clear hz hf1 hf2 hg1 hg2 hu1 hu2 hq hmn
        go_wp2_with fail
        refine (find_img A c A' c' N Z name w2 H2.out HN.out.1 z HZ.out fk fy HF1.out HF2.out).mono ?_
        rintro e w3 ⟨rfl, k3⟩
        have K3 := Lib.hid (K2.out.trans (k3.mono K2.out.size)); have B3 := Lib.hid (B2.out.on k3); have C3 := Lib.hid (C2.out.on k3); have H3 := Lib.hid (H2.out.on k3); have G3 := Lib.hid (G2.out.on k3)
        clear k3 b0 b1 c0 c1
        have b0 := B3.out.c0; have b1 := B3.out.c1
        go_wp2_with fail
        refine (rfind_img A c A' c' N Z name w3 H3.out z HZ.out fk fy HF1.out HF2.out).mono ?_
        rintro e w4 ⟨rfl, k4⟩
        have K4 := Lib.hid (K3.out.trans (k4.mono K3.out.size)); have B4 := Lib.hid (B3.out.on k4); have C4 := Lib.hid (C3.out.on k4); have H4 := Lib.hid (H3.out.on k4); have G4 := Lib.hid (G3.out.on k4)
        clear k4 b0 b1
        have b0 := B4.out.c0; have b1 := B4.out.c1
        go_wp2_with fail
        refine (get_img A c A' c' N Z no w4 H4.out HN.out.2 HZn.out z HZ.out gs gL gy HG1.out HG2.out).mono ?_
        rintro e w5 ⟨F, fn, f, L1, he, hL1, hm5, k5⟩
        obtain rfl : e = .returned (.tuple #[.agg #[.int .i64 gs, .slice F fn f], .bool gy]) := he
        subst hL1
        have K5 := Lib.hid (K4.out.trans (k5.mono K4.out.size)); have B5 := Lib.hid (B4.out.on k5); have C5 := Lib.hid (C4.out.on k5); have H5 := Lib.hid (H4.out.on k5); have G5 := Lib.hid (G4.out.on k5)
        have X5 := Lib.hid hm5.exts
        clear k5 b0 b1 hm5
        obtain ⟨W6, hW6⟩ : ∃ W6, w5.alloc (.cells #[.int .i64 gs, .slice F fn f] 32) = W6 := ⟨_, rfl⟩
        have kk : Below w5.heap.size w5 W6 := by rw [← hW6]; exact (Below.refl _ _).alloc (Nat.le_refl _) _
        have K6 := Lib.hid (K5.out.trans (kk.mono K5.out.size)); have B6 := Lib.hid (B5.out.on kk); have C6 := Lib.hid (C5.out.on kk); have H6 := Lib.hid (H5.out.on kk); have G6 := Lib.hid (G5.out.on kk); have X6 := Lib.hid (X5.out.on kk)
        have P6 := Lib.hid (show Box W6 w5.heap.size gs F fn f by rw [← hW6]; exact box_new _ _ _ _ _)
        have HW6 := Lib.hid hW6
        clear kk hW6
        go_upto_region 6 with fail
        rw [HW6.out]
        have b0 := B6.out.c0; have b1 := B6.out.c1
        go_wp2_with fail
        refine (rget_img A c A' c' N Z no W6 H6.out HZn.out z HZ.out gs L1 gy HG1.out HG2.out).mono ?_
        rintro e w7 ⟨R, rn, r, L2, he, hL2, hm7, k7⟩
        obtain rfl : e = .returned (.tuple #[.agg #[.int .i64 gs, .slice R rn r], .bool gy]) := he
        subst hL2
        have K7 := Lib.hid (K6.out.trans (k7.mono K6.out.size)); have B7 := Lib.hid (B6.out.on k7); have C7 := Lib.hid (C6.out.on k7); have H7 := Lib.hid (H6.out.on k7); have G7 := Lib.hid (G6.out.on k7); have X7 := Lib.hid (X6.out.on k7); have P7 := Lib.hid (P6.out.on k7)
        have Y7 := Lib.hid hm7.exts
        clear k7 b0 b1 hm7
        obtain ⟨W8, hW8⟩ : ∃ W8, w7.alloc (.cells #[.int .i64 gs, .slice R rn r] 32) = W8 := ⟨_, rfl⟩
        have kk : Below w7.heap.size w7 W8 := by rw [← hW8]; exact (Below.refl _ _).alloc (Nat.le_refl _) _
        have K8 := Lib.hid (K7.out.trans (kk.mono K7.out.size)); have B8 := Lib.hid (B7.out.on kk); have C8 := Lib.hid (C7.out.on kk); have H8 := Lib.hid (H7.out.on kk); have G8 := Lib.hid (G7.out.on kk); have X8 := Lib.hid (X7.out.on kk); have P8 := Lib.hid (P7.out.on kk); have Y8 := Lib.hid (Y7.out.on kk)
        have Q8 := Lib.hid (show Box W8 w7.heap.size gs R rn r by rw [← hW8]; exact box_new _ _ _ _ _)
        have HW8 := Lib.hid hW8
        clear kk hW8
        go_upto_region 7 with fail
        rw [HW8.out]
        have qb0 := fun u : Wb W8 => (B8.out.on u.k).c0
        have qb1 := fun u : Wb W8 => (B8.out.on u.k).c1
        have qc0 := fun u : Wb W8 => (C8.out.on u.k).c0
        have qc1 := fun u : Wb W8 => (C8.out.on u.k).c1
        have qp0 := fun u : Wb W8 => (P8.out.on u.k).c0
        have qp1 := fun u : Wb W8 => (P8.out.on u.k).c1
        have qq0 := fun u : Wb W8 => (Q8.out.on u.k).c0
        have qq1 := fun u : Wb W8 => (Q8.out.on u.k).c1
        have Q13 : ∀ u : Wb W8, Calls Tryz.prog 13 #[.string name] u.v (fun e w'' => e = .returned (.bool mn) ∧ ∃ m : Wb W8, w'' = m.v) := fun u => grew_same (name_any name _ HSn.out mn HMn.out)
        have Q14 : ∀ u : Wb W8, Calls Tryz.prog 14 #[.string name] u.v (fun e w'' => e = .returned (.bool mn) ∧ ∃ m : Wb W8, w'' = m.v) := fun u => grew_same (rname_any name _ HSn.out mn HMn.out)
        have Q15 : ∀ u : Wb W8, Calls Tryz.prog 15 #[.agg #[.slice A N.length c, .slice A' Z.length c']] u.v (fun e w'' => e = .returned (.bool z) ∧ ∃ m : Wb W8, w'' = m.v) := fun u => grew_truth (mayi_any A N.length c A' Z.length c' N Z _ (H8.out.on u.k) z HZ.out)
        have Q16 : ∀ u : Wb W8, Calls Tryz.prog 16 #[.agg #[.slice A N.length c, .slice A' Z.length c']] u.v (fun e w'' => e = .returned (.bool z) ∧ ∃ m : Wb W8, w'' = m.v) := fun u => grew_truth (rmayi_any A N.length c A' Z.length c' N Z _ (H8.out.on u.k) z HZ.out)
        have Q17 : ∀ u : Wb W8, Calls Tryz.prog 17 #[.agg #[.int .i64 gs, .slice F fn f], .agg #[.int .i64 gs, .slice R rn r]] u.v (fun e w'' => e = .returned (.bool true) ∧ ∃ m : Wb W8, w'' = m.v) := fun u => grew_truth (rsame_any gs F fn f L2 gs R rn r L2 _ (X8.out.on u.k) (Y8.out.on u.k) true (by simp))
        have Q18 : ∀ v : Wb W8, Calls Tryz.prog 18 #[.agg #[.slice A N.length c, .slice A' Z.length c']] v.v (fun e w'' => e = .returned (.int .i64 u) ∧ ∃ m : Wb W8, w'' = m.v) := fun v => grew_num (used_img A c A' c' N Z _ (H8.out.on v.k) HN.out.2 HZl.out z HZ.out u HU1.out (fun h => HU2.out h))
        have Q19 : ∀ v : Wb W8, Calls Tryz.prog 19 #[.agg #[.slice A N.length c, .slice A' Z.length c']] v.v (fun e w'' => e = .returned (.int .i64 u) ∧ ∃ m : Wb W8, w'' = m.v) := fun v => grew_num (rused_img A c A' c' N Z _ (H8.out.on v.k) HN.out.2 HZl.out z HZ.out u HU1.out (fun h => HU2.out h))
        have Q20 : ∀ v : Wb W8, Calls Tryz.prog 20 #[.agg #[.slice A N.length c, .slice A' Z.length c'], .agg #[.slice D M.length d, .slice D' Y.length d']] v.v (fun e w'' => e = .returned (.bool q) ∧ ∃ m : Wb W8, w'' = m.v) := fun v => grew_truth (same_img A c A' c' N Z D d D' d' M Y _ (H8.out.on v.k) (G8.out.on v.k) q HQ.out)
        have Q21 : ∀ v : Wb W8, Calls Tryz.prog 21 #[.agg #[.slice A N.length c, .slice A' Z.length c'], .agg #[.slice D M.length d, .slice D' Y.length d']] v.v (fun e w'' => e = .returned (.bool q) ∧ ∃ m : Wb W8, w'' = m.v) := fun v => grew_truth (rsame_img A N.length c A' Z.length c' N Z D M.length d D' Y.length d' M Y _ (H8.out.on v.k) (G8.out.on v.k) q HQ.out)
        have Q8' : ∀ v : Wb W8, Calls Tryz.prog 8 #[] v.v (fun e w'' => e = .returned (.bool true) ∧ ∃ m : Wb W8, w'' = m.v) := fun v => grew_truth (law_runs _)
        refine wp_region_grew (by kernel_rfl) (by kernel_rfl) ?_
        repeat (go_big_quiet_step (first | (go_at_call 13; with_reducible exact Q13 _) | (go_at_call 14; with_reducible exact Q14 _) | (go_at_call 15; with_reducible exact Q15 _) | (go_at_call 16; with_reducible exact Q16 _) | (go_at_call 17; with_reducible exact Q17 _) | (go_at_call 18; with_reducible exact Q18 _) | (go_at_call 19; with_reducible exact Q19 _) | (go_at_call 20; with_reducible exact Q20 _) | (go_at_call 21; with_reducible exact Q21 _) | (go_at_call 8; with_reducible exact Q8' _)))
        refine wpQuiet_nil ?_
        rintro _ ⟨⟨w9, k9⟩, rfl⟩
        try dsimp only
        have K9 := Lib.hid (K8.out.trans (k9.mono K8.out.size))
        clear k9
        go_wp2
        go_ret
        exact ⟨rfl, K9.out⟩
end Go.Proofs.YtgaaieipeiekiaaGreat

namespace Go.Proofs.YtgaaieipeiekiaaGreat
open Go.RowKit Go.ChangeShapes Go.WideShapes
set_option maxRecDepth 100000

theorem cells75 : Tryz.prog.cellsOf 75 = 9 := by kernel_rfl
theorem cells73 : Tryz.prog.cellsOf 73 = 8 := by kernel_rfl
theorem cells5' : Tryz.prog.cellsOf 5 = 1 := by kernel_rfl
theorem cells3' : Tryz.prog.cellsOf 3 = 1 := by kernel_rfl
theorem cells4' : Tryz.prog.cellsOf 4 = 1 := by kernel_rfl
theorem cells9' : Tryz.prog.cellsOf 9 = 1 := by kernel_rfl
theorem cells30' : Tryz.prog.cellsOf 30 = 1 := by kernel_rfl
theorem cells32' : Tryz.prog.cellsOf 32 = 2 := by kernel_rfl
theorem cells59' : Tryz.prog.cellsOf 59 = 3 := by kernel_rfl
theorem cells62' : Tryz.prog.cellsOf 62 = 2 := by kernel_rfl
theorem cells22' : Tryz.prog.cellsOf 22 = 1 := by kernel_rfl
theorem cells23' : Tryz.prog.cellsOf 23 = 1 := by kernel_rfl
theorem cells25' : Tryz.prog.cellsOf 25 = 2 := by kernel_rfl
theorem cells40' : Tryz.prog.cellsOf 40 = 1 := by kernel_rfl
theorem cells42' : Tryz.prog.cellsOf 42 = 8 := by kernel_rfl

section
variable {H : Type} {enc : TypeId × Value → H} {w : World} {base : Nat}

/-- A slice of elements of any kind. -/
theorem sl_read {α : Type} [Inhabited α] {E : El α} {ts : TypeId} (hts : Tryz.prog.underlying ts = some (.slice E.t)) (hk : Tryz.prog.cellsOf E.t = E.k) {P : α → Prop} (hel : ∀ (fuel : Nat) (cs : List Value) (x : DataW H × List MemPlace), cs.length = E.k → DataW.trod enc Tryz.prog w base (fun _ => true) true fuel E.t cs = some x → ∃ e : α, P e ∧ cs = E.enc e) {fuel : Nat} {v : Value} {x : DataW H × List MemPlace} (h : DataW.trod enc Tryz.prog w base (fun _ => true) true fuel ts [v] = some x) : ∃ A n c L, v = .slice A n c ∧ Sl E w A n c L ∧ ∀ e ∈ L, P e := by
  rcases Go.Deep.open_slice hts h with ⟨hcs, _⟩ | ⟨a, len, cap, m, n, D, Pl, hcs, _, hl, hm, hmm, _, hx⟩
  · injection hcs with hcs
    exact ⟨none, 0, 0, [], hcs, sl_nil w, by simp⟩
  injection hcs with hcs
  have each : ∀ i, i < len → ∃ e : α, P e ∧ ∀ q u, (E.enc e)[q]? = some u → w.cell? (a.add (i * E.k + q)) = some u := by
    intro i hi
    obtain ⟨cs', h1, h2⟩ := hx i (by simp at hmm; omega)
    rw [hk] at h1
    obtain ⟨_, hlen, hcell⟩ := World.cells?_some h1
    obtain ⟨e, he, hee⟩ := hel _ _ _ hlen h2
    refine ⟨e, he, fun q u hu => ?_⟩
    have hq : q < E.k := by have := (List.getElem?_eq_some_iff.1 hu).1; rw [E.len] at this; exact this
    have := hcell q (by omega)
    rw [Go.Deep.add_add, hee, hu] at this
    exact this
  obtain ⟨f, hf⟩ := Go.Deep.choose_lt each
  have hg : ∀ k, k < len → ((List.range len).map f).getD k default = f k := by
    intro k hk
    rw [List.getD_eq_getElem?_getD, List.getElem?_map, List.getElem?_range hk]
    rfl
  refine ⟨some a, len, cap, (List.range len).map f, hcs, ⟨by simp, by omega, by omega, (fun h => by cases h), fun hp => ?_⟩, fun e he => ?_⟩
  · obtain ⟨b, o, s⟩ := a
    have hp1 := E.pos
    have h0 := (hf 0 hp).2 0 _ (List.getElem?_eq_getElem (by rw [E.len]; exact hp1))
    have hs : s = none := by simpa [Addr.add] using World.cell?_spot h0
    subst hs
    refine ⟨b, o, rfl, World.block_lt_of_cell? w ⟨b, o, none⟩ (by simpa [Addr.add] using h0), fun k hk q u hu => ?_⟩
    rw [hg k hk] at hu
    have := (hf k hk).2 q u hu
    rw [Addr.add_mid] at this
    rw [Nat.add_assoc]
    exact this
  · simp at he
    obtain ⟨k, hk, rfl⟩ := he
    exact (hf k hk).1

theorem ext_read {fuel : Nat} {cs : List Value} {x : DataW H × List MemPlace} (hl : cs.length = 9) (h : DataW.trod enc Tryz.prog w base (fun _ => true) true fuel 75 cs = some x) : ∃ e : Ex, e.ok ∧ cs = ecl e := by
  obtain ⟨xs, k, hk, hxy, _, hxl, hf⟩ := DataW.trod_struct Tryz.underlying75 h
  match xs, hxl, cs, hl with
  | [y0, y1], _, [v0, v1, v2, v3, v4, v5, v6, v7, v8], _ =>
    have g0 := hf 0 _ rfl
    have g1 := hf 1 _ rfl
    simp [cells3', cells73] at g0 g1
    obtain ⟨z0, hz0, _, wz0⟩ := DataW.trod_int Tryz.underlying3 g0
    simp at hz0
    subst hz0
    obtain ⟨ys, k2, hk2, _, _, hyl, ha⟩ := DataW.trod_array Tryz.underlying73 g1
    rw [cells5'] at ha
    have each : ∀ i, i < 8 → ∃ b : Int, (0 ≤ b ∧ b ≤ 255) ∧ ([v1, v2, v3, v4, v5, v6, v7, v8] : List Value)[i]? = some (.int .u8 b) := by
      intro i hi
      have hx := ha i hi
      rw [List.getElem?_eq_getElem (by omega)] at hx
      obtain ⟨b, hb, _, wb⟩ := DataW.trod_int Tryz.underlying5 hx
      refine ⟨b, ?_, ?_⟩
      · have := bounds_u8 wb; omega
      · have h1 := congrArg (fun l => l[0]?) hb
        simp only [List.getElem?_cons_zero] at h1
        rw [List.getElem?_take_of_lt (by omega), List.getElem?_drop] at h1
        simpa using h1
    obtain ⟨b0, r0, e0⟩ := each 0 (by omega)
    obtain ⟨b1, r1, e1⟩ := each 1 (by omega)
    obtain ⟨b2, r2, e2⟩ := each 2 (by omega)
    obtain ⟨b3, r3, e3⟩ := each 3 (by omega)
    obtain ⟨b4, r4, e4⟩ := each 4 (by omega)
    obtain ⟨b5, r5, e5⟩ := each 5 (by omega)
    obtain ⟨b6, r6, e6⟩ := each 6 (by omega)
    obtain ⟨b7, r7, e7⟩ := each 7 (by omega)
    simp at e0 e1 e2 e3 e4 e5 e6 e7
    subst e0 e1 e2 e3 e4 e5 e6 e7
    refine ⟨⟨z0, [b0, b1, b2, b3, b4, b5, b6, b7]⟩, ⟨rfl, fun x hx => ?_⟩, rfl⟩
    simp at hx
    rcases hx with rfl | rfl | rfl | rfl | rfl | rfl | rfl | rfl <;> assumption

theorem exts_open {fuel : Nat} {v : Value} {x : DataW H × List MemPlace} (h : DataW.trod enc Tryz.prog w base (fun _ => true) true fuel 30 [v] = some x) : ∃ A n c L, v = .slice A n c ∧ Exts w A n c L := by
  rcases Go.Deep.open_slice Tryz.underlying30 h with ⟨hcs, _⟩ | ⟨a, len, cap, m, n, D, Pl, hcs, _, hl, hm, hmm, _, hx⟩
  · injection hcs with hcs
    exact ⟨none, 0, 0, [], hcs, exts_nil w⟩
  injection hcs with hcs
  have each : ∀ i, i < len → ∃ e : Ex, e.ok ∧ ∀ q u, (ecl e)[q]? = some u → w.cell? (a.add (i * 9 + q)) = some u := by
    intro i hi
    obtain ⟨cs', h1, h2⟩ := hx i (by simp at hmm; omega)
    rw [cells75] at h1
    obtain ⟨_, hlen, hcell⟩ := World.cells?_some h1
    obtain ⟨e, he, hee⟩ := ext_read hlen h2
    refine ⟨e, he, fun q u hu => ?_⟩
    have hq : q < 9 := by have := (List.getElem?_eq_some_iff.1 hu).1; rw [ecl_len he] at this; exact this
    have := hcell q (by omega)
    rw [Go.Deep.add_add, hee, hu] at this
    exact this
  obtain ⟨f, hf⟩ := Go.Deep.choose_lt each
  have hg : ∀ k, k < len → ((List.range len).map f).getD k default = f k := by
    intro k hk
    rw [List.getD_eq_getElem?_getD, List.getElem?_map, List.getElem?_range hk]
    rfl
  refine ⟨some a, len, cap, (List.range len).map f, hcs, by simp, fun e he => ?_, by omega, by omega, (fun h => by cases h), fun hp => ?_⟩
  · simp at he
    obtain ⟨k, hk, rfl⟩ := he
    exact (hf k hk).1
  · obtain ⟨b, o, s⟩ := a
    have h0 := (hf 0 hp).2 0 _ (ecl_no _)
    have hs : s = none := by simpa [Addr.add] using World.cell?_spot h0
    subst hs
    refine ⟨b, o, rfl, World.block_lt_of_cell? w ⟨b, o, none⟩ (by simpa [Addr.add] using h0), fun k hk q u hu => ?_⟩
    rw [hg k hk] at hu
    have := (hf k hk).2 q u hu
    rw [Addr.add_mid] at this
    rw [Nat.add_assoc]
    exact this

theorem nm_read (fuel : Nat) (cs : List Value) (x : DataW H × List MemPlace) (hl : cs.length = elN.k) (h : DataW.trod enc Tryz.prog w base (fun _ => true) true fuel elN.t cs = some x) : ∃ e : Nm, e.name.size ≤ maxLen ∧ cs = elN.enc e := by
  obtain ⟨xs, k, hk, hxy, _, hxl, hf⟩ := DataW.trod_struct (t := 62) Tryz.underlying62 h
  match xs, hxl, cs, hl with
  | [y0, y1], _, [v0, v1], _ =>
    have g0 := hf 0 _ rfl
    have g1 := hf 1 _ rfl
    simp [cells3', cells9'] at g0 g1
    obtain ⟨p, hp, _, wp⟩ := DataW.trod_string Tryz.underlying9 g0
    obtain ⟨q, hq, _, _⟩ := DataW.trod_int Tryz.underlying3 g1
    simp at hp hq
    subst hp hq
    exact ⟨⟨p, q⟩, wp, rfl⟩

theorem nz_read (fuel : Nat) (cs : List Value) (x : DataW H × List MemPlace) (hl : cs.length = elZ.k) (h : DataW.trod enc Tryz.prog w base (fun _ => true) true fuel elZ.t cs = some x) : ∃ e : Nz, Exts w e.A e.n e.c e.L ∧ cs = elZ.enc e := by
  obtain ⟨xs, k, hk, hxy, _, hxl, hf⟩ := DataW.trod_struct (t := 59) Tryz.underlying59 h
  match xs, hxl, cs, hl with
  | [y0, y1], _, [v0, v1, v2], _ =>
    have g0 := hf 0 _ rfl
    have g1 := hf 1 _ rfl
    simp [cells3', cells32'] at g0 g1
    obtain ⟨p, hp, _, _⟩ := DataW.trod_int Tryz.underlying3 g0
    obtain ⟨xs2, k2, hk2, hxy2, _, hxl2, hf2⟩ := DataW.trod_struct Tryz.underlying32 g1
    match xs2, hxl2 with
    | [z0, z1], _ =>
      have r0 := hf2 0 _ rfl
      have r1 := hf2 1 _ rfl
      simp [cells3', cells30'] at r0 r1
      obtain ⟨q, hq, _, _⟩ := DataW.trod_int Tryz.underlying3 r0
      obtain ⟨A, n, c, L, he, hL⟩ := exts_open r1
      simp at hp hq
      subst hp hq he
      exact ⟨⟨p, q, A, n, c, L⟩, hL, rfl⟩

/-- An image that came in. -/
theorem open_im {r : Reach} {bb : Nat} {v : Value} {d : DataW H} {p : List MemPlace} (hv : Value.okWide Tryz.prog w r bb 25 v) (h : DataW.Trod enc Tryz.prog w base (fun _ => true) true 25 v d p) :
    ∃ (A : Option Addr) (n c : Nat) (A' : Option Addr) (n' c' : Nat) (N : List Nm) (Z : List Nz), v = iv A n c A' n' c' ∧ Im w A n c A' n' c' N Z := by
  obtain ⟨cs, rfl, hsz⟩ := okWide_struct Tryz.underlying25 hv
  obtain ⟨fuel, hf⟩ := h
  obtain ⟨xs, k, hk, hxy, _, hxl, hf⟩ := DataW.trod_struct Tryz.underlying25 hf
  rw [cells25'] at hsz
  obtain ⟨l⟩ := cs
  match l, hsz, xs, hxl with
  | [v0, v1], _, [y0, y1], _ =>
    have g0 := hf 0 _ rfl
    have g1 := hf 1 _ rfl
    simp [Value.cells, cells22', cells23'] at g0 g1
    obtain ⟨A, n, c, N, rfl, hN, hs⟩ := sl_read (E := elN) (ts := 22) (P := fun e => e.name.size ≤ maxLen) Tryz.underlying22 cells62' nm_read g0
    obtain ⟨A', n', c', Z, rfl, hZ, hx⟩ := sl_read (E := elZ) (ts := 23) (P := fun e => Exts w e.A e.n e.c e.L) Tryz.underlying23 cells59' nz_read g1
    exact ⟨A, n, c, A', n', c', N, Z, rfl, hN, hZ, hx, hs⟩

/-- A change that came in. -/
theorem open_op {r : Reach} {bb : Nat} {v : Value} {d : DataW H} {p : List MemPlace} (hv : Value.okWide Tryz.prog w r bb 42 v) (h : DataW.Trod enc Tryz.prog w base (fun _ => true) true 42 v d p) :
    ∃ (o : Opv) (BA : Option Addr) (cb : Nat), v = ov o BA cb ∧ (OpIn w o BA cb ∧ (((Lit.int .i64 o.pos).wf = true) ∧ (Lit.int .i64 o.size).wf = true)) := by
  obtain ⟨cs, rfl, hsz⟩ := okWide_struct Tryz.underlying42 hv
  obtain ⟨fuel, hf⟩ := h
  obtain ⟨xs, k, hk, hxy, _, hxl, hf⟩ := DataW.trod_struct Tryz.underlying42 hf
  rw [cells42'] at hsz
  obtain ⟨l⟩ := cs
  match l, hsz, xs, hxl with
  | [v0, v1, v2, v3, v4, v5, v6, v7], _, [y0, y1, y2, y3, y4, y5, y6, y7], _ =>
    have g0 := hf 0 _ rfl
    have g1 := hf 1 _ rfl
    have g2 := hf 2 _ rfl
    have g3 := hf 3 _ rfl
    have g4 := hf 4 _ rfl
    have g5 := hf 5 _ rfl
    have g6 := hf 6 _ rfl
    have g7 := hf 7 _ rfl
    simp [Value.cells, cells3', cells4', cells9', cells40'] at g0 g1 g2 g3 g4 g5 g6 g7
    obtain ⟨a0, e0, _, _⟩ := DataW.trod_int Tryz.underlying3 g0
    obtain ⟨a1, e1, _, _⟩ := DataW.trod_int Tryz.underlying3 g1
    obtain ⟨a2, e2, _, w2⟩ := DataW.trod_int Tryz.underlying3 g2
    obtain ⟨a3, e3, _, w3⟩ := DataW.trod_int Tryz.underlying3 g3
    obtain ⟨a4, e4, _⟩ := DataW.trod_bool Tryz.underlying4 g4
    obtain ⟨a5, e5, _, w5⟩ := DataW.trod_string Tryz.underlying9 g5
    obtain ⟨a6, e6, _, w6⟩ := DataW.trod_string Tryz.underlying9 g6
    simp at e0 e1 e2 e3 e4 e5 e6
    subst e0 e1 e2 e3 e4 e5 e6
    rcases open_ints Tryz.underlying40 Tryz.underlying5 (by kernel_rfl) g7 with ⟨hcs, _⟩ | ⟨y, l, c, zs, hcs, _, hl, hm, hz, _, hcell, hwz⟩
    · injection hcs with hcs
      subst hcs
      exact ⟨⟨a0, a1, a2, a3, a4, a5, a6, []⟩, none, 0, rfl, ⟨nums_nil .u8 w, by simp, w5, w6⟩, w2, w3⟩
    · injection hcs with hcs
      subst hcs
      have hz' : zs.length = c := by simpa using hz
      clear hz
      have hlz : (zs.take l).length = l := by rw [List.length_take]; omega
      refine ⟨⟨a0, a1, a2, a3, a4, a5, a6, zs.take l⟩, some y, c, by show _ = Value.agg #[_, _, _, _, _, _, _, .slice (some y) (zs.take l).length c]; rw [hlz], ⟨?_, fun b hb => ?_, w5, w6⟩, w2, w3⟩
      · show Nums .u8 w (some y) (zs.take l).length c (zs.take l)
        rw [hlz]
        refine ⟨hlz, hl, hm, (fun h => by cases h), fun hp => ?_⟩
        obtain ⟨b, o, s⟩ := y
        have h0 := hcell 0 (by omega)
        have hs : s = none := by simpa [Addr.add] using World.cell?_spot h0
        subst hs
        refine ⟨b, o, rfl, World.block_lt_of_cell? w ⟨b, o, none⟩ (by simpa [Addr.add] using h0), fun k hk => ?_⟩
        have hk' := hcell k (by omega)
        have he : (zs.take l).getD k 0 = zs.getD k 0 := by simp [hk]
        rw [he]
        by_cases h0 : k = 0
        · subst h0; simpa [Addr.add] using hk'
        · simpa [Addr.add, h0] using hk'
      · have := bounds_u8 (hwz b (List.mem_of_mem_take hb))
        omega
end
end Go.Proofs.YtgaaieipeiekiaaGreat

namespace Go.Proofs.YtgaaieipeiekiaaGreat
open Go.RowKit

/-- A world that changed in some blocks alone. -/
structure Wo (w : World) (D : Nat → Prop) where
  v : World
  k : Only D w v
instance {w : World} {D : Nat → Prop} : Inhabited (Wo w D) := ⟨⟨w, Only.refl _ _⟩⟩
instance {w : World} {D : Nat → Prop} : Nonempty (Wo w D) := ⟨default⟩
/-- Operations that hand on a value. -/
def isLook : Op → Bool
  | .move _ | .load _ _ | .fieldAddr _ _ _ | .indexAddr _ _ _ | .slice _ _ _ _ _ | .binOp _ _ _ _ _ | .nilCheck _ | .convert _ _ _ => true
  | _ => false
theorem run_val {P : Program} {w : World} {s : Sem Value} {n : Go.Next} {w' : World} (h : (do pure (Go.Next.value (← s)) : Sem Go.Next).run P w = .ok n w') : ∃ u, n = .value u := by
  simp at h
  generalize s.run P w = r at h
  cases r with
  | ok u w1 => simp at h; exact ⟨u, h.1.symm⟩
  | halt x w1 => simp at h
theorem look_val {P : Program} {w : World} {o : Oper} {e : Operand → Value} {n : Go.Next} {w' : World} (hl : isLook o.op = true) (h : (execOp e o).run P w = .ok n w') : ∃ u, n = .value u := by
  unfold execOp at h
  cases ho : o.op <;> rw [ho] at hl h <;> simp only [isLook, Bool.false_eq_true] at hl <;> try exact run_val h
  · simp at h; exact ⟨_, h.1.symm⟩
  · dsimp only at h
    split at h
    · simp [runtimePanic] at h
    · simp [runtimePanic] at h
    · simp [runtimePanic] at h
    · split at h
      · simp [runtimePanic] at h
      · simp [unsupported] at h
        revert h
        generalize Sem.run P _ w = r
        cases r with
        | ok b w1 =>
          simp only [Result.andThen_ok]
          split
          · intro h; injection h with h _; exact ⟨_, h.symm⟩
          · intro h; cases h
        | halt x w1 => intro h; cases h
      · simp at h; exact ⟨_, h.1.symm⟩
    · simp at h; exact ⟨_, h.1.symm⟩

theorem wpQuiet_imp {P : Program} {ops : Array Oper} {C : World → Prop} {Q R : Act → Prop} (hQ : ∀ a, Q a → R a) : ∀ (l : List Oper) (a : Act), wpQuiet P ops C Q l a → wpQuiet P ops C R l a
  | [], _, h => hQ _ h
  | o :: l, a, h => by
    simp only [wpQuiet] at h ⊢
    split
    · rename_i hw
      rw [if_pos hw] at h
      obtain ⟨v, h1, h2⟩ := h
      exact ⟨v, h1, wpQuiet_imp hQ l _ h2⟩
    · rename_i hw
      rw [if_neg hw] at h
      exact wpQuiet_imp hQ l _ h
section
variable {P : Program} {ops : Array Oper} {Q : Exit → Act → World → Prop} {S : World → Prop} {md : Region.Mode} {m : Nat}
/-- Whatever order is picked, and S holds behind every operation till number m has come. -/
def wpAnyM (P : Program) (md : Region.Mode) (ops : Array Oper) (Q : Exit → Act → World → Prop) (S : World → Prop) (m : Nat) : Nat → Array Bool → Act → World → Prop
  | 0, listed, a, w => Region.ready md ops listed = [] ∧ Q .normal a w
  | fuel + 1, listed, a, w =>
    (Region.ready md ops listed = [] → Q .normal a w) ∧
    ∀ i ∈ Region.ready md ops listed, wpOp P ops Q i (fun a' w' => ((listed.setIfInBounds i true).getD m true = false → S w') ∧ wpAnyM P md ops Q S m fuel (listed.setIfInBounds i true) a' w') a w
theorem any_of_m : ∀ (fuel : Nat) (listed : Array Bool) (a : Act) (w : World), wpAnyM P md ops Q S m fuel listed a w → wpAny P md ops Q fuel listed a w
  | 0, _, _, _, h => h
  | fuel + 1, _, _, _, h => ⟨h.1, fun i hi => wpOp_mono (fun a' w' h' => any_of_m fuel _ a' w' h'.2) (h.2 i hi)⟩
theorem set_other {L : Array Bool} {i m : Nat} (h : i ≠ m) : (L.setIfInBounds i true).getD m true = L.getD m true := getD_set_ne true h
/-- One that looks is taken first. -/
theorem m_first {i : Nat} {oi om : Oper} {v : Value} (hi : ops[i]? = some oi) (hsel : ∀ (j : Nat) (o : Oper) cs b, ops[j]? = some o → o.op ≠ .select cs b)
    (hQ : ∀ c a w, Q (.panic c) (a.put oi.dst v) w → Q (.panic c) a w) (him : i ≠ m) (hom : ops[m]? = some om) (hw : ∃ e ∈ om.after, Region.binds md e = true ∧ e.on = i) :
    ∀ (fuel : Nat) (listed : Array Bool) (a : Act) (w : World),
      (∀ j oj, ops[j]? = some oj → j ≠ i → listed.getD j true = false → (∀ e ∈ oj.after, Region.binds md e = true → e.on ≠ i) → oi.apart ops oj = true) →
      i ∈ Region.ready md ops listed → listed.getD m true = false → YieldsIf P ops S oi v a → S w →
      wpAnyM P md ops Q S m fuel (listed.setIfInBounds i true) (a.put oi.dst v) w → wpAnyM P md ops Q S m (fuel + 1) listed a w := by
  intro fuel
  induction fuel with
  | zero =>
    intro listed a w _ hr _ hy hS H
    refine ⟨fun h => (by rw [h] at hr; cases hr), fun j hj => ?_⟩
    rcases Decidable.em (j = i) with rfl | hji
    · exact hy.wpOp hi hS ⟨fun _ => hS, H⟩
    · have := ready_mono hj hji
      rw [H.1] at this; cases this
  | succ fuel ih =>
    intro listed a w hfree hr hm hy hS H
    refine ⟨fun h => (by rw [h] at hr; cases hr), fun j hj => ?_⟩
    rcases Decidable.em (j = i) with rfl | hji
    · exact hy.wpOp hi hS ⟨fun _ => hS, H⟩
    obtain ⟨hun, oj, hoj, hall⟩ := mem_ready.1 hj
    -- j waits for none that is left, so not for i
    have hnot : ∀ e ∈ oj.after, Region.binds md e = true → e.on ≠ i := fun e he hb hq => by
      have h1 := hall e he hb
      have h0 := (mem_ready.1 hr).1
      rw [hq] at h1
      rcases Nat.lt_or_ge i listed.size with hlt | hge
      · simp [hlt] at h0 h1; rw [h0] at h1; cases h1
      · simp [Array.getElem?_eq_none hge] at h1
    have hjm : j ≠ m := fun hq => by
      subst hq
      rw [hoj] at hom; injection hom with hom; subst hom
      obtain ⟨e, he, hb, hon⟩ := hw
      exact hnot e he hb hon
    have h1 := H.2 j (ready_mono hj hji)
    have h2 := wpOp_putIf hoj (hfree j oj hoj hji hun hnot) (fun cs b => hsel i oi cs b hi) (fun cs b => hsel j oj cs b hoj) hQ hy h1
    refine wpOp_mono (fun a' w' h3 => ?_) h2
    have hm2 : (listed.setIfInBounds j true).getD m true = false := by rw [set_other hjm]; exact hm
    have hS' : S w' := h3.2.1 (by rw [set_other hjm, set_other him]; exact hm)
    refine ⟨fun _ => hS', ih _ a' w' (fun k ok hk hki hku hkn => ?_) (ready_mono hr (Ne.symm hji)) hm2 h3.1 hS' ?_⟩
    · refine hfree k ok hk hki ?_ hkn
      rcases Decidable.em (j = k) with rfl | hjk
      · exact hun
      · rwa [getD_set_ne true hjk] at hku
    · rw [Array.setIfInBounds_comm _ _ hji]; exact h3.2.2
/-- The side conditions, as Bools: the looks, each free and awaited by number m; the rest, one behind the other. -/
def headB (md : Region.Mode) (ops : Array Oper) (m : Nat) (om : Oper) : List Nat → Array Bool → Bool
  | [], _ => true
  | i :: r, L => decide (i ≠ m) && (Region.ready md ops L).contains i && Region.free md ops L i && (om.after.any fun e => Region.binds md e && e.on == i) && ((ops[i]?).map fun o => isLook o.op).getD false && headB md ops m om r (L.setIfInBounds i true)
def setAll : List Nat → Array Bool → Array Bool
  | [], L => L
  | i :: r, L => setAll r (L.setIfInBounds i true)
def tailB (md : Region.Mode) (ops : Array Oper) (m g : Nat) : List Nat → Array Bool → Bool
  | [], L => Region.seqB md ops g m L
  | q :: r, L => decide (Region.ready md ops L = [q]) && tailB md ops m g r (L.setIfInBounds q true)
/-- What is asked of the rest. -/
def tailPost (Q : Exit → Act → World → Prop) (K : Act → World → Prop) : Exit → Act → World → Prop
  | .normal, a, w => K a w
  | e, a, w => Q e a w
def wpTail (P : Program) (ops : Array Oper) (Q : Exit → Act → World → Prop) (S : World → Prop) (last : List Oper) : List Oper → Act → World → Prop
  | [], a, w => wpList P ops Q last a w
  | o :: r, a, w => wpList P ops (tailPost Q fun a' w' => S w' ∧ wpTail P ops Q S last r a' w') [o] a w
theorem op_one {K : Act → World → Prop} {i : Nat} {o : Oper} {a : Act} {w : World} (hi : ops[i]? = some o) (h : wpList P ops (tailPost Q K) [o] a w) : wpOp P ops Q i K a w := by
  unfold wpOp
  simp only [hi]
  simp only [wpList] at h
  split
  · rename_i hw
    rw [if_pos hw] at h
    rcases h with h | ⟨h1, h2⟩
    · refine .inl ?_
      unfold Oper.wp at *
      generalize (execOp a.eval o).run P w = r at *
      cases r with
      | ok n w' =>
        cases n <;> simp only [Oper.upon, tailPost] at h ⊢
        case enter f args =>
          refine Calls.mono h fun e w'' he => ?_
          cases e with
          | returned u => exact he
          | panicked c => exact he
          | outgrown => exact he
        all_goals exact h
      | halt x w' => cases x <;> simp only [Oper.upon, tailPost] at h ⊢ <;> exact h
    · exact .inr ⟨h1, h2⟩
  · rename_i hw
    rw [if_neg hw] at h
    exact h
theorem tail_cons {S : World → Prop} {last r : List Oper} {o : Oper} {a : Act} {w : World} (h : wpList P ops (tailPost Q fun a' w' => S w' ∧ wpTail P ops Q S last r a' w') [o] a w) : wpTail P ops Q S last (o :: r) a w := h
theorem tail_nil {S : World → Prop} {last : List Oper} {a : Act} {w : World} (h : wpList P ops Q last a w) : wpTail P ops Q S last [] a w := h
theorem tail_done {K : Act → World → Prop} {a : Act} {w : World} (h : K a w) : tailPost Q K .normal a w := h
theorem list_post {K : Act → World → Prop} : ∀ (l : List Oper) (a : Act) (w : World), wpList P ops (tailPost Q K) l a w → (∀ a w, K a w → Q .normal a w) → wpList P ops Q l a w
  | [], _, _, h, hK => hK _ _ h
  | o :: l, a, w, h, hK => by
    simp only [wpList] at h ⊢
    split
    · rename_i hw
      rw [if_pos hw] at h
      rcases h with h | ⟨h1, h2⟩
      · refine .inl ?_
        unfold Oper.wp at *
        generalize (execOp a.eval o).run P w = r at *
        cases r with
        | ok n w' =>
          cases n <;> simp only [Oper.upon, tailPost] at h ⊢
          case enter f args =>
            refine Calls.mono h fun e w'' he => ?_
            cases e with
            | returned u => exact list_post l _ _ he hK
            | panicked c => exact he
            | outgrown => exact he
          case value u => exact list_post l _ _ h hK
          case skip => exact list_post l _ _ h hK
          case defer d => exact list_post l _ _ h hK
          case row row args => exact Rows.mono h fun u w'' he => list_post l _ _ he hK
        | halt x w' => cases x <;> simp only [Oper.upon, tailPost] at h ⊢ <;> exact h
      · exact .inr ⟨h1, h2⟩
    · rename_i hw
      rw [if_neg hw] at h
      exact list_post l _ _ h hK
theorem tail_end {S : World → Prop} {last : List Oper} {a : Act} {w : World} (h : wpList P ops (tailPost (NoPanic Q) fun a' w' => Q .normal a' w') last a w) : wpTail P ops (NoPanic Q) S last [] a w := list_post last a w h (fun _ _ h => h)
theorem getD_self (L : Array Bool) (m : Nat) : (L.setIfInBounds m true).getD m true = true := by
  rcases Nat.lt_or_ge m L.size with h | h
  · simp [h]
  · simp [h]
theorem m_seq : ∀ (r : List Oper) (k : Nat) (L : Array Bool) (a : Act) (w : World), (∀ j, r[j]? = ops[k + j]?) → Region.seqB md ops r.length k L = true → (k = m ∨ L.getD m true = true) → wpList P ops Q r a w → wpAnyM P md ops Q S m r.length L a w
  | [], _, _, _, _, _, hB, _, h => ⟨by simpa [Region.seqB] using hB, h⟩
  | o :: r, k, L, a, w, hl, hB, hk, h => by
    have h0 : ops[k]? = some o := by simpa using (hl 0).symm
    simp only [List.length_cons, Region.seqB, Bool.and_eq_true, decide_eq_true_eq] at hB
    refine ⟨fun h1 => (by rw [hB.1] at h1; cases h1), fun i hi => ?_⟩
    rw [hB.1] at hi
    have hik : i = k := by simpa using hi
    subst hik
    have hm : (L.setIfInBounds i true).getD m true = true := by
      rcases Decidable.em (i = m) with rfl | hne
      · exact getD_self _ _
      · rw [set_other hne]; exact hk.elim (fun e => absurd e hne) id
    have hw : wpOp P ops Q i (wpList P ops Q r) a w := by unfold wpOp; simp only [h0]; exact h
    exact wpOp_mono (fun a' w' h' => ⟨fun hf => (by rw [hm] at hf; cases hf), m_seq r (i + 1) _ a' w' (fun j => by have := hl (j + 1); simpa [Nat.add_assoc, Nat.add_comm 1 j] using this) hB.2 (.inr hm) h'⟩) hw
theorem m_tail (last : List Oper) (hlast : ∀ j, last[j]? = ops[m + j]?) : ∀ (qs : List Nat) (tl : List Oper) (L : Array Bool) (a : Act) (w : World), qs.map (fun q => ops[q]?) = tl.map some → tailB md ops m last.length qs L = true → wpTail P ops Q S last tl a w → wpAnyM P md ops Q S m (last.length + qs.length) L a w
  | [], [], L, a, w, _, hB, h => m_seq last m L a w hlast hB (.inl rfl) h
  | [], _ :: _, _, _, _, hq, _, _ => by simp at hq
  | _ :: _, [], _, _, _, hq, _, _ => by simp at hq
  | q :: qs, o :: tl, L, a, w, hq, hB, h => by
    simp only [List.map_cons, List.cons.injEq] at hq
    simp only [tailB, Bool.and_eq_true, decide_eq_true_eq] at hB
    refine ⟨fun h1 => (by rw [hB.1] at h1; cases h1), fun i hi => ?_⟩
    rw [hB.1] at hi
    have hik : i = q := by simpa using hi
    subst hik
    have hw := op_one hq.1 h
    exact wpOp_mono (fun a' w' h' => ⟨fun _ => h'.1, m_tail last hlast qs tl _ a' w' hq.2 hB.2 h'.2⟩) hw
theorem yields_look {o : Oper} {a : Act} {v : Value} (hw : Region.wanted o (yielded ops a.tmps) = true) (hl : isLook o.op = true) (h : ∀ w, S w → o.quietAt P a S w v) : YieldsIf P ops S o v a := by
  refine .inl ⟨hw, fun w hS => ?_⟩
  have h1 := h w hS
  unfold Oper.quietAt at h1
  generalize hr : (execOp a.eval o).run P w = r at h1
  cases r with
  | ok n w' =>
    obtain ⟨u, rfl⟩ := look_val hl hr
    simp only [Oper.quietUpon] at h1
    rw [h1.1, h1.2]
  | halt x w' => exact h1.elim
theorem m_head {om : Oper} (hom : ops[m]? = some om) (hs : Region.noSelect ops = true) (hQ : ∀ c a d v w, Q (.panic c) (a.put d v) w → Q (.panic c) a w) :
    ∀ (ps : List Nat) (hl : List Oper) (L : Array Bool) (a : Act) (w : World) (fuel : Nat), ps.map (fun p => ops[p]?) = hl.map some → headB md ops m om ps L = true → L.getD m true = false → S w →
      wpQuiet P ops S (fun a' => wpAnyM P md ops Q S m fuel (setAll ps L) a' w) hl a → wpAnyM P md ops Q S m (fuel + ps.length) L a w
  | [], [], _, _, _, _, _, _, _, _, h => h
  | [], _ :: _, _, _, _, _, hq, _, _, _, _ => by simp at hq
  | _ :: _, [], _, _, _, _, hq, _, _, _, _ => by simp at hq
  | i :: ps, o :: hl, L, a, w, fuel, hq, hB, hm, hS, h => by
    simp only [List.map_cons, List.cons.injEq] at hq
    simp only [headB, Bool.and_eq_true, decide_eq_true_eq] at hB
    obtain ⟨⟨⟨⟨⟨h1, h2⟩, h3⟩, h4⟩, h5⟩, h6⟩ := hB
    rw [hq.1] at h5
    have hlook : isLook o.op = true := h5
    have hwait : ∃ e ∈ om.after, Region.binds md e = true ∧ e.on = i := by
      obtain ⟨e, he, hb⟩ := Array.any_eq_true'.1 h4
      simp only [Bool.and_eq_true, beq_iff_eq] at hb
      exact ⟨e, he, hb⟩
    have hm2 : (L.setIfInBounds i true).getD m true = false := by rw [set_other h1]; exact hm
    simp only [wpQuiet] at h
    have go : ∀ v, YieldsIf P ops S o v a → wpQuiet P ops S (fun a' => wpAnyM P md ops Q S m fuel (setAll ps (L.setIfInBounds i true)) a' w) hl (a.put o.dst v) → wpAnyM P md ops Q S m (fuel + (i :: ps).length) L a w := fun v hy hr =>
      m_first hq.1 (Region.noSelect_spec hs) (fun c a w => hQ c a o.dst v w) h1 hom hwait (fuel + ps.length) L a w (Region.free_spec hq.1 h3) (by simpa using h2) hm hy hS (m_head hom hs hQ ps hl _ _ w fuel hq.2 h6 hm2 hS hr)
    by_cases hw : Region.wanted o (yielded ops a.tmps) = true
    · rw [if_pos hw] at h
      obtain ⟨v, hv, hr⟩ := h
      exact go v (yields_look hw hlook hv) hr
    · rw [if_neg hw] at h
      exact go undef (.inr ⟨by simpa using hw, rfl⟩) h
end
/-- THE REGION: the looks ps in every world that meets S, then the rest qs (S is kept), then what stands from number m on. -/
theorem wp_region_m {P : Program} {id : Nat} {l : List Oper} {Q : Exit → Act → World → Prop} {a : Act} {w : World} (S : World → Prop) (m : Nat) (ps qs : List Nat) (hl tl : List Oper) (om : Oper) (hm : P.follows .mixedOrders = true)
    (hom : l[m]? = some om) (hps : ps.map (fun p => l[p]?) = hl.map some) (hqs : qs.map (fun p => l[p]?) = tl.map some)
    (hB : (Region.noSelect l.toArray && headB .any l.toArray m om ps (Array.replicate l.length false) && tailB .any l.toArray m (l.drop m).length qs (setAll ps (Array.replicate l.length false)) && decide ((l.drop m).length + qs.length + ps.length = l.length) && !(Array.replicate l.length false).getD m true) = true)
    (hQ : ∀ c a d v w, Q (.panic c) (a.put d v) w → Q (.panic c) a w) (hS : S w.drew)
    (h : wpQuiet P l.toArray S (fun a' => wpTail P l.toArray Q S (l.drop m) tl a' w.drew) hl a) : (Code.region id l.toArray true).wp P Q a w := by
  simp only [Bool.and_eq_true, decide_eq_true_eq, Bool.not_eq_true'] at hB
  obtain ⟨⟨⟨⟨h1, h2⟩, h3⟩, h4⟩, h5⟩ := hB
  refine wp_region_any hm (any_of_m (S := S) (m := m) _ _ _ _ ?_)
  have hlast : ∀ j, (l.drop m)[j]? = l.toArray[m + j]? := fun j => by simp [List.getElem?_drop]
  have := m_head (md := .any) (S := S) (Q := Q) (P := P) (om := om) (m := m) (ops := l.toArray) (by simpa using hom) h1 hQ ps hl (Array.replicate l.length false) a w.drew ((l.drop m).length + qs.length) (by simpa using hps) h2 h5 hS ?_
  · rw [h4] at this
    simpa using this
  · refine wpQuiet_imp (fun a' h' => ?_) hl a h
    exact m_tail (md := .any) (l.drop m) hlast qs tl _ a' w.drew (by simpa using hqs) h3 h'
/-- .. the operations named by pieces: (first, how many). -/
def pieces (l : List Oper) (hp : List (Nat × Nat)) : List Oper := hp.flatMap fun x => (l.drop x.1).take x.2
def nums (hp : List (Nat × Nat)) : List Nat := hp.flatMap fun x => List.range' x.1 x.2
theorem pieces_nums {l : List Oper} : ∀ hp : List (Nat × Nat), (hp.all fun x => decide (x.1 + x.2 ≤ l.length)) = true → (nums hp).map (fun p => l[p]?) = (pieces l hp).map some
  | [], _ => rfl
  | x :: hp, h => by
    simp only [List.all_cons, Bool.and_eq_true, decide_eq_true_eq] at h
    simp only [nums, pieces, List.flatMap_cons, List.map_append]
    have ih := pieces_nums hp h.2
    simp only [nums, pieces] at ih
    rw [ih]
    congr 1
    refine List.ext_getElem? fun i => ?_
    simp only [List.getElem?_map]
    by_cases hi : i < x.2
    · rw [List.getElem?_range' hi, List.getElem?_take_of_lt hi, List.getElem?_drop]
      simp only [Option.map_some, Nat.one_mul]
      rw [List.getElem?_eq_getElem (by omega)]; rfl
    · rw [List.getElem?_eq_none (by simp; omega), List.getElem?_eq_none (by simp; omega)]; rfl
theorem wp_region_p {P : Program} {id : Nat} {l : List Oper} {Q : Exit → Act → World → Prop} {a : Act} {w : World} (S : World → Prop) (m : Nat) (hp hq : List (Nat × Nat)) (om : Oper) (hm : P.follows .mixedOrders = true)
    (hom : l[m]? = some om) (h1 : (hp.all fun x => decide (x.1 + x.2 ≤ l.length)) = true) (h2 : (hq.all fun x => decide (x.1 + x.2 ≤ l.length)) = true)
    (hB : (Region.noSelect l.toArray && headB .any l.toArray m om (nums hp) (Array.replicate l.length false) && tailB .any l.toArray m (l.drop m).length (nums hq) (setAll (nums hp) (Array.replicate l.length false)) && decide ((l.drop m).length + (nums hq).length + (nums hp).length = l.length) && !(Array.replicate l.length false).getD m true) = true)
    (hS : S w.drew)
    (h : wpQuiet P l.toArray S (fun a' => wpTail P l.toArray (NoPanic Q) S (l.drop m) (pieces l hq) a' w.drew) (pieces l hp) a) : (Code.region id l.toArray true).wp P Q a w :=
  wp_region_noPanic (wp_region_m S m (nums hp) (nums hq) (pieces l hp) (pieces l hq) om hm hom (pieces_nums hp h1) (pieces_nums hq h2) hB (fun _ _ _ _ _ h => h) hS h)
end Go.Proofs.YtgaaieipeiekiaaGreat
