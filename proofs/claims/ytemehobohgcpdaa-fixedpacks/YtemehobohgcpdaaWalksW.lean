/- Contract of the reference's Put of the Unpacker. -/
import Derived.Test.YtemehobohgcpdaaWalksV
import Derived.WalkKit
import Derived.WalkSpells
import Derived.WalkLawsBesides
import Derived.Lib.Hide
import Derived.BigQuiet
import Derived.Deep.RegionLaw
namespace Go.Proofs.Ytemehobohgcpdaa
open Go.RowKit

/-- Where the reference's Put stands. -/
structure VMid (w : World) (S : Nat → Prop) (b K : Nat) (l zs : List Int) (wr : World) (O : Option Addr) (m oc : Nat) (j : Nat) (l1 os1 : List Int) (S' : Nat → Prop) : Prop where
  obj : Ru b K l1 wr S'
  only : Only S w wr
  grow : ∀ d, S' d → S d ∨ w.heap.size ≤ d
  out : Buf wr O m oc os1
  new : ∀ d, At O d → w.heap.size ≤ d ∧ ¬ S' d
  eo : os1 = uOut K l (zs.take j)
  el : l1 = uRest K l (zs.take j)
  lt : l1.length < K
  nm : m + l1.length ≤ l.length + 2 * j

/-- The byte is held. -/
structure VHas (w : World) (S : Nat → Prop) (b K : Nat) (wr : World) (O : Option Addr) (m oc : Nat) (l3 os1 : List Int) (S' : Nat → Prop) : Prop where
  obj : Ru b K l3 wr S'
  only : Only S w wr
  grow : ∀ d, S' d → S d ∨ w.heap.size ≤ d
  out : Buf wr O m oc os1
  new : ∀ d, At O d → w.heap.size ≤ d ∧ ¬ S' d
theorem VMid.has {w : World} {S : Nat → Prop} {b K : Nat} {l zs : List Int} {wr w2 : World} {O : Option Addr} {m oc j : Nat} {l1 os1 l3 : List Int} {S' S2 : Nat → Prop} (M : VMid w S b K l zs wr O m oc j l1 os1 S')
    (h : Ru b K l3 w2 S2) (ho : Only S' wr w2) (hs : ∀ d, S2 d → S' d ∨ wr.heap.size ≤ d) : VHas w S b K w2 O m oc l3 os1 S2 := by
  refine ⟨h, M.only.trans ho (fun d hd hl => (M.grow d hd).elim id (fun h => by omega)), fun d hd => ?_, M.out.only ho (fun g o s he hg => (M.new g ⟨o, s, he⟩).2 hg), fun d hd => ⟨(M.new d hd).1, fun h2 => ?_⟩⟩
  · rcases hs d hd with h3 | h3
    · exact M.grow d h3
    · right; have := M.only.size; omega
  · rcases hs d h2 with h3 | h3
    · exact (M.new d hd).2 h3
    · obtain ⟨o, s, he⟩ := hd; have := M.out.at d o s he; omega
theorem VHas.on {w : World} {S : Nat → Prop} {b K : Nat} {wr w2 : World} {O : Option Addr} {m oc : Nat} {l3 os1 : List Int} {S' : Nat → Prop} (h : VHas w S b K wr O m oc l3 os1 S') (k : Below wr.heap.size wr w2) : VHas w S b K w2 O m oc l3 os1 S' :=
  ⟨(Ru.keeps _ _ _).on h.obj k, h.only.trans (T := fun _ => False) (Only.of_below k) (fun _ h _ => h.elim), h.grow, h.out.on k, h.new⟩

theorem uhold_step {b K : Nat} {l ys : List Int} {S : Nat → Prop} {W w5 : World} {A A5 : Option Addr} {m c n5 c5 : Nat} (h : Ru b K l W S) (c2 : W.cell? ⟨b, 1, none⟩ = some (.slice A m c)) (hA : ∀ g o s, A = some ⟨g, o, s⟩ → S g ∧ g ≠ b)
    (q1 : Buf w5 A5 n5 c5 ys) (q2 : Only (fun d => ∃ o s, A = some ⟨d, o, s⟩) W w5) (q3 : A5 = A ∨ A5 = some ⟨W.heap.size, 0, none⟩) :
    w5.cell? ⟨b, 1, none⟩ = some (.slice A m c) ∧ w5.frozen? ⟨b, 1, none⟩ = false ∧ ∃ S', Ru b K ys (w5.setCell ⟨b, 1, none⟩ (.slice A5 n5 c5)) S' ∧ Only S W (w5.setCell ⟨b, 1, none⟩ (.slice A5 n5 c5)) ∧ ∀ d, S' d → S d ∨ W.heap.size ≤ d := by
  have hb := h.lt b h.mine
  have hn : ¬ ∃ o s, A = some ⟨b, o, s⟩ := fun ⟨o, s, he⟩ => (hA b o s he).2 rfl
  have d1 := (q2.cell (p := ⟨b, 1, none⟩) hb hn).trans c2
  have d0 := (q2.cell (p := ⟨b, 0, none⟩) hb hn).trans h.size
  have df := (q2.frozen (p := ⟨b, 1, none⟩) hb hn).trans h.free
  refine ⟨d1, df, fun d => S d ∨ ∃ o s, A5 = some ⟨d, o, s⟩, Fi.stored (.inl h.mine) ?_ d0 d1 df q1 ?_, ?_, ?_⟩
  · rintro d (hd | ⟨o, s, he⟩)
    · exact Nat.lt_of_lt_of_le (h.lt d hd) q2.size
    · exact q1.at d o s he
  · intro g o s he
    refine ⟨.inr ⟨o, s, he⟩, ?_⟩
    rcases q3 with rfl | rfl
    · exact (hA g o s he).2
    · injection he with he; injection he with he; omega
  · exact (q2.mono (fun d ⟨o, s, he⟩ => (hA d o s he).1)).setCell ⟨b, 1, none⟩ (fun _ => h.mine) _
  · rintro d (hd | ⟨o, s, he⟩)
    · exact .inl hd
    · rcases q3 with rfl | rfl
      · exact .inl (hA d o s he).1
      · right; injection he with he; injection he with he; omega

theorem VHas.go {w : World} {S : Nat → Prop} {b K : Nat} {l zs : List Int} {wr : World} {O : Option Addr} {m oc j : Nat} {l1 os1 l3 : List Int} {S' : Nat → Prop} (h : VHas w S b K wr O m oc l3 os1 S') (hj : j < zs.length) (e3 : l1 ++ [zs.getD j 0] = l3) (hK : ¬ K ≤ l1.length + 1) (eo : os1 = uOut K l (zs.take j)) (el : l1 = uRest K l (zs.take j)) (nm : m + l1.length ≤ l.length + 2 * j) :
    VMid w S b K l zs wr O m oc (j + 1) l3 os1 S' := by
  subst e3
  refine ⟨h.obj, h.only, h.grow, h.out, h.new, ?_, ?_, by simp; omega, by simp; omega⟩
  · rw [take_snoc j hj, uOut_one, ← el, if_neg hK, eo]
  · rw [take_snoc j hj, uRest_one, ← el, if_neg hK]
theorem VHas.full {w : World} {S : Nat → Prop} {b K : Nat} {l zs : List Int} {wr w2 w3 : World} {O O3 : Option Addr} {m oc j m3 oc3 : Nat} {l1 os1 l3 : List Int} {S' S2 : Nat → Prop} (h : VHas w S b K wr O m oc l3 os1 S') (hj : j < zs.length) (e3 : l1 ++ [zs.getD j 0] = l3) (hK : K ≤ l1.length + 1) (hK1 : 1 ≤ K) (eo : os1 = uOut K l (zs.take j)) (el : l1 = uRest K l (zs.take j)) (nm : m + l1.length ≤ l.length + 2 * j)
    (ho : Only S' wr w2) (hs : ∀ d, S2 d → S' d ∨ wr.heap.size ≤ d) (h2 : Ru b K [] w2 S2) (hB : Buf w3 O3 m3 oc3 (os1 ++ lin l3)) (q2 : Only (fun d => ∃ o s, O = some ⟨d, o, s⟩) w2 w3) (q3 : O3 = O ∨ O3 = some ⟨w2.heap.size, 0, none⟩) :
    VMid w S b K l zs w3 O3 m3 oc3 (j + 1) [] (os1 ++ lin l3) S2 := by
  subst e3
  have hS2 : ∀ d, S2 d → ¬ At O d := fun d hd ha => by
    rcases hs d hd with h1 | h1
    · exact (h.new d ha).2 h1
    · obtain ⟨o', s', he⟩ := ha; have := h.out.at d o' s' he; omega
  have hm3 : m3 ≤ m + l1.length + 2 := by
    have h1 := hB.1; have h2 := h.out.1; have h4 := lin_le (l1 ++ [zs.getD j 0])
    rw [List.length_append] at h1
    simp only [List.length_append, List.length_singleton] at h4
    omega
  refine ⟨Fi.only h2 q2 (fun d hd ht => hS2 d hd ht), ?_, fun d hd => ?_, hB, fun d hd => ?_, ?_, ?_, by simp; omega, by simp; omega⟩
  · exact (h.only.trans ho (fun d hd hl => (h.grow d hd).elim id (fun h => by omega))).trans q2 (fun d hd hl => by have := (h.new d hd).1; omega)
  · rcases hs d hd with h3 | h3
    · exact h.grow d h3
    · right; have := h.only.size; omega
  · rcases q3 with rfl | rfl
    · exact ⟨(h.new d hd).1, fun h1 => hS2 d h1 hd⟩
    · obtain ⟨o, s, he⟩ := hd
      injection he with he; injection he with he
      exact ⟨by have := h.only.size; have := ho.size; omega, fun h1 => by have := h2.lt d h1; omega⟩
  · rw [take_snoc j hj, uOut_one, ← el, if_pos hK, eo]
  · rw [take_snoc j hj, uRest_one, ← el, if_pos hK]

set_option maxHeartbeats 4000000 in
theorem rputu_any (b K : Nat) (l : List Int) (S : Nat → Prop) (A : Option Addr) (n c : Nat) (zs os l2 : List Int) (w : World) (h : Ru b K l w S) (hK1 : 1 ≤ K ∧ K ≤ 4096) (hB : Bytes w A n c zs) (hA : ∀ g o, A = some ⟨g, o, none⟩ → 0 < n → ¬ S g) (hl : l.length < K) (hn : n ≤ 300000)
    (ho : uOut K l zs = os) (hl2 : uRest K l zs = l2) :
    Calls Try.prog 22 #[.pointer (some ⟨b, 0, none⟩), .slice A n c] w (Gives (Ru b K l2) S os w) := by
  have M0 := Lib.hid (show VMid w S b K l zs w none 0 0 0 l [] S from ⟨h, Only.refl _ _, fun d hd => .inl hd, Buf.nil w, (fun d ⟨_, _, he⟩ => by cases he), rfl, rfl, hl, by omega⟩)
  have HB := Lib.hid hB; have HA := Lib.hid hA; have HO := Lib.hid ho; have HL := Lib.hid hl2
  have hzn := Lib.hid hB.1
  clear h hB hA ho hl2
  go_enter Try.func22, Try.ntmps22
  go_wp2
  go_loopw [5, 6] (fun vo i wr => ∃ (j : Nat) (O : Option Addr) (m oc : Nat) (l1 os1 : List Int) (S' : Nat → Prop), j ≤ n ∧ i = .int .i64 j ∧ vo = .slice O m oc ∧ Hid (VMid w S b K l zs wr O m oc j l1 os1 S')) (fun _ i _ => n - (intOf i).toNat)
  case atStart => exact ⟨0, none, 0, 0, l, [], S, Nat.zero_le _, rfl, rfl, M0.out⟩
  case round =>
    clear M0
    obtain ⟨j, O, m, oc, l1, os1, S', hj, rfl, rfl, M⟩ := hrel
    by_cases hlt : j < n
    · obtain ⟨g, o, rfl, hg, hcell⟩ := HB.out.2.2.2 (by omega)
      have hgS := HA.out g o rfl (by omega)
      have cz := (M.out.only.cell (p := ⟨g, o + j, none⟩) hg hgS).trans (hcell j hlt)
      have HJ := Lib.hid (show j < zs.length by rw [hzn.out]; exact hlt)
      clear hcell hg hgS
      obtain ⟨A0, n0, c0, e2, hB0, hA0⟩ := M.out.obj.held
      have f2 := M.out.obj.free
      have hn0 : l1.length = n0 := hB0.1
      have hlK := M.out.lt
      have hnm := M.out.nm
      have K1 := Lib.hid (show Below wr.heap.size wr (wr.drew.alloc (.cells #[.int .u8 (zs.getD j 0)] 5)) from ((Below.refl _ _).drew).alloc (Nat.le_refl _) _)
      have HB0 := Lib.hid (hB0.on K1.out); have HA0 := Lib.hid hA0
      have hbw := M.out.obj.lt b M.out.obj.mine
      have R1 := Lib.hid ((Ru.keeps _ _ _).on M.out.obj K1.out)
      have T1 := Lib.hid (one_new wr.drew (zs.getD j 0))
      obtain ⟨l3, hl3⟩ : ∃ l3, l1 ++ [zs.getD j 0] = l3 := ⟨_, rfl⟩
      have HL3 := Lib.hid hl3
      have FIN := Lib.hid (show ∀ (A5 : Option Addr) (n5 c5 : Nat) (w5 : World), Buf w5 A5 n5 c5 l3 → Only (fun d => ∃ o s, A0 = some ⟨d, o, s⟩) (wr.drew.alloc (.cells #[.int .u8 (zs.getD j 0)] 5)) w5 → (A5 = A0 ∨ A5 = some ⟨(wr.drew.alloc (.cells #[.int .u8 (zs.getD j 0)] 5)).heap.size, 0, none⟩) →
          w5.cell? ⟨b, 1, none⟩ = some (.slice A0 n0 c0) ∧ w5.frozen? ⟨b, 1, none⟩ = false ∧ ∃ S2, Hid (VHas w S b K (w5.setCell ⟨b, 1, none⟩ (.slice A5 n5 c5)) O m oc l3 os1 S2) from fun A5 n5 c5 w5 q1 q2 q3 => by
        obtain ⟨x1, x2, S2, X, Y, Z⟩ := uhold_step R1.out ((K1.out.cell (p := ⟨b, 1, none⟩) hbw).trans e2) HA0.out q1 q2 q3
        exact ⟨x1, x2, S2, M.out.has X ((Only.of_below K1.out).trans Y (fun d h _ => h)) (fun d hd => (Z d hd).imp id (fun h => Nat.le_trans K1.out.size h))⟩)
      have GO := Lib.hid (fun (W6 : World) (S2 : Nat → Prop) (h : VHas w S b K W6 O m oc l3 os1 S2) (hK : ¬ K ≤ l1.length + 1) => h.go (l := l) (zs := zs) HJ.out hl3 hK M.out.eo M.out.el M.out.nm)
      have FUL := Lib.hid (fun (W6 w7 w8 : World) (S2 S3 : Nat → Prop) (O3 : Option Addr) (m3 oc3 : Nat) (h : VHas w S b K W6 O m oc l3 os1 S2) (hK : K ≤ l1.length + 1) (ho : Only S2 W6 w7) (hs : ∀ d, S3 d → S2 d ∨ W6.heap.size ≤ d) (h2 : Ru b K [] w7 S3) (hB : Buf w8 O3 m3 oc3 (os1 ++ lin l3)) (q2 : Only (fun d => ∃ o s, O = some ⟨d, o, s⟩) w7 w8) (q3 : O3 = O ∨ O3 = some ⟨w7.heap.size, 0, none⟩) => h.full (l := l) (zs := zs) HJ.out hl3 hK hK1.1 M.out.eo M.out.el M.out.nm ho hs h2 hB q2 q3)
      have hl3n : l3.length = n0 + 1 := by rw [← hl3]; simp; exact hn0
      rw [hn0] at hlK hnm
      have e2a0 := (K1.out.cell (p := ⟨b, 1, none⟩) hbw).trans e2
      clear hl3
      generalize zs.getD j 0 = z at *
      have e2d : wr.drew.cell? ⟨b, 1, none⟩ = some (.slice A0 n0 c0) := e2
      have czd : wr.drew.cell? ⟨g, o + j, none⟩ = some (.int .u8 z) := cz
      have j0 : (0 : Int) ≤ (j : Int) := by omega
      have j1 : (j : Int) < (n : Int) := by omega
      have hl5 : n0 + 1 ≤ 1000000 := by omega
      have HN0 := Lib.hid hn0; have HL3N := Lib.hid hl3n
      clear hB0 hA0 R1 hn0 hl3n
      go_wp2
      go_region_law (refine step_append_buf rfl (.tmp 17) (.tmp 22) rfl HB0.out (by simp [Act.eval]) T1.out (fun h => by cases h) (by simp [Act.eval]) hl5 ?_; intro A5 c5 w5 q1 q2 q3; obtain ⟨x1, x2, S2, X⟩ := FIN.out A5 _ c5 w5 (by rw [← HL3.out]; exact q1) q2 q3; clear q1 q2 q3)
      all_goals
        generalize hW6 : w5.setCell ⟨b, 1, none⟩ (.slice A5 (n0 + 1) c5) = W6 at *
        clear hW6 x1 x2 e2 e2d e2a0 cz czd f2
        obtain ⟨A6, n6, c6, d1, hB6, _⟩ := X.out.obj.held
        obtain rfl : n6 = n0 + 1 := by have := hB6.1; have := HL3N.out; omega
        have d0 := X.out.obj.size
        clear hB6
        by_cases hK : K ≤ n0 + 1
        · obtain rfl : K = n0 + 1 := by omega
          go_wp2
          go_quiet (fail)
          generalize hW7 : W6.drewN nq = W7 at *
          have K7 := Lib.hid (show Below W6.heap.size W6 W7 by rw [← hW7]; exact below_drewN (Below.refl _ _) _)
          clear hW7 d1 d0
          have X7 := Lib.hid (X.out.on K7.out)
          obtain ⟨ln, hln⟩ : ∃ ln, lin l3 = ln := ⟨_, rfl⟩
          have HLN := Lib.hid hln
          have hlnl : ln.length ≤ n0 + 2 := by have := lin_le l3; have := HL3N.out; rw [hln] at *; omega
          clear hln
          go_wp2_with fail
          refine (rline_any b (n0 + 1) l3 S2 ln W7 X7.out.obj (by have := HL3N.out; omega) (by have := HL3N.out; omega) HLN.out).mono ?_
          rintro e w8 ⟨A8, m8, c8, S3, rfl, q1, q2, q3, q4, q5⟩
          have Q1 := Lib.hid q1; have Q3 := Lib.hid q3; have Q4 := Lib.hid q4; have Q5 := Lib.hid q5
          have B8 := Lib.hid (X7.out.out.only q4 (fun g o s he hg => (X7.out.new g ⟨o, s, he⟩).2 hg))
          have hm8 : m + m8 ≤ 1000000 := by have := q1.1; omega
          clear q1 q2 q3 q4 q5
          go_wp2_with (at_builtin; refine append_buf rfl _ _ rfl B8.out rfl Q1.out.bytes.1 Q1.out.bytes.2 rfl hm8 ?_; intro A9 c9 w9 q1 q2 q3; have MF := Lib.hid (FUL.out W7 w8 w9 S2 S3 A9 _ c9 X7.out (by have := HN0.out; omega) Q4.out Q5.out Q3.out (by rw [HLN.out]; exact q1) q2 q3); clear q1 q2 q3)
          go_roundw
          case rel => exact ⟨j + 1, A9, _, c9, [], _, S3, by omega, by go_num, rfl, MF.out⟩
          case measure => simp [intOf]; omega
        · have hne : (((n0 + 1 : Nat) : Int) == (K : Int)) = false := by simp; omega
          have hne2 : ¬ n0 + 1 = K := by omega
          have hne3 : ((n0 : Int) + 1 == (K : Int)) = false := by simp; omega
          go_wp2
          go_quiet (fail)
          generalize hW7 : W6.drewN nq = W7 at *
          have K7 := Lib.hid (show Below W6.heap.size W6 W7 by rw [← hW7]; exact below_drewN (Below.refl _ _) _)
          clear hW7 d1 d0
          have MF := Lib.hid (GO.out W7 S2 (X.out.on K7.out) (by have := HN0.out; omega))
          go_wp2
          go_roundw
          case rel => exact ⟨j + 1, O, m, oc, l3, os1, S2, by omega, by go_num, rfl, MF.out⟩
          case measure => simp [intOf]; omega
    · have hjn : j = n := by omega
      have HT := Lib.hid (show zs.take j = zs by rw [hjn, ← hzn.out]; exact List.take_length)
      go_wp2
      go_ret
      have e1 := M.out.eo; have e2 := M.out.el
      rw [HT.out, HO.out] at e1
      rw [HT.out, HL.out] at e2
      subst e1 e2
      exact ⟨O, m, oc, S', rfl, M.out.out, fun g o s he => M.out.new g ⟨o, s, he⟩, M.out.obj, M.out.only, M.out.grow⟩

end Go.Proofs.Ytemehobohgcpdaa
