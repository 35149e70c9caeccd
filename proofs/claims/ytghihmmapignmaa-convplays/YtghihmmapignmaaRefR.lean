/- The reference's Conv in memory; contracts of its first and last. / Contracts of the reference's lines, Put, End. / Contracts of the reference's Put, End, NewConv. -/
import Derived.Test.YtghihmmapignmaaLawR
import Derived.Test.YtghihmmapignmaaSwC
import Derived.Test.YtghihmmapignmaaFixR
import Derived.Test.YtghihmmapignmaaTabM
import Derived.WalkKit
import Derived.WalkSpells
import Derived.WalkLawsBesides
import Derived.Lib.Hide
import Derived.Test.YtghihmmapignmaaMayR
namespace Go.Proofs.Ytghihmmapignmaa
open Go.RowKit

section
variable {o p : Nat} {X : Nat → Option Value} {S T : Nat → Prop} {w w' : World} {b : Nat} {k : Value} {zs : List Int}
theorem Fo.retell (h : Fo o p X w b S k zs) : Fo o p (fun i => w.cell? ⟨b, i, none⟩) w b S k zs := ⟨h.mine, h.lt, (h.rest o h.ne).trans h.tells, h.ne, fun _ _ => rfl, h.frees, h.held⟩
/-- Another part of the struct changed. -/
theorem Fo.other (h : Fo o p X w b S k zs) (hk : Only T w w') (hT : ∀ d, S d → T d → d = b) (hc : ∀ i, i = o ∨ i = p → w'.cell? ⟨b, i, none⟩ = w.cell? ⟨b, i, none⟩) (hf : ∀ i, w'.frozen? ⟨b, i, none⟩ = false) : Fo o p (fun i => w'.cell? ⟨b, i, none⟩) w' b S k zs := by
  obtain ⟨A, n, c, h1, h2, h3⟩ := h.held
  refine ⟨h.mine, fun d hd => Nat.lt_of_lt_of_le (h.lt d hd) hk.size, (hc o (.inl rfl)).trans ((h.rest o h.ne).trans h.tells), h.ne, fun _ _ => rfl, hf, A, n, c, (hc p (.inr rfl)).trans h1, h2.only hk (fun g o' s he ht => ?_), h3⟩
  exact (h3 g o' s he).2 (hT g (h3 g o' s he).1 ht)
end
section
variable {X : Nat → Option Value} {S T : Nat → Prop} {w w' : World} {b K : Nat} {ct : Int} {l : List Int}
theorem Rp.retell (h : Rp X b K ct l w S) : Rp (fun i => w.cell? ⟨b, i, none⟩) b K ct l w S := ⟨h.mine, h.lt, h.cbs, h.cut, h.line, fun _ _ _ => rfl, h.frees⟩
theorem Rp.other (h : Rp X b K ct l w S) (hk : Only T w w') (hT : ∀ d, S d → T d → d = b) (hc : ∀ i, i = 11 ∨ i = 12 ∨ i = 13 → w'.cell? ⟨b, i, none⟩ = w.cell? ⟨b, i, none⟩) (hf : ∀ i, w'.frozen? ⟨b, i, none⟩ = false) : Rp (fun i => w'.cell? ⟨b, i, none⟩) b K ct l w' S := by
  obtain ⟨A, n, c, h1, h2, h3⟩ := h.line
  refine ⟨h.mine, fun d hd => Nat.lt_of_lt_of_le (h.lt d hd) hk.size, (hc 11 (.inl rfl)).trans h.cbs, (hc 12 (.inr (.inl rfl))).trans h.cut, ⟨A, n, c, (hc 13 (.inr (.inr rfl))).trans h1, h2.only hk (fun g o' s he ht => ?_), h3⟩, fun _ _ _ => rfl, hf⟩
  exact (h3 g o' s he).2 (hT g (h3 g o' s he).1 ht)
end
theorem Box.same {w w' : World} {b : Nat} {x : Cf} (h : Box w b 0 x) (hs : w.heap.size ≤ w'.heap.size) (hc : ∀ i, i < 9 → w'.cell? ⟨b, i, none⟩ = w.cell? ⟨b, i, none⟩) : Box w' b 0 x :=
  ⟨Nat.lt_of_lt_of_le h.lt hs, (hc 0 (by omega)).trans h.c0, (hc 1 (by omega)).trans h.c1, (hc 2 (by omega)).trans h.c2, (hc 3 (by omega)).trans h.c3, (hc 4 (by omega)).trans h.c4, (hc 5 (by omega)).trans h.c5, (hc 6 (by omega)).trans h.c6, (hc 7 (by omega)).trans h.c7, (hc 8 (by omega)).trans h.c8⟩

/-- The reference's Conv at block r: the conversions, the Swab, the Packer, the Unpacker. -/
structure Rw (r : Nat) (x : Cf) (X : Nat → Option Value) (ks lp lu : List Int) (ct : Nat) (w : World) (Ss Sp Su : Nat → Prop) : Prop where
  cells : ∀ i, w.cell? ⟨r, i, none⟩ = X i
  box : Box w r 0 x
  ss : Rs X r x.sw ks w Ss
  sp : Rp X r x.cb.toNat (ct : Int) lp w Sp
  su : Ru X r x.cb.toNat lu w Su
  a1 : ∀ d, Ss d → Sp d → d = r
  a2 : ∀ d, Ss d → Su d → d = r
  a3 : ∀ d, Sp d → Su d → d = r
def Us (Ss Sp Su : Nat → Prop) (d : Nat) : Prop := Ss d ∨ Sp d ∨ Su d
section
variable {r : Nat} {x : Cf} {X : Nat → Option Value} {ks ks2 lp lp2 lu lu2 : List Int} {ct ct2 : Nat} {w w' : World} {Ss Sp Su S2 : Nat → Prop}
theorem Rw.swab (h : Rw r x X ks lp lu ct w Ss Sp Su) (q : Rs X r x.sw ks2 w' S2) (k : Only Ss w w') (g : ∀ d, S2 d → Ss d ∨ w.heap.size ≤ d) : Rw r x (fun i => w'.cell? ⟨r, i, none⟩) ks2 lp lu ct w' S2 Sp Su := by
  have hc : ∀ i, i ≠ 10 → w'.cell? ⟨r, i, none⟩ = w.cell? ⟨r, i, none⟩ := fun i hi => (q.rest i hi).trans (h.cells i).symm
  refine ⟨fun _ => rfl, h.box.same k.size (fun i hi => hc i (by omega)), q.retell, h.sp.other k (fun d hd ht => h.a1 d ht hd) (fun i hi => hc i (by omega)) q.frees, h.su.other k (fun d hd ht => h.a2 d ht hd) (fun i hi => hc i (by omega)) q.frees, fun d h1 h2 => ?_, fun d h1 h2 => ?_, h.a3⟩
  · rcases g d h1 with h3 | h3
    · exact h.a1 d h3 h2
    · have := h.sp.lt d h2; omega
  · rcases g d h1 with h3 | h3
    · exact h.a2 d h3 h2
    · have := h.su.lt d h2; omega
theorem Rw.pack (h : Rw r x X ks lp lu ct w Ss Sp Su) (q : Rp X r x.cb.toNat (ct2 : Int) lp2 w' S2) (k : Only Sp w w') (g : ∀ d, S2 d → Sp d ∨ w.heap.size ≤ d) : Rw r x (fun i => w'.cell? ⟨r, i, none⟩) ks lp2 lu ct2 w' Ss S2 Su := by
  have hc : ∀ i, i ≠ 12 → i ≠ 13 → w'.cell? ⟨r, i, none⟩ = w.cell? ⟨r, i, none⟩ := fun i h1 h2 => (q.rest i h1 h2).trans (h.cells i).symm
  refine ⟨fun _ => rfl, h.box.same k.size (fun i hi => hc i (by omega) (by omega)), h.ss.other k (fun d hd ht => h.a1 d hd ht) (fun i hi => hc i (by omega) (by omega)) q.frees, q.retell, h.su.other k (fun d hd ht => h.a3 d ht hd) (fun i hi => hc i (by omega) (by omega)) q.frees, fun d h1 h2 => ?_, h.a2, fun d h1 h2 => ?_⟩
  · rcases g d h2 with h3 | h3
    · exact h.a1 d h1 h3
    · have := h.ss.lt d h1; omega
  · rcases g d h1 with h3 | h3
    · exact h.a3 d h3 h2
    · have := h.su.lt d h2; omega
theorem Rw.unp (h : Rw r x X ks lp lu ct w Ss Sp Su) (q : Ru X r x.cb.toNat lu2 w' S2) (k : Only Su w w') (g : ∀ d, S2 d → Su d ∨ w.heap.size ≤ d) : Rw r x (fun i => w'.cell? ⟨r, i, none⟩) ks lp lu2 ct w' Ss Sp S2 := by
  have hc : ∀ i, i ≠ 15 → w'.cell? ⟨r, i, none⟩ = w.cell? ⟨r, i, none⟩ := fun i hi => (q.rest i hi).trans (h.cells i).symm
  refine ⟨fun _ => rfl, h.box.same k.size (fun i hi => hc i (by omega)), h.ss.other k (fun d hd ht => h.a2 d hd ht) (fun i hi => hc i (by omega)) q.frees, h.sp.other k (fun d hd ht => h.a3 d hd ht) (fun i hi => hc i (by omega)) q.frees, q.retell, h.a1, fun d h1 h2 => ?_, fun d h1 h2 => ?_⟩
  · rcases g d h2 with h3 | h3
    · exact h.a2 d h1 h3
    · have := h.ss.lt d h1; omega
  · rcases g d h2 with h3 | h3
    · exact h.a3 d h1 h3
    · have := h.sp.lt d h1; omega
end

/-- What is held, and where. -/
def HeldR (x : Cf) (l : List Int) (ct : Nat) (lp lu : List Int) : Prop :=
  (x.blocks = true ∧ lp = l ∧ lu = []) ∨ (x.blocks = false ∧ x.unblocks = true ∧ lp = [] ∧ lu = l ∧ ct = 0) ∨ (x.blocks = false ∧ x.unblocks = false ∧ lp = [] ∧ lu = [] ∧ ct = 0 ∧ l = [])
structure Side (x : Cf) (ks l : List Int) : Prop where
  may : x.may = true
  ak : Are ks
  al : Are l
  ok : x.Ok l
  one : ks.length ≤ 1
  off : x.sw = false → ks = []
/-- .. over its blocks. -/
def Rv (r : Nat) (x : Cf) (ks l : List Int) (ct : Nat) (w : World) (S : Nat → Prop) : Prop :=
  ∃ X lp lu Ss Sp Su, S = Us Ss Sp Su ∧ Rw r x X ks lp lu ct w Ss Sp Su ∧ HeldR x l ct lp lu ∧ Side x ks l
theorem Rv.keeps (r : Nat) (x : Cf) (ks l : List Int) (ct : Nat) : Keeps (Rv r x ks l ct) := by
  refine ⟨fun {w S} h => ?_, fun {w w' S T} h hk hS => ?_⟩
  · obtain ⟨X, lp, lu, Ss, Sp, Su, rfl, h, _⟩ := h
    rintro d (hd | hd | hd)
    · exact h.ss.lt d hd
    · exact h.sp.lt d hd
    · exact h.su.lt d hd
  · obtain ⟨X, lp, lu, Ss, Sp, Su, rfl, h, hh, hs⟩ := h
    have hr : ¬ T r := hS r (.inl h.ss.mine)
    have hl := h.box.lt
    refine ⟨X, lp, lu, Ss, Sp, Su, rfl, ⟨fun i => (hk.cell (p := ⟨r, i, none⟩) hl hr).trans (h.cells i), h.box.only hk hr, (Rs.keeps _ _ _ _).only h.ss hk (fun d hd => hS d (.inl hd)), (Rp.keeps _ _ _ _ _).only h.sp hk (fun d hd => hS d (.inr (.inl hd))), (Ru.keeps _ _ _ _).only h.su hk (fun d hd => hS d (.inr (.inr hd))), h.a1, h.a2, h.a3⟩, hh, hs⟩

/-- Bytes come back: those that went in, or new ones. -/
def RFPost (A : Option Addr) (n c : Nat) (zs os : List Int) (w : World) (e : Ending) (w' : World) : Prop :=
  ∃ A' m c', e = .returned (.slice A' m c') ∧ Below w.heap.size w w' ∧ ((A' = A ∧ m = n ∧ c' = c ∧ zs = os) ∨ (Buf w' A' m c' os ∧ ∀ g o s, A' = some ⟨g, o, s⟩ → w.heap.size ≤ g))
/-- .. of bytes that may be written. -/
theorem RFPost.buf {A : Option Addr} {n c : Nat} {zs os : List Int} {w w' : World} {e : Ending} (h : RFPost A n c zs os w e w') (hB : Buf w A n c zs) : ∃ A' m c', e = .returned (.slice A' m c') ∧ Below w.heap.size w w' ∧ Buf w' A' m c' os ∧ ∀ d, At A' d → At A d ∨ w.heap.size ≤ d := by
  obtain ⟨A', m, c', rfl, k, ⟨rfl, rfl, rfl, rfl⟩ | ⟨hb, hn⟩⟩ := h
  · exact ⟨A', m, c', rfl, k, hB.on k, fun d hd => .inl hd⟩
  · exact ⟨A', m, c', rfl, k, hb, fun d ⟨o, s, he⟩ => .inr (hn d o s he)⟩

set_option maxRecDepth 100000 in
set_option maxHeartbeats 8000000 in
theorem rfirst_any (r : Nat) (x : Cf) (A : Option Addr) (n c : Nat) (zs os : List Int) (w : World) (h : Box w r 0 x) (hB : Bytes w A n c zs) (hz : Are zs) (hn : n ≤ 900000) (ho : mapL x.t1 zs = os) :
    Calls Try.prog 45 #[.pointer (some ⟨r, 0, none⟩), .slice A n c] w (RFPost A n c zs os w) := by
  rw [map_t1 x hz] at ho
  have HO := Lib.hid (show (((bif x.ac then [tbA] else []) ++ (bif x.lc then [lower] else []) ++ (bif x.uc then [upper] else [])) : List (List Int)).foldl (fun a y => mapL y a) zs = os from ho)
  have AZ := Lib.hid hz
  have C0 := Lib.hid rascii_any; have G0 := Lib.hid (show Good tbA from good_asc)
  have C1 := Lib.hid rlower_any; have G1 := Lib.hid (show Good lower from good_lower)
  have C2 := Lib.hid rupper_any; have G2 := Lib.hid (show Good upper from good_upper)
  generalize tbA = ta at *
  generalize lower = tl1 at *
  generalize upper = tu at *
  have B0 := Lib.hid h; have Y0 := Lib.hid hB
  obtain ⟨sw, bl, ub, lc, uc, ac, eb, ib, cb⟩ := x
  simp only at HO
  have c5 := B0.out.c5; have c3 := B0.out.c3; have c4 := B0.out.c4; simp only [Nat.zero_add] at c5 c3 c4
  clear h hB hz ho
  go_enter Try.func45, Try.ntmps45
  cases ac <;> cases lc <;> cases uc
  · go_wp2
    go_ret
    exact ⟨A, n, c, rfl, Below.refl _ _, .inl ⟨rfl, rfl, rfl, HO.out⟩⟩
  · have E0 := Lib.hid (show mapL tu zs = os from by have := HO.out; exact this)
    go_wp2_with fail
    refine (C2.out _).mono ?_
    rintro e u0 ⟨rfl, k⟩
    have U0 := Lib.hid k; have D0 := Lib.hid (B0.out.on k); have F0 := Lib.hid (Y0.out.on k)
    clear k
    clear c5 c3 c4
    go_wp2_with fail
    refine (rmap_any tu A n c zs _ G2.out F0.out AZ.out hn os E0.out).mono ?_
    rintro e v0 ⟨A0, m0, cc0, rfl, q1, q2, k⟩
    have V0 := Lib.hid (U0.out.trans (k.mono U0.out.size)); have BB0 := Lib.hid (D0.out.on k); have Q0 := Lib.hid q1; have N0 := Lib.hid (fun g o s he => Nat.le_trans U0.out.size (q2 g o s he)); have YY0 := Lib.hid q1.bytes.1
    have hl1 : m0 ≤ 900000 := by have h1 := q1.1; have h2 := Y0.out.1; have h3 := E0.out; rw [← h3, map_len] at h1; omega
    clear q1 q2 k
    have c5 := BB0.out.c5; have c3 := BB0.out.c3; have c4 := BB0.out.c4; simp only [Nat.zero_add] at c5 c3 c4
    go_wp2
    go_ret
    exact ⟨A0, m0, cc0, rfl, V0.out, .inr ⟨Q0.out, N0.out⟩⟩
  · have E0 := Lib.hid (show mapL tl1 zs = os from by have := HO.out; exact this)
    go_wp2_with fail
    refine (C1.out _).mono ?_
    rintro e u0 ⟨rfl, k⟩
    have U0 := Lib.hid k; have D0 := Lib.hid (B0.out.on k); have F0 := Lib.hid (Y0.out.on k)
    clear k
    clear c5 c3 c4
    go_wp2_with fail
    refine (rmap_any tl1 A n c zs _ G1.out F0.out AZ.out hn os E0.out).mono ?_
    rintro e v0 ⟨A0, m0, cc0, rfl, q1, q2, k⟩
    have V0 := Lib.hid (U0.out.trans (k.mono U0.out.size)); have BB0 := Lib.hid (D0.out.on k); have Q0 := Lib.hid q1; have N0 := Lib.hid (fun g o s he => Nat.le_trans U0.out.size (q2 g o s he)); have YY0 := Lib.hid q1.bytes.1
    have hl1 : m0 ≤ 900000 := by have h1 := q1.1; have h2 := Y0.out.1; have h3 := E0.out; rw [← h3, map_len] at h1; omega
    clear q1 q2 k
    have c5 := BB0.out.c5; have c3 := BB0.out.c3; have c4 := BB0.out.c4; simp only [Nat.zero_add] at c5 c3 c4
    go_wp2
    go_ret
    exact ⟨A0, m0, cc0, rfl, V0.out, .inr ⟨Q0.out, N0.out⟩⟩
  · obtain ⟨z1, hz1⟩ : ∃ z, mapL tl1 zs = z := ⟨_, rfl⟩
    have E0 := Lib.hid hz1; have R0 := Lib.hid (show Are z1 by rw [← hz1]; exact mapL_are G1.out AZ.out)
    clear hz1
    go_wp2_with fail
    refine (C1.out _).mono ?_
    rintro e u0 ⟨rfl, k⟩
    have U0 := Lib.hid k; have D0 := Lib.hid (B0.out.on k); have F0 := Lib.hid (Y0.out.on k)
    clear k
    clear c5 c3 c4
    go_wp2_with fail
    refine (rmap_any tl1 A n c zs _ G1.out F0.out AZ.out hn z1 E0.out).mono ?_
    rintro e v0 ⟨A0, m0, cc0, rfl, q1, q2, k⟩
    have V0 := Lib.hid (U0.out.trans (k.mono U0.out.size)); have BB0 := Lib.hid (D0.out.on k); have Q0 := Lib.hid q1; have N0 := Lib.hid (fun g o s he => Nat.le_trans U0.out.size (q2 g o s he)); have YY0 := Lib.hid q1.bytes.1
    have hl1 : m0 ≤ 900000 := by have h1 := q1.1; have h2 := Y0.out.1; have h3 := E0.out; rw [← h3, map_len] at h1; omega
    clear q1 q2 k
    have c5 := BB0.out.c5; have c3 := BB0.out.c3; have c4 := BB0.out.c4; simp only [Nat.zero_add] at c5 c3 c4
    have E1 := Lib.hid (show mapL tu z1 = os from by have := HO.out; rw [← E0.out]; exact this)
    go_wp2_with fail
    refine (C2.out _).mono ?_
    rintro e u1 ⟨rfl, k⟩
    have U1 := Lib.hid (V0.out.trans (k.mono V0.out.size)); have D1 := Lib.hid (BB0.out.on k); have F1 := Lib.hid (YY0.out.on k)
    clear k
    clear c5 c3 c4
    go_wp2_with fail
    refine (rmap_any tu A0 m0 cc0 z1 _ G2.out F1.out R0.out hl1 os E1.out).mono ?_
    rintro e v1 ⟨A1, m1, cc1, rfl, q1, q2, k⟩
    have V1 := Lib.hid (U1.out.trans (k.mono U1.out.size)); have BB1 := Lib.hid (D1.out.on k); have Q1 := Lib.hid q1; have N1 := Lib.hid (fun g o s he => Nat.le_trans U1.out.size (q2 g o s he)); have YY1 := Lib.hid q1.bytes.1
    have hl2 : m1 ≤ 900000 := by have h1 := q1.1; have h2 := YY0.out.1; have h3 := E1.out; rw [← h3, map_len] at h1; omega
    clear q1 q2 k
    have c5 := BB1.out.c5; have c3 := BB1.out.c3; have c4 := BB1.out.c4; simp only [Nat.zero_add] at c5 c3 c4
    go_wp2
    go_ret
    exact ⟨A1, m1, cc1, rfl, V1.out, .inr ⟨Q1.out, N1.out⟩⟩
  · have E0 := Lib.hid (show mapL ta zs = os from by have := HO.out; exact this)
    go_wp2_with fail
    refine (C0.out _).mono ?_
    rintro e u0 ⟨rfl, k⟩
    have U0 := Lib.hid k; have D0 := Lib.hid (B0.out.on k); have F0 := Lib.hid (Y0.out.on k)
    clear k
    clear c5 c3 c4
    go_wp2_with fail
    refine (rmap_any ta A n c zs _ G0.out F0.out AZ.out hn os E0.out).mono ?_
    rintro e v0 ⟨A0, m0, cc0, rfl, q1, q2, k⟩
    have V0 := Lib.hid (U0.out.trans (k.mono U0.out.size)); have BB0 := Lib.hid (D0.out.on k); have Q0 := Lib.hid q1; have N0 := Lib.hid (fun g o s he => Nat.le_trans U0.out.size (q2 g o s he)); have YY0 := Lib.hid q1.bytes.1
    have hl1 : m0 ≤ 900000 := by have h1 := q1.1; have h2 := Y0.out.1; have h3 := E0.out; rw [← h3, map_len] at h1; omega
    clear q1 q2 k
    have c5 := BB0.out.c5; have c3 := BB0.out.c3; have c4 := BB0.out.c4; simp only [Nat.zero_add] at c5 c3 c4
    go_wp2
    go_ret
    exact ⟨A0, m0, cc0, rfl, V0.out, .inr ⟨Q0.out, N0.out⟩⟩
  · obtain ⟨z1, hz1⟩ : ∃ z, mapL ta zs = z := ⟨_, rfl⟩
    have E0 := Lib.hid hz1; have R0 := Lib.hid (show Are z1 by rw [← hz1]; exact mapL_are G0.out AZ.out)
    clear hz1
    go_wp2_with fail
    refine (C0.out _).mono ?_
    rintro e u0 ⟨rfl, k⟩
    have U0 := Lib.hid k; have D0 := Lib.hid (B0.out.on k); have F0 := Lib.hid (Y0.out.on k)
    clear k
    clear c5 c3 c4
    go_wp2_with fail
    refine (rmap_any ta A n c zs _ G0.out F0.out AZ.out hn z1 E0.out).mono ?_
    rintro e v0 ⟨A0, m0, cc0, rfl, q1, q2, k⟩
    have V0 := Lib.hid (U0.out.trans (k.mono U0.out.size)); have BB0 := Lib.hid (D0.out.on k); have Q0 := Lib.hid q1; have N0 := Lib.hid (fun g o s he => Nat.le_trans U0.out.size (q2 g o s he)); have YY0 := Lib.hid q1.bytes.1
    have hl1 : m0 ≤ 900000 := by have h1 := q1.1; have h2 := Y0.out.1; have h3 := E0.out; rw [← h3, map_len] at h1; omega
    clear q1 q2 k
    have c5 := BB0.out.c5; have c3 := BB0.out.c3; have c4 := BB0.out.c4; simp only [Nat.zero_add] at c5 c3 c4
    have E1 := Lib.hid (show mapL tu z1 = os from by have := HO.out; rw [← E0.out]; exact this)
    go_wp2_with fail
    refine (C2.out _).mono ?_
    rintro e u1 ⟨rfl, k⟩
    have U1 := Lib.hid (V0.out.trans (k.mono V0.out.size)); have D1 := Lib.hid (BB0.out.on k); have F1 := Lib.hid (YY0.out.on k)
    clear k
    clear c5 c3 c4
    go_wp2_with fail
    refine (rmap_any tu A0 m0 cc0 z1 _ G2.out F1.out R0.out hl1 os E1.out).mono ?_
    rintro e v1 ⟨A1, m1, cc1, rfl, q1, q2, k⟩
    have V1 := Lib.hid (U1.out.trans (k.mono U1.out.size)); have BB1 := Lib.hid (D1.out.on k); have Q1 := Lib.hid q1; have N1 := Lib.hid (fun g o s he => Nat.le_trans U1.out.size (q2 g o s he)); have YY1 := Lib.hid q1.bytes.1
    have hl2 : m1 ≤ 900000 := by have h1 := q1.1; have h2 := YY0.out.1; have h3 := E1.out; rw [← h3, map_len] at h1; omega
    clear q1 q2 k
    have c5 := BB1.out.c5; have c3 := BB1.out.c3; have c4 := BB1.out.c4; simp only [Nat.zero_add] at c5 c3 c4
    go_wp2
    go_ret
    exact ⟨A1, m1, cc1, rfl, V1.out, .inr ⟨Q1.out, N1.out⟩⟩
  · obtain ⟨z1, hz1⟩ : ∃ z, mapL ta zs = z := ⟨_, rfl⟩
    have E0 := Lib.hid hz1; have R0 := Lib.hid (show Are z1 by rw [← hz1]; exact mapL_are G0.out AZ.out)
    clear hz1
    go_wp2_with fail
    refine (C0.out _).mono ?_
    rintro e u0 ⟨rfl, k⟩
    have U0 := Lib.hid k; have D0 := Lib.hid (B0.out.on k); have F0 := Lib.hid (Y0.out.on k)
    clear k
    clear c5 c3 c4
    go_wp2_with fail
    refine (rmap_any ta A n c zs _ G0.out F0.out AZ.out hn z1 E0.out).mono ?_
    rintro e v0 ⟨A0, m0, cc0, rfl, q1, q2, k⟩
    have V0 := Lib.hid (U0.out.trans (k.mono U0.out.size)); have BB0 := Lib.hid (D0.out.on k); have Q0 := Lib.hid q1; have N0 := Lib.hid (fun g o s he => Nat.le_trans U0.out.size (q2 g o s he)); have YY0 := Lib.hid q1.bytes.1
    have hl1 : m0 ≤ 900000 := by have h1 := q1.1; have h2 := Y0.out.1; have h3 := E0.out; rw [← h3, map_len] at h1; omega
    clear q1 q2 k
    have c5 := BB0.out.c5; have c3 := BB0.out.c3; have c4 := BB0.out.c4; simp only [Nat.zero_add] at c5 c3 c4
    have E1 := Lib.hid (show mapL tl1 z1 = os from by have := HO.out; rw [← E0.out]; exact this)
    go_wp2_with fail
    refine (C1.out _).mono ?_
    rintro e u1 ⟨rfl, k⟩
    have U1 := Lib.hid (V0.out.trans (k.mono V0.out.size)); have D1 := Lib.hid (BB0.out.on k); have F1 := Lib.hid (YY0.out.on k)
    clear k
    clear c5 c3 c4
    go_wp2_with fail
    refine (rmap_any tl1 A0 m0 cc0 z1 _ G1.out F1.out R0.out hl1 os E1.out).mono ?_
    rintro e v1 ⟨A1, m1, cc1, rfl, q1, q2, k⟩
    have V1 := Lib.hid (U1.out.trans (k.mono U1.out.size)); have BB1 := Lib.hid (D1.out.on k); have Q1 := Lib.hid q1; have N1 := Lib.hid (fun g o s he => Nat.le_trans U1.out.size (q2 g o s he)); have YY1 := Lib.hid q1.bytes.1
    have hl2 : m1 ≤ 900000 := by have h1 := q1.1; have h2 := YY0.out.1; have h3 := E1.out; rw [← h3, map_len] at h1; omega
    clear q1 q2 k
    have c5 := BB1.out.c5; have c3 := BB1.out.c3; have c4 := BB1.out.c4; simp only [Nat.zero_add] at c5 c3 c4
    go_wp2
    go_ret
    exact ⟨A1, m1, cc1, rfl, V1.out, .inr ⟨Q1.out, N1.out⟩⟩
  · obtain ⟨z1, hz1⟩ : ∃ z, mapL ta zs = z := ⟨_, rfl⟩
    have E0 := Lib.hid hz1; have R0 := Lib.hid (show Are z1 by rw [← hz1]; exact mapL_are G0.out AZ.out)
    clear hz1
    go_wp2_with fail
    refine (C0.out _).mono ?_
    rintro e u0 ⟨rfl, k⟩
    have U0 := Lib.hid k; have D0 := Lib.hid (B0.out.on k); have F0 := Lib.hid (Y0.out.on k)
    clear k
    clear c5 c3 c4
    go_wp2_with fail
    refine (rmap_any ta A n c zs _ G0.out F0.out AZ.out hn z1 E0.out).mono ?_
    rintro e v0 ⟨A0, m0, cc0, rfl, q1, q2, k⟩
    have V0 := Lib.hid (U0.out.trans (k.mono U0.out.size)); have BB0 := Lib.hid (D0.out.on k); have Q0 := Lib.hid q1; have N0 := Lib.hid (fun g o s he => Nat.le_trans U0.out.size (q2 g o s he)); have YY0 := Lib.hid q1.bytes.1
    have hl1 : m0 ≤ 900000 := by have h1 := q1.1; have h2 := Y0.out.1; have h3 := E0.out; rw [← h3, map_len] at h1; omega
    clear q1 q2 k
    have c5 := BB0.out.c5; have c3 := BB0.out.c3; have c4 := BB0.out.c4; simp only [Nat.zero_add] at c5 c3 c4
    obtain ⟨z2, hz2⟩ : ∃ z, mapL tl1 z1 = z := ⟨_, rfl⟩
    have E1 := Lib.hid hz2; have R1 := Lib.hid (show Are z2 by rw [← hz2]; exact mapL_are G1.out R0.out)
    clear hz2
    go_wp2_with fail
    refine (C1.out _).mono ?_
    rintro e u1 ⟨rfl, k⟩
    have U1 := Lib.hid (V0.out.trans (k.mono V0.out.size)); have D1 := Lib.hid (BB0.out.on k); have F1 := Lib.hid (YY0.out.on k)
    clear k
    clear c5 c3 c4
    go_wp2_with fail
    refine (rmap_any tl1 A0 m0 cc0 z1 _ G1.out F1.out R0.out hl1 z2 E1.out).mono ?_
    rintro e v1 ⟨A1, m1, cc1, rfl, q1, q2, k⟩
    have V1 := Lib.hid (U1.out.trans (k.mono U1.out.size)); have BB1 := Lib.hid (D1.out.on k); have Q1 := Lib.hid q1; have N1 := Lib.hid (fun g o s he => Nat.le_trans U1.out.size (q2 g o s he)); have YY1 := Lib.hid q1.bytes.1
    have hl2 : m1 ≤ 900000 := by have h1 := q1.1; have h2 := YY0.out.1; have h3 := E1.out; rw [← h3, map_len] at h1; omega
    clear q1 q2 k
    have c5 := BB1.out.c5; have c3 := BB1.out.c3; have c4 := BB1.out.c4; simp only [Nat.zero_add] at c5 c3 c4
    have E2 := Lib.hid (show mapL tu z2 = os from by have := HO.out; rw [← E1.out]; rw [← E0.out]; exact this)
    go_wp2_with fail
    refine (C2.out _).mono ?_
    rintro e u2 ⟨rfl, k⟩
    have U2 := Lib.hid (V1.out.trans (k.mono V1.out.size)); have D2 := Lib.hid (BB1.out.on k); have F2 := Lib.hid (YY1.out.on k)
    clear k
    clear c5 c3 c4
    go_wp2_with fail
    refine (rmap_any tu A1 m1 cc1 z2 _ G2.out F2.out R1.out hl2 os E2.out).mono ?_
    rintro e v2 ⟨A2, m2, cc2, rfl, q1, q2, k⟩
    have V2 := Lib.hid (U2.out.trans (k.mono U2.out.size)); have BB2 := Lib.hid (D2.out.on k); have Q2 := Lib.hid q1; have N2 := Lib.hid (fun g o s he => Nat.le_trans U2.out.size (q2 g o s he)); have YY2 := Lib.hid q1.bytes.1
    have hl3 : m2 ≤ 900000 := by have h1 := q1.1; have h2 := YY1.out.1; have h3 := E2.out; rw [← h3, map_len] at h1; omega
    clear q1 q2 k
    have c5 := BB2.out.c5; have c3 := BB2.out.c3; have c4 := BB2.out.c4; simp only [Nat.zero_add] at c5 c3 c4
    go_wp2
    go_ret
    exact ⟨A2, m2, cc2, rfl, V2.out, .inr ⟨Q2.out, N2.out⟩⟩

set_option maxRecDepth 100000 in
set_option maxHeartbeats 8000000 in
theorem rlast_any (r : Nat) (x : Cf) (A : Option Addr) (n c : Nat) (zs os : List Int) (w : World) (h : Box w r 0 x) (hB : Bytes w A n c zs) (hz : Are zs) (hn : n ≤ 900000) (ho : mapL x.t2 zs = os) :
    Calls Try.prog 43 #[.pointer (some ⟨r, 0, none⟩), .slice A n c] w (RFPost A n c zs os w) := by
  rw [map_t2 x hz] at ho
  have HO := Lib.hid (show (((bif x.eb then [tbE] else []) ++ (bif x.ib then [tbI] else [])) : List (List Int)).foldl (fun a y => mapL y a) zs = os from ho)
  have AZ := Lib.hid hz
  have C0 := Lib.hid rebcdic_any; have G0 := Lib.hid (show Good tbE from good_tb false)
  have C1 := Lib.hid ribm_any; have G1 := Lib.hid (show Good tbI from good_tb true)
  generalize tbE = te at *
  generalize tbI = ti at *
  have B0 := Lib.hid h; have Y0 := Lib.hid hB
  obtain ⟨sw, bl, ub, lc, uc, ac, eb, ib, cb⟩ := x
  simp only at HO
  have c6 := B0.out.c6; have c7 := B0.out.c7; simp only [Nat.zero_add] at c6 c7
  clear h hB hz ho
  go_enter Try.func43, Try.ntmps43
  cases eb <;> cases ib
  · go_wp2
    go_ret
    exact ⟨A, n, c, rfl, Below.refl _ _, .inl ⟨rfl, rfl, rfl, HO.out⟩⟩
  · have E0 := Lib.hid (show mapL ti zs = os from by have := HO.out; exact this)
    go_wp2_with fail
    refine (C1.out _).mono ?_
    rintro e u0 ⟨rfl, k⟩
    have U0 := Lib.hid k; have D0 := Lib.hid (B0.out.on k); have F0 := Lib.hid (Y0.out.on k)
    clear k
    clear c6 c7
    go_wp2_with fail
    refine (rmap_any ti A n c zs _ G1.out F0.out AZ.out hn os E0.out).mono ?_
    rintro e v0 ⟨A0, m0, cc0, rfl, q1, q2, k⟩
    have V0 := Lib.hid (U0.out.trans (k.mono U0.out.size)); have BB0 := Lib.hid (D0.out.on k); have Q0 := Lib.hid q1; have N0 := Lib.hid (fun g o s he => Nat.le_trans U0.out.size (q2 g o s he)); have YY0 := Lib.hid q1.bytes.1
    have hl1 : m0 ≤ 900000 := by have h1 := q1.1; have h2 := Y0.out.1; have h3 := E0.out; rw [← h3, map_len] at h1; omega
    clear q1 q2 k
    have c6 := BB0.out.c6; have c7 := BB0.out.c7; simp only [Nat.zero_add] at c6 c7
    go_wp2
    go_ret
    exact ⟨A0, m0, cc0, rfl, V0.out, .inr ⟨Q0.out, N0.out⟩⟩
  · have E0 := Lib.hid (show mapL te zs = os from by have := HO.out; exact this)
    go_wp2_with fail
    refine (C0.out _).mono ?_
    rintro e u0 ⟨rfl, k⟩
    have U0 := Lib.hid k; have D0 := Lib.hid (B0.out.on k); have F0 := Lib.hid (Y0.out.on k)
    clear k
    clear c6 c7
    go_wp2_with fail
    refine (rmap_any te A n c zs _ G0.out F0.out AZ.out hn os E0.out).mono ?_
    rintro e v0 ⟨A0, m0, cc0, rfl, q1, q2, k⟩
    have V0 := Lib.hid (U0.out.trans (k.mono U0.out.size)); have BB0 := Lib.hid (D0.out.on k); have Q0 := Lib.hid q1; have N0 := Lib.hid (fun g o s he => Nat.le_trans U0.out.size (q2 g o s he)); have YY0 := Lib.hid q1.bytes.1
    have hl1 : m0 ≤ 900000 := by have h1 := q1.1; have h2 := Y0.out.1; have h3 := E0.out; rw [← h3, map_len] at h1; omega
    clear q1 q2 k
    have c6 := BB0.out.c6; have c7 := BB0.out.c7; simp only [Nat.zero_add] at c6 c7
    go_wp2
    go_ret
    exact ⟨A0, m0, cc0, rfl, V0.out, .inr ⟨Q0.out, N0.out⟩⟩
  · obtain ⟨z1, hz1⟩ : ∃ z, mapL te zs = z := ⟨_, rfl⟩
    have E0 := Lib.hid hz1; have R0 := Lib.hid (show Are z1 by rw [← hz1]; exact mapL_are G0.out AZ.out)
    clear hz1
    go_wp2_with fail
    refine (C0.out _).mono ?_
    rintro e u0 ⟨rfl, k⟩
    have U0 := Lib.hid k; have D0 := Lib.hid (B0.out.on k); have F0 := Lib.hid (Y0.out.on k)
    clear k
    clear c6 c7
    go_wp2_with fail
    refine (rmap_any te A n c zs _ G0.out F0.out AZ.out hn z1 E0.out).mono ?_
    rintro e v0 ⟨A0, m0, cc0, rfl, q1, q2, k⟩
    have V0 := Lib.hid (U0.out.trans (k.mono U0.out.size)); have BB0 := Lib.hid (D0.out.on k); have Q0 := Lib.hid q1; have N0 := Lib.hid (fun g o s he => Nat.le_trans U0.out.size (q2 g o s he)); have YY0 := Lib.hid q1.bytes.1
    have hl1 : m0 ≤ 900000 := by have h1 := q1.1; have h2 := Y0.out.1; have h3 := E0.out; rw [← h3, map_len] at h1; omega
    clear q1 q2 k
    have c6 := BB0.out.c6; have c7 := BB0.out.c7; simp only [Nat.zero_add] at c6 c7
    have E1 := Lib.hid (show mapL ti z1 = os from by have := HO.out; rw [← E0.out]; exact this)
    go_wp2_with fail
    refine (C1.out _).mono ?_
    rintro e u1 ⟨rfl, k⟩
    have U1 := Lib.hid (V0.out.trans (k.mono V0.out.size)); have D1 := Lib.hid (BB0.out.on k); have F1 := Lib.hid (YY0.out.on k)
    clear k
    clear c6 c7
    go_wp2_with fail
    refine (rmap_any ti A0 m0 cc0 z1 _ G1.out F1.out R0.out hl1 os E1.out).mono ?_
    rintro e v1 ⟨A1, m1, cc1, rfl, q1, q2, k⟩
    have V1 := Lib.hid (U1.out.trans (k.mono U1.out.size)); have BB1 := Lib.hid (D1.out.on k); have Q1 := Lib.hid q1; have N1 := Lib.hid (fun g o s he => Nat.le_trans U1.out.size (q2 g o s he)); have YY1 := Lib.hid q1.bytes.1
    have hl2 : m1 ≤ 900000 := by have h1 := q1.1; have h2 := YY0.out.1; have h3 := E1.out; rw [← h3, map_len] at h1; omega
    clear q1 q2 k
    have c6 := BB1.out.c6; have c7 := BB1.out.c7; simp only [Nat.zero_add] at c6 c7
    go_wp2
    go_ret
    exact ⟨A1, m1, cc1, rfl, V1.out, .inr ⟨Q1.out, N1.out⟩⟩

end Go.Proofs.Ytghihmmapignmaa

namespace Go.Proofs.Ytghihmmapignmaa
open Go.RowKit

/-- Bytes come back: those that went in, or new ones; the object is told anew. -/
def RLPost (P : World → (Nat → Prop) → Prop) (S : Nat → Prop) (A : Option Addr) (n c : Nat) (zs os : List Int) (w : World) (e : Ending) (w' : World) : Prop :=
  ∃ A' m c' S', e = .returned (.slice A' m c') ∧ P w' S' ∧ Only S w w' ∧ (∀ d, S' d → S d ∨ w.heap.size ≤ d) ∧ ((A' = A ∧ m = n ∧ c' = c ∧ zs = os) ∨ (Buf w' A' m c' os ∧ ∀ g o s, A' = some ⟨g, o, s⟩ → w.heap.size ≤ g ∧ ¬ S' g))

theorem cb_K {x : Cf} (hm : x.may = true) (h : x.blocks = true ∨ x.unblocks = true) : x.cb.toNat = x.K ∧ 1 ≤ x.K ∧ x.K ≤ 4096 := by
  have h1 := (Cf.fit hm).pos h
  have h2 := (Cf.fit hm).le
  have h3 := kOf_pos x.cb
  refine ⟨?_, h3⟩
  unfold Cf.K kOf
  rw [if_neg (by omega), if_neg (by omega)]

set_option maxHeartbeats 4000000 in
theorem rlines_any (r : Nat) (x : Cf) (ks l : List Int) (ct : Nat) (S : Nat → Prop) (A : Option Addr) (n c : Nat) (zs os l2 : List Int) (ct2 : Nat) (w : World) (h : Rv r x ks l ct w S) (hB : Bytes w A n c zs) (hA : ∀ g o, A = some ⟨g, o, none⟩ → 0 < n → ¬ S g) (hare : Are zs) (hcb : x.cb ≤ 500) (hn : n ≤ 1700) (hl : l.length ≤ 100000) (hct : ct ≤ 100000)
    (ho : x.rOut l zs = os) (hl2 : x.rRest l zs = l2) (hc2 : ct + x.rCut l zs = ct2) :
    Calls Try.prog 44 #[.pointer (some ⟨r, 0, none⟩), .slice A n c] w (RLPost (Rv r x ks l2 ct2) S A n c zs os w) := by
  obtain ⟨X, lp, lu, Ss, Sp, Su, rfl, hw, hh, hs⟩ := h
  have SD := Lib.hid (show Side x ks l2 from ⟨hs.may, hs.ak, by rw [← hl2]; exact are_rRest x hs.al hare, by rw [← hl2]; exact ok_rest x zs hs.ok, hs.one, hs.off⟩)
  have S0 := Lib.hid hs
  have HW := Lib.hid hw; have HB := Lib.hid hB; have HA := Lib.hid hA
  have CB := Lib.hid (rblocks_any x); have CU := Lib.hid (runblocks_any x)
  have hKc := fun h => cb_K hs.may h
  have hK := K_le hcb
  have hKn : x.K * n ≤ 900000 := Nat.le_trans (Nat.mul_le_mul hK hn) (by decide)
  clear hw hB hA hs hare
  obtain ⟨_, c0, c1, c2, c3, c4, c5, c6, c7, c8⟩ := HW.out.box
  simp only [Nat.zero_add] at c1 c2 c3 c4 c5 c6 c7 c8
  go_enter Try.func44, Try.ntmps44
  go_wp2_with fail
  refine (CB.out _).mono ?_
  rintro e w1 ⟨rfl, k1⟩
  have K1 := Lib.hid k1
  have C1 := Lib.hid (show ∀ i, w1.cell? ⟨r, i, none⟩ = X i from fun i => (k1.cell (p := ⟨r, i, none⟩) HW.out.box.lt).trans (HW.out.cells i))
  have W1 := Lib.hid (show Rw r x X ks lp lu ct w1 Ss Sp Su from ⟨C1.out, HW.out.box.on k1, (Rs.keeps _ _ _ _).on HW.out.ss k1, (Rp.keeps _ _ _ _ _).on HW.out.sp k1, (Ru.keeps _ _ _ _).on HW.out.su k1, HW.out.a1, HW.out.a2, HW.out.a3⟩)
  have B1 := Lib.hid (HB.out.on k1)
  clear k1 c0 c1 c2 c3 c4 c5 c6 c7 c8 C1
  rcases hh with ⟨h1, rfl, rfl⟩ | ⟨h1, h2, rfl, rfl, rfl⟩ | ⟨h1, h2, rfl, rfl, rfl, rfl⟩
  · obtain ⟨e1, e2, e3⟩ := hKc (.inl h1)
    have EO := Lib.hid (show pOut x.K lp zs = os by rw [← ho, Cf.rOut, h1]; rfl)
    have EL := Lib.hid (show pLine lp zs = l2 by rw [← hl2, Cf.rRest, h1]; rfl)
    have EC := Lib.hid (show ct + pCut x.K lp zs = ct2 by rw [← hc2, Cf.rCut, h1]; rfl)
    have H1 := Lib.hid h1
    have SP := Lib.hid W1.out.sp
    rw [e1] at SP
    rw [h1]
    clear ho hl2 hc2 h1
    go_wp2_with fail
    refine (rputp_any X r x.K lp ct Sp A n c zs os l2 ct2 w1 SP.out ⟨e2, e3⟩ B1.out (fun g o he hp hg => HA.out g o he hp (.inr (.inl hg))) (by omega) hKn (by omega) EO.out EL.out EC.out).mono ?_
    rintro e w2 ⟨A2, m2, cc2, S2, rfl, q1, q2, q3, q4, q5⟩
    rw [← e1] at q3
    have F := Lib.hid (show RLPost (Rv r x ks l2 ct2) (Us Ss Sp Su) A n c zs os w (.returned (.slice A2 m2 cc2)) w2 from by
      have hs1 := K1.out.size
      refine ⟨A2, m2, cc2, Us Ss S2 Su, rfl, ⟨_, l2, [], Ss, S2, Su, rfl, W1.out.pack q3 q4 q5, .inl ⟨H1.out, rfl, rfl⟩, SD.out⟩, (Only.of_below K1.out).trans (T := Sp) q4 (fun d hd _ => .inr (.inl hd)), ?_, .inr ⟨q1, fun g o s he => ?_⟩⟩
      · rintro d (hd | hd | hd)
        · exact .inl (.inl hd)
        · rcases q5 d hd with h | h
          · exact .inl (.inr (.inl h))
          · exact .inr (Nat.le_trans hs1 h)
        · exact .inl (.inr (.inr hd))
      · have h1 := q2 g o s he
        refine ⟨by omega, ?_⟩
        rintro (hd | hd | hd)
        · have := W1.out.ss.lt g hd; omega
        · exact h1.2 hd
        · have := W1.out.su.lt g hd; omega)
    clear q1 q2 q3 q4 q5
    go_wp2
    go_ret
    exact F.out
  · obtain ⟨e1, e2, e3⟩ := hKc (.inr h2)
    have EO := Lib.hid (show uOut x.K lu zs = os by rw [← ho, Cf.rOut, h1, h2]; rfl)
    have EL := Lib.hid (show uRest x.K lu zs = l2 by rw [← hl2, Cf.rRest, h1, h2]; rfl)
    obtain rfl : ct2 = 0 := by rw [← hc2, Cf.rCut, h1]; rfl
    have hlt : lu.length < x.K := by have := S0.out.ok; rw [Cf.Ok, h1, h2] at this; exact this
    have H1 := Lib.hid h1; have H2 := Lib.hid h2
    obtain ⟨_, c0, c1, c2, c3, c4, c5, c6, c7, c8⟩ := W1.out.box
    simp only [Nat.zero_add] at c1 c2 c3 c4 c5 c6 c7 c8
    rw [h1]
    clear ho hl2 hc2 h1
    go_wp2_with fail
    refine (CU.out _).mono ?_
    rintro e w2 ⟨rfl, k2⟩
    have C2 := Lib.hid (show ∀ i, w2.cell? ⟨r, i, none⟩ = X i from fun i => (k2.cell (p := ⟨r, i, none⟩) W1.out.box.lt).trans (W1.out.cells i))
    have W2 := Lib.hid (show Rw r x X ks [] lu 0 w2 Ss Sp Su from ⟨C2.out, W1.out.box.on k2, (Rs.keeps _ _ _ _).on W1.out.ss k2, (Rp.keeps _ _ _ _ _).on W1.out.sp k2, (Ru.keeps _ _ _ _).on W1.out.su k2, W1.out.a1, W1.out.a2, W1.out.a3⟩)
    have B2 := Lib.hid (B1.out.on k2); have K2 := Lib.hid (K1.out.trans (k2.mono K1.out.size))
    have SU := Lib.hid W2.out.su
    rw [e1] at SU
    rw [h2]
    clear k2 c0 c1 c2 c3 c4 c5 c6 c7 c8 C2 h2 W1 B1 K1
    go_wp2_with fail
    refine (rputu_any X r x.K lu Su A n c zs os l2 w2 SU.out ⟨e2, e3⟩ B2.out (fun g o he hp hg => HA.out g o he hp (.inr (.inr hg))) hlt (by omega) EO.out EL.out).mono ?_
    rintro e w3 ⟨A2, m2, cc2, S2, rfl, q1, q2, q3, q4, q5⟩
    rw [← e1] at q3
    have F := Lib.hid (show RLPost (Rv r x ks l2 0) (Us Ss Sp Su) A n c zs os w (.returned (.slice A2 m2 cc2)) w3 from by
      have hs1 := K2.out.size
      refine ⟨A2, m2, cc2, Us Ss Sp S2, rfl, ⟨_, [], l2, Ss, Sp, S2, rfl, W2.out.unp q3 q4 q5, .inr (.inl ⟨H1.out, H2.out, rfl, rfl, rfl⟩), SD.out⟩, (Only.of_below K2.out).trans (T := Su) q4 (fun d hd _ => .inr (.inr hd)), ?_, .inr ⟨q1, fun g o s he => ?_⟩⟩
      · rintro d (hd | hd | hd)
        · exact .inl (.inl hd)
        · exact .inl (.inr (.inl hd))
        · rcases q5 d hd with h | h
          · exact .inl (.inr (.inr h))
          · exact .inr (Nat.le_trans hs1 h)
      · have h1 := q2 g o s he
        refine ⟨by omega, ?_⟩
        rintro (hd | hd | hd)
        · have := W2.out.ss.lt g hd; omega
        · have := W2.out.sp.lt g hd; omega
        · exact h1.2 hd)
    clear q1 q2 q3 q4 q5
    go_wp2
    go_ret
    exact F.out
  · obtain rfl : zs = os := by rw [← ho, Cf.rOut, h1, h2]; rfl
    obtain rfl : [] = l2 := by rw [← hl2, Cf.rRest, h1, h2]; rfl
    obtain rfl : ct2 = 0 := by rw [← hc2, Cf.rCut, h1]; rfl
    have H1 := Lib.hid h1; have H2 := Lib.hid h2
    obtain ⟨_, c0, c1, c2, c3, c4, c5, c6, c7, c8⟩ := W1.out.box
    simp only [Nat.zero_add] at c1 c2 c3 c4 c5 c6 c7 c8
    rw [h1]
    clear ho hl2 hc2 h1
    go_wp2_with fail
    refine (CU.out _).mono ?_
    rintro e w2 ⟨rfl, k2⟩
    have C2 := Lib.hid (show ∀ i, w2.cell? ⟨r, i, none⟩ = X i from fun i => (k2.cell (p := ⟨r, i, none⟩) W1.out.box.lt).trans (W1.out.cells i))
    have W2 := Lib.hid (show Rw r x X ks [] [] 0 w2 Ss Sp Su from ⟨C2.out, W1.out.box.on k2, (Rs.keeps _ _ _ _).on W1.out.ss k2, (Rp.keeps _ _ _ _ _).on W1.out.sp k2, (Ru.keeps _ _ _ _).on W1.out.su k2, W1.out.a1, W1.out.a2, W1.out.a3⟩)
    have K2 := Lib.hid (K1.out.trans (k2.mono K1.out.size))
    rw [h2]
    clear k2 c0 c1 c2 c3 c4 c5 c6 c7 c8 C2 h2 W1 B1 K1
    go_wp2
    go_ret
    exact ⟨A, n, c, Us Ss Sp Su, rfl, ⟨X, [], [], Ss, Sp, Su, rfl, W2.out, .inr (.inr ⟨H1.out, H2.out, rfl, rfl, rfl, rfl⟩), SD.out⟩, Only.of_below K2.out, fun d hd => .inl hd, .inl ⟨rfl, rfl, rfl, rfl⟩⟩

/-- On the way: the object, what it may have changed, the bytes. -/
structure RGo (w : World) (S B : Nat → Prop) (P : World → (Nat → Prop) → Prop) (z : List Int) (wr : World) (A : Option Addr) (m c : Nat) (S' : Nat → Prop) : Prop where
  obj : P wr S'
  only : Only S w wr
  grow : ∀ d, S' d → S d ∨ w.heap.size ≤ d
  buf : Buf wr A m c z
  new : ∀ d, At A d → B d ∧ ¬ S' d
  more : ∀ d, w.heap.size ≤ d → B d
section
variable {w : World} {S B S' S2 : Nat → Prop} {P P2 : World → (Nat → Prop) → Prop} {z os : List Int} {wr w2 : World} {A : Option Addr} {m c : Nat} {e : Ending}
theorem RGo.first (h : RGo w S B P z wr A m c S') (kP : Keeps P) (q : RFPost A m c z os wr e w2) : ∃ A2 m2 c2, e = .returned (.slice A2 m2 c2) ∧ RGo w S B P os w2 A2 m2 c2 S' := by
  obtain ⟨A2, m2, c2, rfl, k, hb, hn⟩ := q.buf h.buf
  refine ⟨A2, m2, c2, rfl, ⟨kP.on h.obj k, h.only.trans (T := fun _ => False) (Only.of_below k) (fun d h _ => h.elim), h.grow, hb, fun d hd => ?_, h.more⟩⟩
  rcases hn d hd with h1 | h1
  · exact h.new d h1
  · exact ⟨h.more d (Nat.le_trans h.only.size h1), fun hs => by have := kP.lt h.obj d hs; omega⟩
theorem RGo.lines (h : RGo w S B P z wr A m c S') (q : RLPost P2 S' A m c z os wr e w2) : ∃ A2 m2 c2 S2, e = .returned (.slice A2 m2 c2) ∧ RGo w S B P2 os w2 A2 m2 c2 S2 := by
  obtain ⟨A2, m2, c2, S2, rfl, p1, o1, g1, q⟩ := q
  have o2 : Only S w w2 := h.only.trans o1 (fun d hd hl => (h.grow d hd).elim id (fun h => by omega))
  have g2 : ∀ d, S2 d → S d ∨ w.heap.size ≤ d := fun d hd => by
    rcases g1 d hd with h1 | h1
    · exact h.grow d h1
    · exact .inr (Nat.le_trans h.only.size h1)
  rcases q with ⟨rfl, rfl, rfl, rfl⟩ | ⟨hb, hn⟩
  · refine ⟨A2, m2, c2, S2, rfl, ⟨p1, o2, g2, h.buf.only o1 (fun g o s he hg => (h.new g ⟨o, s, he⟩).2 hg), fun d hd => ⟨(h.new d hd).1, fun hs => ?_⟩, h.more⟩⟩
    rcases g1 d hs with h1 | h1
    · exact (h.new d hd).2 h1
    · obtain ⟨o, s, he⟩ := hd; have := h.buf.at d o s he; omega
  · exact ⟨A2, m2, c2, S2, rfl, ⟨p1, o2, g2, hb, fun d ⟨o, s, he⟩ => ⟨h.more d (Nat.le_trans h.only.size (hn d o s he).1), (hn d o s he).2⟩, h.more⟩⟩
/-- The object alone goes on. -/
theorem RGo.next (h : RGo w S B P z wr A m c S') (p1 : P2 w2 S2) (o1 : Only S' wr w2) (g1 : ∀ d, S2 d → S' d ∨ wr.heap.size ≤ d) : RGo w S B P2 z w2 A m c S2 := by
  refine ⟨p1, h.only.trans o1 (fun d hd hl => (h.grow d hd).elim id (fun h => by omega)), fun d hd => ?_, h.buf.only o1 (fun g o s he hg => (h.new g ⟨o, s, he⟩).2 hg), fun d hd => ⟨(h.new d hd).1, fun hs => ?_⟩, h.more⟩
  · rcases g1 d hd with h1 | h1
    · exact h.grow d h1
    · exact .inr (Nat.le_trans h.only.size h1)
  · rcases g1 d hs with h1 | h1
    · exact (h.new d hd).2 h1
    · obtain ⟨o, s, he⟩ := hd; have := h.buf.at d o s he; omega
theorem RGo.on (h : RGo w S B P z wr A m c S') (kP : Keeps P) (k : Below wr.heap.size wr w2) : RGo w S B P z w2 A m c S' :=
  ⟨kP.on h.obj k, h.only.trans (T := fun _ => False) (Only.of_below k) (fun _ h _ => h.elim), h.grow, h.buf.on k, h.new, h.more⟩
theorem RGo.append {A2 : Option Addr} {m2 c2 : Nat} (h : RGo w S B P z wr A m c S') (kP : Keeps P) (hB : ∀ d, B d → d < w.heap.size → S d) (q1 : Buf w2 A2 m2 c2 os) (q2 : Only (fun d => ∃ o s, A = some ⟨d, o, s⟩) wr w2) (q3 : A2 = A ∨ A2 = some ⟨wr.heap.size, 0, none⟩) : RGo w S B P os w2 A2 m2 c2 S' := by
  refine ⟨kP.only h.obj q2 (fun d hd ha => (h.new d ha).2 hd), h.only.trans q2 (fun d hd hl => hB d (h.new d hd).1 hl), h.grow, q1, fun d hd => ?_, h.more⟩
  rcases q3 with rfl | rfl
  · exact h.new d hd
  · obtain ⟨o, s, he⟩ := hd
    injection he with he; injection he with he
    exact ⟨h.more d (by have := h.only.size; omega), fun hs => by have := kP.lt h.obj d hs; omega⟩
end

end Go.Proofs.Ytghihmmapignmaa

namespace Go.Proofs.Ytghihmmapignmaa
open Go.RowKit

theorem Rv.box {r : Nat} {x : Cf} {ks l : List Int} {ct : Nat} {w : World} {S : Nat → Prop} (h : Rv r x ks l ct w S) : Box w r 0 x := by
  obtain ⟨_, _, _, _, _, _, _, h, _⟩ := h
  exact h.box
theorem Rv.cut {r : Nat} {x : Cf} {ks l : List Int} {ct : Nat} {w : World} {S : Nat → Prop} (h : Rv r x ks l ct w S) : w.cell? ⟨r, 12, none⟩ = some (.int .i64 (ct : Nat)) := by
  obtain ⟨_, _, _, _, _, _, _, h, _⟩ := h
  exact h.sp.cut
theorem Rv.side {r : Nat} {x : Cf} {ks l : List Int} {ct : Nat} {w : World} {S : Nat → Prop} (h : Rv r x ks l ct w S) : Side x ks l := by
  obtain ⟨_, _, _, _, _, _, _, _, _, h⟩ := h
  exact h

set_option maxHeartbeats 4000000 in
theorem rputc_any (r : Nat) (x : Cf) (ks l : List Int) (ct : Nat) (S : Nat → Prop) (A : Option Addr) (n c : Nat) (zs os ks2 l2 : List Int) (ct2 : Nat) (w : World) (h : Rv r x ks l ct w S) (hB : Bytes w A n c zs) (hN : A = none → n = 0 ∧ c = 0) (hare : Are zs) (hcb : x.cb ≤ 500) (hn : n ≤ 1600) (hl : l.length ≤ 100000) (hct : ct ≤ 100000)
    (ho : x.cO ks l zs = os) (hk2 : x.cK ks zs = ks2) (hl2 : x.cL ks l zs = l2) (hc2 : ct + x.cC ks l zs = ct2) :
    Calls Try.prog 19 #[.pointer (some ⟨r, 0, none⟩), .slice A n c] w (Gives (Rv r x ks2 l2 ct2) S os w) := by
  obtain ⟨X, lp, lu, Ss, Sp, Su, rfl, hw, hh, hs⟩ := h
  obtain ⟨z1, hz1⟩ : ∃ z1, tn x.sw (ks ++ zs) = z1 := ⟨_, rfl⟩
  have hzl : z1.length ≤ 1700 := by
    have h1 := tn_le x.sw (ks ++ zs); have h2 := hs.one; have h3 := hB.1
    rw [hz1, List.length_append] at h1
    omega
  have AK := Lib.hid (hs.ak.append hare)
  have R1 := Lib.hid (show Are z1 by rw [← hz1]; exact are_tn _ AK.out)
  have SD := Lib.hid (show Side x ks2 l from ⟨hs.may, by rw [← hk2]; exact are_od _ AK.out, hs.al, hs.ok, by rw [← hk2]; exact od_len _ _, fun h => by rw [← hk2, Cf.cK, h]; rfl⟩)
  obtain ⟨z2, hz2⟩ : ∃ z2, mapL x.t1 z1 = z2 := ⟨_, rfl⟩
  have hz2l : z2.length ≤ 1700 := by rw [← hz2, map_len]; exact hzl
  have R2 := Lib.hid (show Are z2 by rw [← hz2]; exact mapL_are (good_t1 x) R1.out)
  obtain ⟨z3, hz3⟩ : ∃ z3, x.rOut l z2 = z3 := ⟨_, rfl⟩
  have hz3l : z3.length ≤ 900000 := by have := rOut_le hcb l z2 hs.ok; rw [hz3] at this; omega
  have R3 := Lib.hid (show Are z3 by rw [← hz3]; exact are_rOut x hs.al R2.out)
  have E1 := Lib.hid hz1; have E2 := Lib.hid (show od x.sw (ks ++ zs) = ks2 from hk2); have E3 := Lib.hid hz2; have E4 := Lib.hid hz3
  have E5 := Lib.hid (show x.rRest l z2 = l2 by rw [← hl2, ← hz2, ← hz1]; rfl)
  have E6 := Lib.hid (show ct + x.rCut l z2 = ct2 by rw [← hc2, ← hz2, ← hz1]; rfl)
  have E7 := Lib.hid (show mapL x.t2 z3 = os by rw [← ho, ← hz3, ← hz2, ← hz1]; rfl)
  have HW := Lib.hid hw; have HB := Lib.hid hB; have HN := Lib.hid hN; have HH := Lib.hid hh; have HS := Lib.hid hs
  clear hw hB hN hh hs hare hz1 hz2 hz3 ho hk2 hl2 hc2
  go_enter Try.func19, Try.ntmps19
  go_wp2_with fail
  refine (rput_any X r Ss x.sw ks A n c zs z1 ks2 w HW.out.ss HS.out.one HS.out.off HB.out HN.out (by omega) E1.out E2.out).mono ?_
  rintro e w1 ⟨A1, m1, cc1, S1, rfl, q1, q2, q3, q4, q5⟩
  obtain rfl : m1 = z1.length := q1.1.symm
  have G1 := Lib.hid (show RGo w (Us Ss Sp Su) (fun d => w.heap.size ≤ d) (Rv r x ks2 l ct) z1 w1 A1 z1.length cc1 (Us S1 Sp Su) from by
    refine ⟨⟨_, lp, lu, S1, Sp, Su, rfl, HW.out.swab q3 q4 q5, HH.out, SD.out⟩, q4.mono (fun d hd => .inl hd), ?_, q1, fun d ⟨o, s, he⟩ => ⟨(q2 d o s he).1, ?_⟩, fun d hd => hd⟩
    · rintro d (hd | hd | hd)
      · rcases q5 d hd with h | h
        · exact .inl (.inl h)
        · exact .inr h
      · exact .inl (.inr (.inl hd))
      · exact .inl (.inr (.inr hd))
    · have h1 := q2 d o s he
      rintro (hd | hd | hd)
      · exact h1.2 hd
      · have := HW.out.sp.lt d hd; omega
      · have := HW.out.su.lt d hd; omega)
  clear q1 q2 q3 q4 q5
  go_wp2_with fail
  refine (rfirst_any r x A1 z1.length cc1 z1 z2 w1 G1.out.obj.box G1.out.buf.bytes.1 R1.out (by omega) E3.out).mono ?_
  rintro e w2 q
  obtain ⟨A2, m2, cc2, rfl, g2⟩ := G1.out.first (Rv.keeps _ _ _ _ _) q
  obtain rfl : m2 = z2.length := g2.buf.1.symm
  have G2 := Lib.hid g2
  clear q g2 G1
  go_wp2_with fail
  refine (rlines_any r x ks2 l ct (Us S1 Sp Su) A2 z2.length cc2 z2 z3 l2 ct2 w2 G2.out.obj G2.out.buf.bytes.1 (fun g o he _ hg => (G2.out.new g ⟨o, none, he⟩).2 hg) R2.out hcb hz2l hl hct E4.out E5.out E6.out).mono ?_
  rintro e w3 q
  obtain ⟨A3, m3, cc3, S3, rfl, g3⟩ := G2.out.lines q
  obtain rfl : m3 = z3.length := g3.buf.1.symm
  have G3 := Lib.hid g3
  clear q g3 G2
  go_wp2_with fail
  refine (rlast_any r x A3 z3.length cc3 z3 os w3 G3.out.obj.box G3.out.buf.bytes.1 R3.out hz3l E7.out).mono ?_
  rintro e w4 q
  obtain ⟨A4, m4, cc4, rfl, g4⟩ := G3.out.first (Rv.keeps _ _ _ _ _) q
  have G4 := Lib.hid g4
  clear q g4 G3
  go_wp2
  go_ret
  exact ⟨A4, m4, cc4, S3, rfl, G4.out.buf, fun g o s he => G4.out.new g ⟨o, s, he⟩, G4.out.obj, G4.out.only, G4.out.grow⟩

/-- Bytes come back that are its own no more. -/
def GivesR (P : World → (Nat → Prop) → Prop) (S : Nat → Prop) (os : List Int) (w : World) (e : Ending) (w' : World) : Prop :=
  ∃ A m c S', e = .returned (.slice A m c) ∧ Buf w' A m c os ∧ P w' S' ∧ Only S w w' ∧ ∀ d, S' d → S d ∨ w.heap.size ≤ d
theorem RGo.gives {w : World} {S B : Nat → Prop} {P : World → (Nat → Prop) → Prop} {z : List Int} {wr : World} {A : Option Addr} {m c : Nat} {S' : Nat → Prop} (h : RGo w S B P z wr A m c S') : GivesR P S z w (.returned (.slice A m c)) wr := ⟨A, m, c, S', rfl, h.buf, h.obj, h.only, h.grow⟩

set_option maxHeartbeats 8000000 in
theorem rendc_any (r : Nat) (x : Cf) (ks l : List Int) (ct : Nat) (S : Nat → Prop) (os : List Int) (ct2 : Nat) (w : World) (h : Rv r x ks l ct w S) (hcb : x.cb ≤ 500) (hl : l.length ≤ 50000) (hct : ct ≤ 50000)
    (ho : x.eO ks l = os) (hc2 : ct + x.eC ks l = ct2) :
    Calls Try.prog 22 #[.pointer (some ⟨r, 0, none⟩)] w (GivesR (Rv r x [] [] ct2) S os w) := by
  obtain ⟨X, lp, lu, Ss, Sp, Su, rfl, hw, hh, hs⟩ := h
  have hk := hs.one
  obtain ⟨z2, hz2⟩ : ∃ z2, mapL x.t1 ks = z2 := ⟨_, rfl⟩
  have hz2l : z2.length ≤ 1 := by rw [← hz2, map_len]; exact hk
  have AM : Are z2 := by rw [← hz2]; exact mapL_are (good_t1 x) hs.ak
  obtain ⟨z3, hz3⟩ : ∃ z3, x.rOut l z2 = z3 := ⟨_, rfl⟩
  have hz3l : z3.length ≤ 1000 := by have := rOut_le hcb l z2 hs.ok; rw [hz3] at this; omega
  obtain ⟨l1, hl1e⟩ : ∃ l1, x.rRest l z2 = l1 := ⟨_, rfl⟩
  obtain ⟨ct1, hc1⟩ : ∃ ct1, ct + x.rCut l z2 = ct1 := ⟨_, rfl⟩
  obtain ⟨o1, ho1⟩ : ∃ o1, mapL x.t2 z3 = o1 := ⟨_, rfl⟩
  obtain ⟨o2, ho2e⟩ : ∃ o2, x.rEnd l1 = o2 := ⟨_, rfl⟩
  obtain ⟨o3, ho3⟩ : ∃ o3, mapL x.t2 o2 = o3 := ⟨_, rfl⟩
  have AL1 : Are l1 := by rw [← hl1e]; exact are_rRest x hs.al AM
  have OK1 : x.Ok l1 := by rw [← hl1e]; exact ok_rest x _ hs.ok
  have hl1 : l1.length ≤ 100000 := by have := rRest_le hcb l z2 hs.ok; rw [hl1e] at this; omega
  have hct1 : ct1 ≤ 100000 := by have := rCut_le x l z2; omega
  have ho2 : o2.length ≤ 1000 := by have := rEnd_le hcb l1 OK1; rw [ho2e] at this; omega
  have ho1l : o1.length ≤ 1000 := by rw [← ho1, map_len]; exact hz3l
  have ho3l : o3.length ≤ 1000 := by rw [← ho3, map_len]; exact ho2
  have R2 := Lib.hid AM; have R3 := Lib.hid (show Are z3 by rw [← hz3]; exact are_rOut x hs.al AM); have RO := Lib.hid (show Are o2 by rw [← ho2e]; exact are_rEnd x AL1)
  have E2 := Lib.hid hz2; have E3 := Lib.hid hz3; have E4 := Lib.hid hl1e; have E5 := Lib.hid hc1; have E6 := Lib.hid ho1; have E7 := Lib.hid ho3
  have heL : x.eL ks l = l1 := by unfold Cf.eL; rw [hz2, hl1e]
  have EO := Lib.hid (show o1 ++ o3 = os by rw [← ho, Cf.eO, Cf.eB, Cf.eA, heL, hz2, hz3, ho1, ho2e, ho3])
  have EC := Lib.hid (show ct1 + x.rOver l1 = ct2 by rw [← hc2, Cf.eC, heL, hz2, ← hc1]; omega)
  have ER := Lib.hid ho2e
  have AK := Lib.hid hs.ak; have HM := Lib.hid hs.may
  have SD := Lib.hid (show Side x [] l from ⟨hs.may, Are.nil, hs.al, hs.ok, by simp, fun _ => rfl⟩)
  have SZ := Lib.hid (show Side x [] [] from ⟨hs.may, Are.nil, Are.nil, ok_nil x, by simp, fun _ => rfl⟩)
  have HW := Lib.hid hw; have HH := Lib.hid hh
  have CB := Lib.hid (rblocks_any x); have CU := Lib.hid (runblocks_any x)
  have hKc := Lib.hid (fun h => cb_K hs.may h)
  have OK1 := Lib.hid OK1
  clear hw hh hs hz2 hz3 hl1e hc1 ho1 ho2e ho3 ho hc2 AM AL1 heL
  go_enter Try.func22, Try.ntmps22
  go_wp2_with fail
  refine (rend_any X r Ss x.sw ks w HW.out.ss).mono ?_
  rintro e w1 ⟨A1, m1, cc1, rfl, q1, q2, q3, q4⟩
  obtain rfl : m1 = ks.length := q1.1.symm
  have G1 := Lib.hid (show RGo w (Us Ss Sp Su) (fun d => Us Ss Sp Su d ∨ w.heap.size ≤ d) (Rv r x [] l ct) ks w1 A1 ks.length cc1 (Us (fun d => d = r) Sp Su) from by
    have hr := HW.out.ss.mine
    refine ⟨⟨_, lp, lu, _, Sp, Su, rfl, HW.out.swab q3 (q4.mono (fun d hd => by rw [hd]; exact hr)) (fun d hd => .inl (by rw [hd]; exact hr)), HH.out, SD.out⟩, q4.mono (fun d hd => by rw [hd]; exact .inl hr), ?_, q1, fun d ⟨o, s, he⟩ => ⟨.inl (.inl (q2 d o s he).1), ?_⟩, fun d hd => .inr hd⟩
    · rintro d (hd | hd | hd)
      · rw [hd]; exact .inl (.inl hr)
      · exact .inl (.inr (.inl hd))
      · exact .inl (.inr (.inr hd))
    · have h1 := q2 d o s he
      rintro (hd | hd | hd)
      · exact h1.2 hd
      · exact h1.2 (HW.out.a1 d h1.1 hd)
      · exact h1.2 (HW.out.a2 d h1.1 hd))
  have BI := Lib.hid (show ∀ d, (Us Ss Sp Su d ∨ w.heap.size ≤ d) → d < w.heap.size → Us Ss Sp Su d from fun d hd hl => hd.elim id (fun h => by omega))
  clear q1 q2 q3 q4 HW HH
  go_wp2_with fail
  refine (rfirst_any r x A1 ks.length cc1 ks z2 w1 G1.out.obj.box G1.out.buf.bytes.1 AK.out (by omega) E2.out).mono ?_
  rintro e w2 q
  obtain ⟨A2, m2, cc2, rfl, g2⟩ := G1.out.first (Rv.keeps _ _ _ _ _) q
  obtain rfl : m2 = z2.length := g2.buf.1.symm
  have G2 := Lib.hid g2
  clear q g2 G1
  go_wp2_with fail
  refine (rlines_any r x [] l ct _ A2 z2.length cc2 z2 z3 l1 ct1 w2 G2.out.obj G2.out.buf.bytes.1 (fun g o he _ hg => (G2.out.new g ⟨o, none, he⟩).2 hg) R2.out hcb (by omega) (by omega) (by omega) E3.out E4.out E5.out).mono ?_
  rintro e w3 q
  obtain ⟨A3, m3, cc3, S3, rfl, g3⟩ := G2.out.lines q
  obtain rfl : m3 = z3.length := g3.buf.1.symm
  have G3 := Lib.hid g3
  clear q g3 G2
  go_wp2_with fail
  refine (rlast_any r x A3 z3.length cc3 z3 o1 w3 G3.out.obj.box G3.out.buf.bytes.1 R3.out (by omega) E6.out).mono ?_
  rintro e w4 q
  obtain ⟨A4, m4, cc4, rfl, g4⟩ := G3.out.first (Rv.keeps _ _ _ _ _) q
  obtain rfl : m4 = o1.length := g4.buf.1.symm
  have G4 := Lib.hid g4
  clear q g4 G3
  obtain ⟨_, c0, c1, c2, c3, c4, c5, c6, c7, c8⟩ := G4.out.obj.box
  simp only [Nat.zero_add] at c1 c2 c3 c4 c5 c6 c7 c8
  go_wp2_with fail
  refine (CB.out _).mono ?_
  rintro e w5 ⟨rfl, k5⟩
  have G5 := Lib.hid (G4.out.on (Rv.keeps _ _ _ _ _) k5)
  clear k5 c0 c1 c2 c3 c4 c5 c6 c7 c8 G4
  obtain ⟨X5, lp5, lu5, Ss5, Sp5, Su5, rfl, hw5, hh5, _⟩ := G5.out.obj
  have W5 := Lib.hid hw5
  clear hw5
  rcases hh5 with ⟨h1, rfl, rfl⟩ | ⟨h1, h2, rfl, rfl, rfl⟩ | ⟨h1, h2, rfl, rfl, rfl, rfl⟩
  · obtain ⟨e1, e2, e3⟩ := hKc.out (.inl h1)
    have EP := Lib.hid (show pEnd x.K lp5 = o2 by rw [← ER.out, Cf.rEnd, h1]; rfl)
    have EV := Lib.hid (show ct1 + over x.K lp5 = ct2 by rw [← EC.out, Cf.rOver, h1]; rfl)
    have H1 := Lib.hid h1
    have SP := Lib.hid W5.out.sp
    rw [e1] at SP
    rw [h1]
    clear h1
    go_wp2_with fail
    refine (rendp_any X5 r x.K lp5 ct1 ct2 Sp5 o2 w5 SP.out ⟨e2, e3⟩ (by omega) (by omega) EV.out EP.out).mono ?_
    rintro e w6 ⟨A6, m6, cc6, S6, rfl, q1, q2, q3, q4, q5⟩
    obtain rfl : m6 = o2.length := q1.1.symm
    rw [← e1] at q3
    have G6 := Lib.hid (show RGo w (Us Ss Sp Su) (fun d => Us Ss Sp Su d ∨ w.heap.size ≤ d) (Rv r x [] [] ct2) o1 w6 A4 o1.length cc4 (Us Ss5 S6 Su5) from G5.out.next ⟨_, [], [], Ss5, S6, Su5, rfl, W5.out.pack q3 q4 q5, .inl ⟨H1.out, rfl, rfl⟩, SZ.out⟩ (q4.mono (fun d hd => .inr (.inl hd))) (by
      rintro d (hd | hd | hd)
      · exact .inl (.inl hd)
      · rcases q5 d hd with h | h
        · exact .inl (.inr (.inl h))
        · exact .inr h
      · exact .inl (.inr (.inr hd))))
    have Q6 := Lib.hid q1
    clear q1 q2 q3 q4 q5 G5 W5 SP
    go_wp2_with fail
    refine (rlast_any r x A6 o2.length cc6 o2 o3 w6 G6.out.obj.box Q6.out.bytes.1 RO.out (by omega) E7.out).mono ?_
    rintro e w7 q
    obtain ⟨A7, m7, cc7, rfl, k7, hb7, _⟩ := q.buf Q6.out
    obtain rfl : m7 = o3.length := hb7.1.symm
    have G7 := Lib.hid (G6.out.on (Rv.keeps _ _ _ _ _) k7); have B7 := Lib.hid hb7
    clear q k7 hb7 G6 Q6
    have hsum : o1.length + o3.length ≤ 1000000 := by omega
    go_wp2_with (at_builtin; refine append_buf rfl _ _ rfl G7.out.buf rfl B7.out.bytes.1 B7.out.bytes.2 rfl hsum ?_; intro A8 cc8 w8 q1 q2 q3; have G8 := Lib.hid (G7.out.append (Rv.keeps _ _ _ _ _) BI.out q1 q2 q3); clear q1 q2 q3)
    go_ret
    rw [← EO.out]
    exact G8.out.gives
  · obtain ⟨e1, e2, e3⟩ := hKc.out (.inr h2)
    have EP := Lib.hid (show uEnd lu5 = o2 by rw [← ER.out, Cf.rEnd, h1, h2]; rfl)
    obtain rfl : ct2 = 0 := by rw [← EC.out, Cf.rOver, h1]; rfl
    have H1 := Lib.hid h1; have H2 := Lib.hid h2
    obtain ⟨_, c0, c1, c2, c3, c4, c5, c6, c7, c8⟩ := W5.out.box
    simp only [Nat.zero_add] at c1 c2 c3 c4 c5 c6 c7 c8
    rw [h1]
    clear h1
    go_wp2_with fail
    refine (CU.out _).mono ?_
    rintro e w55 ⟨rfl, k2⟩
    have C2 := Lib.hid (show ∀ i, w55.cell? ⟨r, i, none⟩ = X5 i from fun i => (k2.cell (p := ⟨r, i, none⟩) W5.out.box.lt).trans (W5.out.cells i))
    have W6 := Lib.hid (show Rw r x X5 [] [] lu5 0 w55 Ss5 Sp5 Su5 from ⟨C2.out, W5.out.box.on k2, (Rs.keeps _ _ _ _).on W5.out.ss k2, (Rp.keeps _ _ _ _ _).on W5.out.sp k2, (Ru.keeps _ _ _ _).on W5.out.su k2, W5.out.a1, W5.out.a2, W5.out.a3⟩)
    have G55 := Lib.hid (G5.out.on (Rv.keeps _ _ _ _ _) k2)
    have SU := Lib.hid W6.out.su
    rw [e1] at SU
    rw [h2]
    clear k2 c0 c1 c2 c3 c4 c5 c6 c7 c8 C2 h2 W5 G5
    go_wp2_with fail
    refine (rendu_any X5 r x.K lu5 Su5 o2 w55 SU.out (by omega) EP.out).mono ?_
    rintro e w6 ⟨A6, m6, cc6, S6, rfl, q1, q2, q3, q4, q5⟩
    obtain rfl : m6 = o2.length := q1.1.symm
    rw [← e1] at q3
    have G6 := Lib.hid (show RGo w (Us Ss Sp Su) (fun d => Us Ss Sp Su d ∨ w.heap.size ≤ d) (Rv r x [] [] 0) o1 w6 A4 o1.length cc4 (Us Ss5 Sp5 S6) from G55.out.next ⟨_, [], [], Ss5, Sp5, S6, rfl, W6.out.unp q3 q4 q5, .inr (.inl ⟨H1.out, H2.out, rfl, rfl, rfl⟩), SZ.out⟩ (q4.mono (fun d hd => .inr (.inr hd))) (by
      rintro d (hd | hd | hd)
      · exact .inl (.inl hd)
      · exact .inl (.inr (.inl hd))
      · rcases q5 d hd with h | h
        · exact .inl (.inr (.inr h))
        · exact .inr h))
    have Q6 := Lib.hid q1
    clear q1 q2 q3 q4 q5 G55 W6 SU
    go_wp2_with fail
    refine (rlast_any r x A6 o2.length cc6 o2 o3 w6 G6.out.obj.box Q6.out.bytes.1 RO.out (by omega) E7.out).mono ?_
    rintro e w7 q
    obtain ⟨A7, m7, cc7, rfl, k7, hb7, _⟩ := q.buf Q6.out
    obtain rfl : m7 = o3.length := hb7.1.symm
    have G7 := Lib.hid (G6.out.on (Rv.keeps _ _ _ _ _) k7); have B7 := Lib.hid hb7
    clear q k7 hb7 G6 Q6
    have hsum : o1.length + o3.length ≤ 1000000 := by omega
    go_wp2_with (at_builtin; refine append_buf rfl _ _ rfl G7.out.buf rfl B7.out.bytes.1 B7.out.bytes.2 rfl hsum ?_; intro A8 cc8 w8 q1 q2 q3; have G8 := Lib.hid (G7.out.append (Rv.keeps _ _ _ _ _) BI.out q1 q2 q3); clear q1 q2 q3)
    go_ret
    rw [← EO.out]
    exact G8.out.gives
  · obtain rfl : [] = o2 := by rw [← ER.out, Cf.rEnd, h1, h2]; rfl
    obtain rfl : ct2 = 0 := by rw [← EC.out, Cf.rOver, h1]; rfl
    have EF := Lib.hid (show os = o1 by rw [← EO.out, ← E7.out]; simp [mapL])
    have H1 := Lib.hid h1; have H2 := Lib.hid h2
    obtain ⟨_, c0, c1, c2, c3, c4, c5, c6, c7, c8⟩ := W5.out.box
    simp only [Nat.zero_add] at c1 c2 c3 c4 c5 c6 c7 c8
    rw [h1]
    clear h1
    go_wp2_with fail
    refine (CU.out _).mono ?_
    rintro e w55 ⟨rfl, k2⟩
    have G55 := Lib.hid (G5.out.on (Rv.keeps _ _ _ _ _) k2)
    rw [h2]
    clear k2 c0 c1 c2 c3 c4 c5 c6 c7 c8 h2 W5 G5
    go_wp2
    go_ret
    rw [EF.out]
    exact G55.out.gives

def RNewPost (x : Cf) (w : World) (e : Ending) (w' : World) : Prop :=
  ∃ r S, e = .returned (.pointer (some ⟨r, 0, none⟩)) ∧ Rv r x.eff [] [] 0 w' S ∧ (∀ d, S d → w.heap.size ≤ d) ∧ Below w.heap.size w w'

/-- The cells of a new one. -/
def rvC (x : Cf) : Array Value := #[.bool x.sw, .bool x.bl, .bool x.ub, .bool x.lc, .bool x.uc, .bool x.ac, .bool x.eb, .bool x.ib, .int .i64 x.cb, .bool x.sw, .slice none 0 0, .int .i64 x.cb, .int .i64 0, .slice none 0 0, .int .i64 x.cb, .slice none 0 0]
theorem rv_new (x : Cf) (hm : x.may = true) (w : World) (t : TypeId) (r : Nat) (hr : r = w.heap.size) : Rv r x [] [] 0 (w.alloc (.cells (rvC x) t)) (Us (fun d => d = r) (fun d => d = r) (fun d => d = r)) := by
  subst hr
  have hb := heap_alloc_new w (.cells (rvC x) t)
  have hc : ∀ i, (w.alloc (.cells (rvC x) t)).cell? ⟨w.heap.size, i, none⟩ = (rvC x)[i]? := fun i => cell_of_row _ _ _ _ t (0, 0) hb
  have hf : ∀ i, (w.alloc (.cells (rvC x) t)).frozen? ⟨w.heap.size, i, none⟩ = false := fun i => frozen_of_row _ _ _ _ t hb
  have hcb : (x.cb.toNat : Int) = x.cb := Int.toNat_of_nonneg (Cf.fit hm).nn
  have hl : ∀ d, d = w.heap.size → d < (w.alloc (.cells (rvC x) t)).heap.size := fun d hd => by subst hd; simp
  have hn : ∀ (g o : Nat) (s : Option Nat), (none : Option Addr) = some ⟨g, o, s⟩ → g = w.heap.size ∧ g ≠ w.heap.size := fun g o s he => by cases he
  refine ⟨fun i => (w.alloc (.cells (rvC x) t)).cell? ⟨w.heap.size, i, none⟩, [], [], _, _, _, rfl, ⟨fun _ => rfl, ?_, ?_, ?_, ?_, fun d h _ => h, fun d h _ => h, fun d h _ => h⟩, ?_, ⟨hm, Are.nil, Are.nil, ok_nil x, by simp, fun _ => rfl⟩⟩
  · exact ⟨by simp, by rw [hc]; rfl, by rw [hc]; rfl, by rw [hc]; rfl, by rw [hc]; rfl, by rw [hc]; rfl, by rw [hc]; rfl, by rw [hc]; rfl, by rw [hc]; rfl, by rw [hc]; rfl⟩
  · exact ⟨rfl, hl, by rw [hc]; rfl, by decide, fun _ _ => rfl, hf, none, 0, 0, by rw [hc]; rfl, Buf.nil _, hn⟩
  · exact ⟨rfl, hl, by rw [hc, hcb]; rfl, by rw [hc]; rfl, ⟨none, 0, 0, by rw [hc]; rfl, Buf.nil _, hn⟩, fun _ _ _ => rfl, hf⟩
  · exact ⟨rfl, hl, by rw [hc, hcb]; rfl, by decide, fun _ _ => rfl, hf, none, 0, 0, by rw [hc]; rfl, Buf.nil _, hn⟩
  · cases h1 : x.blocks
    · cases h2 : x.unblocks
      · exact .inr (.inr ⟨h1, h2, rfl, rfl, rfl, rfl⟩)
      · exact .inr (.inl ⟨h1, h2, rfl, rfl, rfl⟩)
    · exact .inl ⟨h1, rfl, rfl⟩

set_option maxRecDepth 100000 in
set_option maxHeartbeats 4000000 in
theorem rnewc_any (x : Cf) (w : World) : Calls Try.prog 17 #[x.val] w (RNewPost x w) := by
  have CM := Lib.hid (rmay_any x)
  obtain ⟨y, hy⟩ : ∃ y, x.eff = y := ⟨_, rfl⟩
  have HY := Lib.hid hy
  have MY := Lib.hid (show y.may = true by rw [← hy]; exact eff_may x)
  have EM := Lib.hid (show (x.may = true → x = y) ∧ (x.may = false → Cf.zero = y) from ⟨fun h => by rw [← hy, eff_of h], fun h => by rw [← hy, eff_not h]⟩)
  have B0 := Lib.hid (row_new w x.cells 23)
  clear hy
  generalize hmy : x.may = z at *
  have HX : x.val = .agg #[.bool x.sw, .bool x.bl, .bool x.ub, .bool x.lc, .bool x.uc, .bool x.ac, .bool x.eb, .bool x.ib, .int .i64 x.cb] := rfl
  rw [HX]
  clear HX hmy
  go_enter Try.func17, Try.ntmps17
  go_wp2_with fail
  refine (CM.out _).mono ?_
  rintro e w1 ⟨rfl, k1⟩
  have K1 := Lib.hid (((Below.refl _ w).alloc (Nat.le_refl _) (.cells x.cells 23)).trans (k1.mono (by simp)))
  have R1 := Lib.hid (show Row w1 w.heap.size 23 x.cells from B0.out.on k1)
  clear k1 B0
  cases z
  case' false =>
    have EZ := Lib.hid (EM.out.2 rfl)
    go_wp2_with (refine st_storec rfl _ _ rfl w.heap.size rfl Cf.zero x rfl R1.out ?_)
    intro w2 q1 q2
    have R2 := Lib.hid (show Row w2 w.heap.size 23 y.cells by rw [← EZ.out]; exact q1)
    have K2 := Lib.hid (K1.out.trans (q2.below K1.out.size (fun d hd => by rw [hd]; exact Nat.le_refl _)))
    clear q1 q2 EZ R1 K1
  case' true =>
    have EZ := Lib.hid (EM.out.1 rfl)
    have R2 := Lib.hid (show Row w1 w.heap.size 23 y.cells by rw [← EZ.out]; exact R1.out)
    have K2 := K1
    clear EZ R1 K1
    generalize w1 = w2 at *
  all_goals
    clear EM CM
    obtain ⟨_, c0, c1, c2, c3, c4, c5, c6, c7, c8⟩ := box_of_row R2.out
    simp only [Nat.zero_add] at c1 c2 c3 c4 c5 c6 c7 c8
    have F := Lib.hid (show RNewPost x w (.returned (.pointer (some ⟨w2.heap.size, 0, none⟩))) (w2.alloc (.cells (rvC y) 45)) from ⟨_, _, rfl, by rw [HY.out]; exact rv_new y MY.out w2 45 _ rfl, fun d hd => by rcases hd with hd | hd | hd <;> rw [hd] <;> exact K2.out.size, K2.out.alloc K2.out.size _⟩)
    go_wp2
    go_ret
    exact F.out

end Go.Proofs.Ytghihmmapignmaa
