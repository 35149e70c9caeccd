/- Contract of the reference's Put. -/
import Derived.Test.YtghihmmapignmaaSwB
import Derived.WalkKit
import Derived.WalkSpells
import Derived.WalkLawsBesides
import Derived.Lib.Hide
import Derived.BigQuiet
import Derived.StillTailTactics
import Derived.Deep.RegionLaw
import Derived.Deep.RegionHeld3
namespace Go.Proofs.Ytghihmmapignmaa
open Go.RowKit

theorem rput_step {X : Nat → Option Value} {w w1 : World} {b : Nat} {S : Nat → Prop} {k u : Value} {zs ys : List Int} {A' : Option Addr} {m c' : Nat} (h : Fo 9 10 X w b S k zs) (c1 : w.cell? ⟨b, 10, none⟩ = some u)
    (q1 : Buf w1 A' m c' ys) (q2 : Below w.heap.size w w1) (q3 : ∀ g o s, A' = some ⟨g, o, s⟩ → w.heap.size ≤ g) :
    w1.cell? ⟨b, 10, none⟩ = some u ∧ w1.frozen? ⟨b, 10, none⟩ = false ∧
      ∃ S', Fo 9 10 X (w1.setCell ⟨b, 10, none⟩ (.slice A' m c')) b S' k ys ∧ Only S w (w1.setCell ⟨b, 10, none⟩ (.slice A' m c')) ∧ (∀ d, S' d → d = b ∨ ∃ o s, A' = some ⟨d, o, s⟩) := by
  have hb := h.lt b h.mine
  have d1 := (q2.cell (p := ⟨b, 10, none⟩) hb).trans c1
  have df := (q2.frozen (p := ⟨b, 10, none⟩) hb).trans h.free
  refine ⟨d1, df, fun d => d = b ∨ ∃ o s, A' = some ⟨d, o, s⟩, Fo.stored (.inl rfl) ?_ h.tells h.ne (fun i hi => (q2.cell (p := ⟨b, i, none⟩) hb).trans (h.rest i hi)) (fun i => (q2.frozen (p := ⟨b, i, none⟩) hb).trans (h.frees i)) d1 q1 ?_, (Only.of_below q2).setCell ⟨b, 10, none⟩ (fun _ => h.mine) _, fun d hd => hd⟩
  · rintro d (hd | ⟨o, s, he⟩)
    · subst hd; exact Nat.lt_of_lt_of_le hb q2.size
    · obtain ⟨_, _, _, ⟨h4, _⟩ | ⟨g', o', he', hl, _⟩⟩ := q1
      · rw [h4] at he; cases he
      · rw [he'] at he; injection he with he; injection he with he; omega
  · intro g o s he
    exact ⟨.inr ⟨o, s, he⟩, fun hg => by have := q3 g o s he; omega⟩

/-- Bytes come out that are neither its own nor were there. -/
def RPutPost (X : Nat → Option Value) (b : Nat) (S : Nat → Prop) (k : Value) (os zs : List Int) (w : World) (e : Ending) (w' : World) : Prop :=
  ∃ A m c S', e = .returned (.slice A m c) ∧ Buf w' A m c os ∧ (∀ g o s, A = some ⟨g, o, s⟩ → w.heap.size ≤ g ∧ ¬ S' g) ∧ Fo 9 10 X w' b S' k zs ∧ Only S w w' ∧ ∀ d, S' d → S d ∨ w.heap.size ≤ d

set_option maxHeartbeats 400000 in
theorem rput_off (X : Nat → Option Value) (b : Nat) (S : Nat → Prop) (ks : List Int) (A : Option Addr) (n c : Nat) (zs : List Int) (w : World) (h : Fo 9 10 X w b S (.bool false) ks) (hB : Bytes w A n c zs) (hA : A = none → n = 0 ∧ c = 0) (hn : n ≤ 100000) :
    Calls Try.prog 46 #[.pointer (some ⟨b, 9, none⟩), .slice A n c] w (RPutPost X b S (.bool false) zs ks w) := by
  have XH := Lib.hid h; have HB := Lib.hid hB; have HA := Lib.hid hA
  have c0 := h.size
  clear h hB hA
  have hn0 : 0 + n ≤ 1000000 := by omega
  go_enter Try.func46, Try.ntmps46
  go_wp2_with (at_builtin; refine append_buf rfl _ _ rfl (Buf.nil w) rfl HB.out HA.out rfl hn0 ?_; intro A' c' w1 q1 q2 q3; have Q1 := Lib.hid q1; have Q2 := Lib.hid q2; have Q3 := Lib.hid q3; clear q1 q2 q3)
  go_ret
  have K := Q2.out.below (Nat.le_refl _) (fun d ⟨o, s, h⟩ => by cases h)
  refine ⟨A', n, c', S, by simp, by simpa using Q1.out, ?_, XH.out.on K, Only.of_below K, fun d hd => .inl hd⟩
  intro g o s he
  rcases Q3.out with rfl | rfl
  · cases he
  · injection he with he; injection he with he
    exact ⟨by omega, fun hS => by have := XH.out.lt g hS; omega⟩

def slenOf : Value → Nat | .slice _ n _ => n | _ => 0

/-- No block is both's. -/
def Parted (A O : Option Addr) : Prop := ∀ g o s o' s', A = some ⟨g, o, s⟩ → O = some ⟨g, o', s'⟩ → False

/-- What the loop holds: all that is left, what is out. -/
structure SRp (w wr : World) (ks zs : List Int) (A : Option Addr) (m c : Nat) (l : List Int) (O : Option Addr) (p oc : Nat) (os : List Int) : Prop where
  all : Buf wr A m c l
  anew : ∀ g o s, A = some ⟨g, o, s⟩ → w.heap.size ≤ g
  out : Buf wr O p oc os
  onew : ∀ g o s, O = some ⟨g, o, s⟩ → w.heap.size ≤ g
  parted : Parted A O
  below : Below w.heap.size w wr
  turned : turn (ks ++ zs) = os ++ turn l
  left : odd (ks ++ zs) = odd l
  few : p + m ≤ 200000

theorem Buf.lt {w : World} {A : Option Addr} {n c : Nat} {zs : List Int} (h : Buf w A n c zs) {g o : Nat} {s : Option Nat} (hA : A = some ⟨g, o, s⟩) : g < w.heap.size := by
  obtain ⟨_, _, _, ⟨h4, _⟩ | ⟨g', o', he', hl, _⟩⟩ := h
  · rw [h4] at hA; cases hA
  · rw [he'] at hA; injection hA with he; injection he with he; omega

theorem SRp.next {w wr w1 : World} {ks zs : List Int} {g o m c : Nat} {x y : Int} {r : List Int} {O O' A' : Option Addr} {p oc oc' : Nat} {os : List Int} {ar : Array Value} (h : SRp w wr ks zs (some ⟨g, o, none⟩) m c (x :: y :: r) O p oc os)
    (hA : A' = some ⟨g, o + 2, none⟩ ∨ (c = 2 ∧ A' = some ⟨g, o, none⟩))
    (q1 : Buf w1 O' (p + 2) oc' (os ++ [y, x])) (q2 : Only (fun d => ∃ o s, O = some ⟨d, o, s⟩) (wr.drew.alloc (.cells ar 5)) w1) (q3 : O' = O ∨ O' = some ⟨(wr.drew.alloc (.cells ar 5)).heap.size, 0, none⟩) :
    SRp w w1 ks zs A' (m - 2) (c - 2) r O' (p + 2) oc' (os ++ [y, x]) := by
  have hm : 2 ≤ m := by have := h.all.1; simp at this; omega
  have hk : Below wr.heap.size wr (wr.drew.alloc (.cells ar 5)) := ((Below.refl _ _).drew).alloc (Nat.le_refl _) _
  have hsz : (wr.drew.alloc (.cells ar 5)).heap.size = wr.heap.size + 1 := by simp
  have hA2 : ∀ g' o' s, A' = some ⟨g', o', s⟩ → g' = g := by
    intro g' o' s he
    rcases hA with rfl | ⟨_, rfl⟩
    · injection he with he; injection he with he; exact he.symm
    · injection he with he; injection he with he; exact he.symm
  have hall := (h.all.cut 2 hm A' hA).only (S := fun _ => False) (Only.of_below hk) (fun _ _ _ _ h => h)
  refine ⟨hall.only q2 ?_, ?_, q1, ?_, ?_, ?_, ?_, ?_, by have := h.few; omega⟩
  · rintro g' o' s he ⟨o2, s2, hO⟩
    have := hA2 g' o' s he
    subst this
    exact h.parted g' o none o2 s2 rfl hO
  · intro g' o' s he
    have := hA2 g' o' s he
    subst this
    exact h.anew g' o none rfl
  · intro g' o' s he
    rcases q3 with rfl | rfl
    · exact h.onew g' o' s he
    · injection he with he; injection he with he
      have := h.below.size
      omega
  · intro g' o' s o2 s2 he hO
    have := hA2 g' o' s he
    subst this
    rcases q3 with rfl | rfl
    · exact h.parted g' o none o2 s2 rfl hO
    · injection hO with hO; injection hO with hO
      have := h.all.lt rfl
      omega
  · exact (h.below.trans (hk.mono h.below.size)).trans (q2.below (Nat.le_trans h.below.size hk.size) (fun d ⟨o2, s2, hO⟩ => h.onew d o2 s2 hO))
  · rw [h.turned]; simp [turn]
  · rw [h.left]; simp [odd]

theorem held2 {wr w' : World} {g o : Nat} {x y : Int} (hg : g < wr.heap.size) (c0 : wr.cell? ⟨g, o, none⟩ = some (.int .u8 x)) (c1 : wr.cell? ⟨g, o + 1, none⟩ = some (.int .u8 y)) (k : Below wr.heap.size wr w') :
    w'.cell? ⟨g, o, none⟩ = some (.int .u8 x) ∧ w'.cell? ⟨g, o + 1, none⟩ = some (.int .u8 y) :=
  ⟨(k.cell (p := ⟨g, o, none⟩) hg).trans c0, (k.cell (p := ⟨g, o + 1, none⟩) hg).trans c1⟩

theorem srp_start {w w1 w2 : World} {ks zs : List Int} {A1 A2 : Option Addr} {n0 n c2 : Nat} (hn : n0 + n ≤ 100001) (q2 : Only (fun d => ∃ o s, (none : Option Addr) = some ⟨d, o, s⟩) w w1) (q3 : A1 = none ∨ A1 = some ⟨w.heap.size, 0, none⟩)
    (r1 : Buf w2 A2 (n0 + n) c2 (ks ++ zs)) (r2 : Only (fun d => ∃ o s, A1 = some ⟨d, o, s⟩) w1 w2) (r3 : A2 = A1 ∨ A2 = some ⟨w1.heap.size, 0, none⟩) : SRp w w2 ks zs A2 (n0 + n) c2 (ks ++ zs) none 0 0 [] := by
  have K1 := q2.below (Nat.le_refl _) (fun d ⟨o, s, h⟩ => by cases h)
  have hA1 : ∀ g o s, A1 = some ⟨g, o, s⟩ → w.heap.size ≤ g := by
    intro g o s he
    rcases q3 with rfl | rfl
    · cases he
    · injection he with he; injection he with he; omega
  refine ⟨r1, ?_, Buf.nil _, (fun g o s he => by cases he), (fun g o s o' s' _ he => by cases he), K1.trans (r2.below K1.size (fun d ⟨o, s, he⟩ => hA1 d o s he)), rfl, rfl, by omega⟩
  intro g o s he
  rcases r3 with rfl | rfl
  · exact hA1 g o s he
  · injection he with he; injection he with he
    have := K1.size
    omega

theorem two_of : ∀ l : List Int, 2 ≤ l.length → ∃ x y r, l = x :: y :: r
  | x :: y :: r, _ => ⟨x, y, r, rfl⟩
  | [], h => absurd h (by simp)
  | [a], h => absurd h (by simp)
theorem odd_short : ∀ l : List Int, l.length < 2 → turn l = [] ∧ odd l = l
  | [], _ => ⟨rfl, rfl⟩
  | [a], _ => ⟨rfl, rfl⟩
  | a :: b :: r, h => absurd h (by simp)

theorem held_out {wa w' : World} {g o : Nat} {x y : Int} {T : Nat → Prop} (hg : g < wa.heap.size) (hn : ¬ T g) (h : wa.cell? ⟨g, o, none⟩ = some (.int .u8 x) ∧ wa.cell? ⟨g, o + 1, none⟩ = some (.int .u8 y)) (k : Only T wa w') :
    w'.cell? ⟨g, o, none⟩ = some (.int .u8 x) ∧ w'.cell? ⟨g, o + 1, none⟩ = some (.int .u8 y) :=
  ⟨(k.cell (p := ⟨g, o, none⟩) hg hn).trans h.1, (k.cell (p := ⟨g, o + 1, none⟩) hg hn).trans h.2⟩

/-- The last step: what is left is kept. -/
theorem rput_end {X : Nat → Option Value} {w wr w1 : World} {b : Nat} {S : Nat → Prop} {k u : Value} {ks zs l os : List Int} {A O A1 : Option Addr} {m c p oc c1 : Nat} (H : Fo 9 10 X w b S k ks) (cu : w.cell? ⟨b, 10, none⟩ = some u) (h : SRp w wr ks zs A m c l O p oc os)
    (q1 : Buf w1 A1 m c1 l) (q2 : Only (fun d => ∃ o s, (none : Option Addr) = some ⟨d, o, s⟩) wr w1) (q3 : A1 = none ∨ A1 = some ⟨wr.heap.size, 0, none⟩) (hm : m < 2) :
    w1.cell? ⟨b, 10, none⟩ = some u ∧ w1.frozen? ⟨b, 10, none⟩ = false ∧ RPutPost X b S k (turn (ks ++ zs)) (odd (ks ++ zs)) w (.returned (.slice O p oc)) (w1.setCell ⟨b, 10, none⟩ (.slice A1 m c1)) := by
  have K1 := q2.below (Nat.le_refl _) (fun d ⟨o, s, h⟩ => by cases h)
  have hl := odd_short l (by rw [h.all.1]; exact hm)
  have hA1 : ∀ g o s, A1 = some ⟨g, o, s⟩ → wr.heap.size ≤ g := by
    intro g o s he
    rcases q3 with rfl | rfl
    · cases he
    · injection he with he; injection he with he; omega
  have hbl := H.lt b H.mine
  obtain ⟨r1, r2, S', r3, r4, r5⟩ := rput_step H cu q1 (h.below.trans (K1.mono h.below.size)) (fun g o s he => Nat.le_trans h.below.size (hA1 g o s he))
  refine ⟨r1, r2, O, p, oc, S', rfl, ?_, ?_, ?_, r4, ?_⟩
  · rw [h.turned, hl.1, List.append_nil]
    have hO := h.out.only (S := fun _ => False) (Only.of_below K1) (fun _ _ _ _ h => h)
    exact hO.only (S := fun d => d = b) ((Only.refl (fun d => d = b) w1).setCell ⟨b, 10, none⟩ (fun _ => rfl) _) (fun g o s he hg => by have := h.onew g o s he; omega)
  · intro g o s he
    refine ⟨h.onew g o s he, fun hS => ?_⟩
    have h1 := h.onew g o s he
    have h2 := h.out.lt he
    rcases r5 g hS with hS | ⟨o', s', hS⟩
    · omega
    · have := hA1 g o' s' hS; omega
  · rw [h.left, hl.2]; exact r3
  · intro d hd
    rcases r5 d hd with hS | ⟨o', s', hS⟩
    · subst hS; exact .inl H.mine
    · have := hA1 d o' s' hS; have := h.below.size; right; omega

set_option maxHeartbeats 2000000 in
theorem rput_on (X : Nat → Option Value) (b : Nat) (S : Nat → Prop) (ks : List Int) (A : Option Addr) (n c : Nat) (zs : List Int) (w : World) (h : Fo 9 10 X w b S (.bool true) ks) (hk : ks.length ≤ 1) (hB : Bytes w A n c zs) (hA : A = none → n = 0 ∧ c = 0) (hn : n ≤ 100000) :
    Calls Try.prog 46 #[.pointer (some ⟨b, 9, none⟩), .slice A n c] w (RPutPost X b S (.bool true) (turn (ks ++ zs)) (odd (ks ++ zs)) w) := by
  obtain ⟨A0, n0, c0', cc1, hb0, hA0⟩ := h.held
  have XH := Lib.hid h; have HB := Lib.hid hB; have HA := Lib.hid hA; have HB0 := Lib.hid hb0.bytes
  have cc0 := h.size
  have hn0 : n0 ≤ 1 := by have := hb0.1; omega
  have hp1 : 0 + n0 ≤ 1000000 := by omega
  have hp2 : n0 + n ≤ 1000000 := by omega
  clear h hB hA hb0 hA0
  go_enter Try.func46, Try.ntmps46
  go_wp2_with (at_builtin; (first
    | (refine append_buf rfl _ _ rfl (Buf.nil w) rfl HB0.out.1 HB0.out.2 rfl hp1 ?_; intro A1 c1 w1 q1 q2 q3; rw [Nat.zero_add, List.nil_append] at q1; rw [Nat.zero_add]; have R1 := Lib.hid q1; have R2 := Lib.hid q2; have R3 := Lib.hid q3; have HB1 := Lib.hid (HB.out.on (q2.below (Nat.le_refl _) (fun d ⟨o, s, h⟩ => by cases h))); clear q1 q2 q3)
    | (refine append_buf rfl _ _ rfl R1.out rfl HB1.out HA.out rfl hp2 ?_; intro A2 c2 w2 q1 q2 q3; have P0 := Lib.hid (srp_start (by omega) R2.out R3.out q1 q2 q3); clear q1 q2 q3 R1 R2 R3 HB1)))
  go_loopw [5, 6] (fun va vo wr => ∃ (A : Option Addr) (m c : Nat) (l : List Int) (O : Option Addr) (p oc : Nat) (os : List Int), va = .slice A m c ∧ vo = .slice O p oc ∧ Hid (SRp w wr ks zs A m c l O p oc os)) (fun va _ _ => slenOf va)
  case atStart => exact ⟨A2, _, c2, _, none, 0, 0, [], rfl, rfl, P0.out⟩
  case round =>
    clear P0
    obtain ⟨A3, m, c3, l, O, p, oc, os, rfl, rfl, R⟩ := hrel
    by_cases hm : 2 ≤ m
    · obtain ⟨x, y, r, rfl⟩ := two_of l (by rw [R.out.all.1]; exact hm)
      have hmc := R.out.all.2.1
      obtain ⟨g, o, rfl⟩ : ∃ g o, A3 = some ⟨g, o, none⟩ := by
        rcases R.out.all.2.2.2 with ⟨_, h0⟩ | ⟨g, o, he, _⟩
        · omega
        · exact ⟨g, o, he⟩
      have hg := R.out.all.lt rfl
      obtain ⟨d0, d1⟩ : wr.cell? ⟨g, o, none⟩ = some (.int .u8 x) ∧ wr.cell? ⟨g, o + 1, none⟩ = some (.int .u8 y) := by
        rcases R.out.all.2.2.2 with ⟨h0, _⟩ | ⟨g', o', he, _, _, _, hc⟩
        · cases h0
        · injection he with he; injection he with e1 e2
          subst e1 e2
          exact ⟨by simpa using hc 0 (by omega), by simpa using hc 1 (by omega)⟩
      have hmi : (2 : Int) ≤ (m : Int) := by omega
      have i1 : (1 : Int) < (m : Int) := by omega
      have i0 : (0 : Int) < (m : Int) := by omega
      have i0n : 0 < m := by omega
      have hpf := R.out.few
      have hp3 : p + 2 ≤ 1000000 := by omega
      have hcm : c3 ≤ 9223372036854775807 := by have := R.out.all.2.2.1; unfold maxLen at this; omega
      clear hpf
      have K0 := held2 hg d0 d1 (Below.refl _ _).drew
      have KA := Lib.hid (show Below wr.heap.size wr (wr.drew.alloc (.cells #[.int .u8 y, .int .u8 x] 5)) from ((Below.refl _ _).drew).alloc (Nat.le_refl _) _)
      have K1 := held2 hg d0 d1 KA.out
      have hgA : g < (wr.drew.alloc (.cells #[.int .u8 y, .int .u8 x] 5)).heap.size := Nat.lt_of_lt_of_le hg KA.out.size
      have hnO : ¬ ∃ o' s', O = some ⟨g, o', s'⟩ := fun ⟨o', s', he⟩ => R.out.parted g o none o' s' rfl he
      have B1 := Lib.hid (R.out.out.only (S := fun _ => False) (Only.of_below KA.out) (fun _ _ _ _ h => h))
      have C1 := Lib.hid (show Bytes (wr.drew.alloc (.cells #[.int .u8 y, .int .u8 x] 5)) (some ⟨wr.heap.size, 0, none⟩) 2 2 [y, x] by have := (buf_new wr.drew [y, x] #[] 2 2 rfl (Nat.le_refl _) (by decide) rfl).bytes.1; simpa using this)
      go_wp2
      go_region_held3 (fun w' => w'.cell? ⟨g, o, none⟩ = some (.int .u8 x) ∧ w'.cell? ⟨g, o + 1, none⟩ = some (.int .u8 y))
        (first | assumption | exact K0 | exact K1 | exact K3)
        ((refine step_append_buf rfl _ _ rfl B1.out rfl C1.out (fun h => by cases h) rfl hp3 ?_; intro O' oc' w3 q1 q2 q3; have K3 := held_out hgA hnO K1 q2))
      by_cases hc2 : c3 = 2
      · have R2 := Lib.hid (R.out.next (A' := some ⟨g, o, none⟩) (.inr ⟨hc2, rfl⟩) q1 q2 q3)
        rw [show c3 - 2 = 0 by omega] at R2
        clear K0 K1 K3 KA B1 C1 q1 q2 q3 d0 d1 R
        go_wp2
        go_roundw
        case rel => exact ⟨_, _, _, r, O', p + 2, oc', _, rfl, rfl, R2.out⟩
        case measure => simp [slenOf]; omega
      · have R2 := Lib.hid (R.out.next (A' := some ⟨g, o + 2, none⟩) (.inl rfl) q1 q2 q3)
        clear K0 K1 K3 KA B1 C1 q1 q2 q3 d0 d1 R
        go_wp2
        go_roundw
        case rel => exact ⟨_, _, _, r, O', p + 2, oc', _, rfl, rfl, R2.out⟩
        case measure => simp [slenOf]; omega
    · have hm2 : m < 2 := by omega
      have hmi : ¬ (2 : Int) ≤ (m : Int) := by omega
      have hp3 : 0 + m ≤ 1000000 := by omega
      have BB := Lib.hid R.out.all.bytes
      go_wp2_with (at_builtin; refine append_buf rfl _ _ rfl (Buf.nil wr) rfl BB.out.1 BB.out.2 rfl hp3 ?_; intro A1 c1 w1 q1 q2 q3; rw [Nat.zero_add, List.nil_append] at q1; rw [Nat.zero_add]; obtain ⟨e1, ef, XX⟩ := rput_end XH.out cc1 R.out q1 q2 q3 hm2; have XX := Lib.hid XX; clear q1 q2 q3)
      go_ret
      exact XX.out

theorem rput_any (X : Nat → Option Value) (b : Nat) (S : Nat → Prop) (on : Bool) (ks : List Int) (A : Option Addr) (n c : Nat) (zs os js : List Int) (w : World) (h : Fo 9 10 X w b S (.bool on) ks) (hk : ks.length ≤ 1) (hf : on = false → ks = []) (hB : Bytes w A n c zs) (hA : A = none → n = 0 ∧ c = 0) (hn : n ≤ 100000) (ho : tn on (ks ++ zs) = os) (hj : od on (ks ++ zs) = js) :
    Calls Try.prog 46 #[.pointer (some ⟨b, 9, none⟩), .slice A n c] w (Gives (Rs X b on js) S os w) := by
  show Calls _ _ _ _ (RPutPost X b S (.bool on) os js w)
  subst ho hj
  cases on with
  | true => exact rput_on X b S ks A n c zs w h hk hB hA hn
  | false =>
    have hk := hf rfl
    subst hk
    exact rput_off X b S [] A n c zs w h hB hA hn

end Go.Proofs.Ytghihmmapignmaa
