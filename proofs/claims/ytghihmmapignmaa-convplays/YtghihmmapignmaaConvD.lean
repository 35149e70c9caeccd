/- The program's Conv in memory; contracts of its Cut, putRecords, endRecords. -/
import Derived.Test.YtghihmmapignmaaConvC
import Derived.Test.YtghihmmapignmaaSwB
import Derived.Test.YtghihmmapignmaaFixG
import Derived.WalkKit
import Derived.WalkSpells
import Derived.WalkLawsBesides
import Derived.Lib.Hide
namespace Go.Proofs.Ytghihmmapignmaa
open Go.RowKit

/-- What the records hold, in blocks T. -/
def Rec (x : Cf) (pb : Nat) (l : List Int) (ct : Nat) (w : World) (T : Nat → Prop) : Prop :=
  (x.blocks = true ∧ Rc pb x.K l (some (.int .i64 (ct : Nat))) w T) ∨ (x.blocks = false ∧ x.unblocks = true ∧ Rc pb x.K l none w T ∧ ct = 0) ∨ (x.blocks = false ∧ x.unblocks = false ∧ ct = 0 ∧ ∀ d, ¬ T d)
theorem Rec.keeps (x : Cf) (pb : Nat) (l : List Int) (ct : Nat) : Keeps (Rec x pb l ct) := by
  refine ⟨fun {w S} h => ?_, fun {w w' S T} h hk hS => ?_⟩
  · rcases h with ⟨_, h⟩ | ⟨_, _, h, _⟩ | ⟨_, _, _, h⟩
    · exact h.lt
    · exact h.lt
    · exact fun d hd => absurd hd (h d)
  · rcases h with ⟨h1, h⟩ | ⟨h1, h2, h, h3⟩ | h
    · exact .inl ⟨h1, h.only hk hS⟩
    · exact .inr (.inl ⟨h1, h2, h.only hk hS, h3⟩)
    · exact .inr (.inr h)
def ptrP (x : Cf) (pb : Nat) : Value := .pointer (bif x.blocks then some ⟨pb, 0, none⟩ else none)
def ptrU (x : Cf) (pb : Nat) : Value := .pointer (bif x.unblocks then some ⟨pb, 0, none⟩ else none)

/-- The program's Conv at block b, its Swab at sb, its records at pb: what is kept back, what is held, how many were cut. -/
structure Cw (b sb pb : Nat) (x : Cf) (ks l : List Int) (ct : Nat) (w : World) (T : Nat → Prop) : Prop where
  may : x.may = true
  lt : b < w.heap.size
  sne : sb ≠ b
  c0 : w.cell? ⟨b, 0, none⟩ = some (.pointer (some ⟨sb, 0, none⟩))
  r1 : w.rangeAt b 1 (x.t1.map (Value.int .u8))
  r2 : w.rangeAt b 257 (x.t2.map (Value.int .u8))
  c3 : w.cell? ⟨b, 513, none⟩ = some (ptrP x pb)
  c4 : w.cell? ⟨b, 514, none⟩ = some (ptrU x pb)
  swb : Sw w sb x.sw ks
  rcs : Rec x pb l ct w T
  apart : ∀ d, T d → d ≠ b ∧ d ≠ sb
  ak : Are ks
  al : Are l
  ok : x.Ok l

theorem range_only {S : Nat → Prop} {w w' : World} {b o : Nat} {l : List Value} (h : w.rangeAt b o l) (k : Only S w w') (hb : b < w.heap.size) (hn : ¬ S b) : w'.rangeAt b o l :=
  fun j v hv => (k.cell (p := ⟨b, o + j, none⟩) hb hn).trans (h j v hv)

/-- Its blocks. -/
def Bs (b sb : Nat) (T : Nat → Prop) (d : Nat) : Prop := d = b ∨ d = sb ∨ T d
theorem Cw.only {b sb pb : Nat} {x : Cf} {ks l : List Int} {ct : Nat} {w w' : World} {T S : Nat → Prop} (h : Cw b sb pb x ks l ct w T) (k : Only S w w') (hS : ∀ d, Bs b sb T d → ¬ S d) : Cw b sb pb x ks l ct w' T := by
  have hb := hS b (.inl rfl)
  exact ⟨h.may, Nat.lt_of_lt_of_le h.lt k.size, h.sne, (k.cell (p := ⟨b, 0, none⟩) h.lt hb).trans h.c0, range_only h.r1 k h.lt hb, range_only h.r2 k h.lt hb, (k.cell (p := ⟨b, 513, none⟩) h.lt hb).trans h.c3, (k.cell (p := ⟨b, 514, none⟩) h.lt hb).trans h.c4,
    h.swb.only k (hS sb (.inr (.inl rfl))), (Rec.keeps _ _ _ _).only h.rcs k (fun d hd => hS d (.inr (.inr hd))), h.apart, h.ak, h.al, h.ok⟩
theorem Cw.on {b sb pb : Nat} {x : Cf} {ks l : List Int} {ct : Nat} {w w' : World} {T : Nat → Prop} (h : Cw b sb pb x ks l ct w T) (k : Below w.heap.size w w') : Cw b sb pb x ks l ct w' T :=
  h.only (S := fun _ => False) (Only.of_below k) (fun _ _ h => h)
theorem Cw.stlt {b sb pb : Nat} {x : Cf} {ks l : List Int} {ct : Nat} {w : World} {T : Nat → Prop} (h : Cw b sb pb x ks l ct w T) : ∀ d, Bs b sb T d → d < w.heap.size := by
  rintro d (rfl | rfl | hd)
  · exact h.lt
  · exact h.swb.lt
  · exact (Rec.keeps _ _ _ _).lt h.rcs d hd
/-- The records changed. -/
theorem Cw.recs {b sb pb : Nat} {x : Cf} {ks l l2 : List Int} {ct ct2 : Nat} {w w' : World} {T T' : Nat → Prop} (h : Cw b sb pb x ks l ct w T) (r : Rec x pb l2 ct2 w' T') (k : Only T w w') (g : ∀ d, T' d → T d ∨ w.heap.size ≤ d) (al : Are l2) (ok : x.Ok l2) : Cw b sb pb x ks l2 ct2 w' T' := by
  have hb : ¬ T b := fun hT => (h.apart b hT).1 rfl
  have hs : ¬ T sb := fun hT => (h.apart sb hT).2 rfl
  refine ⟨h.may, Nat.lt_of_lt_of_le h.lt k.size, h.sne, (k.cell (p := ⟨b, 0, none⟩) h.lt hb).trans h.c0, range_only h.r1 k h.lt hb, range_only h.r2 k h.lt hb, (k.cell (p := ⟨b, 513, none⟩) h.lt hb).trans h.c3, (k.cell (p := ⟨b, 514, none⟩) h.lt hb).trans h.c4,
    h.swb.only k hs, r, fun d hd => ?_, h.ak, al, ok⟩
  rcases g d hd with hT | hl
  · exact h.apart d hT
  · have := h.lt; have := h.swb.lt; omega
/-- The Swab changed. -/
theorem Cw.swabs {b sb pb : Nat} {x : Cf} {ks ks2 l : List Int} {ct : Nat} {w w' : World} {T : Nat → Prop} (h : Cw b sb pb x ks l ct w T) (r : Sw w' sb x.sw ks2) (k : Only (fun d => d = sb) w w') (ak : Are ks2) : Cw b sb pb x ks2 l ct w' T := by
  have hb : ¬ b = sb := fun e => h.sne e.symm
  exact ⟨h.may, Nat.lt_of_lt_of_le h.lt k.size, h.sne, (k.cell (p := ⟨b, 0, none⟩) h.lt hb).trans h.c0, range_only h.r1 k h.lt hb, range_only h.r2 k h.lt hb, (k.cell (p := ⟨b, 513, none⟩) h.lt hb).trans h.c3, (k.cell (p := ⟨b, 514, none⟩) h.lt hb).trans h.c4,
    r, (Rec.keeps _ _ _ _).only h.rcs k (fun d hd => (h.apart d hd).2), h.apart, ak, h.al, h.ok⟩

/-- .. over its blocks. -/
def Cv (b sb pb : Nat) (x : Cf) (ks l : List Int) (ct : Nat) (w : World) (S : Nat → Prop) : Prop := ∃ T, S = Bs b sb T ∧ Cw b sb pb x ks l ct w T
theorem Cv.keeps (b sb pb : Nat) (x : Cf) (ks l : List Int) (ct : Nat) : Keeps (Cv b sb pb x ks l ct) := by
  refine ⟨fun {w S} h => ?_, fun {w w' S T} h hk hS => ?_⟩
  · obtain ⟨T, rfl, h⟩ := h; exact h.stlt
  · obtain ⟨T, rfl, h⟩ := h; exact ⟨T, rfl, h.only hk hS⟩

set_option maxHeartbeats 1000000 in
theorem cutc_any {b sb pb : Nat} {x : Cf} {ks l : List Int} {ct : Nat} {T : Nat → Prop} (w : World) (h : Cw b sb pb x ks l ct w T) : Calls Try.prog 20 #[.pointer (some ⟨b, 0, none⟩)] w fun e w' => e = .returned (.int .i64 (ct : Nat)) ∧ w = w' := by
  have c3 := h.c3
  have R := Lib.hid h.rcs
  clear h
  go_enter Try.func20, Try.ntmps20
  rcases R.out with ⟨h1, r⟩ | ⟨h1, _, _, rfl⟩ | ⟨h1, _, rfl, _⟩
  · have Q := Lib.hid r
    rw [ptrP, h1, cond_true] at c3
    clear r R
    go_wp2_with fail
    refine (cut_any w Q.out).mono ?_
    rintro e w1 ⟨rfl, rfl⟩
    go_wp2
    go_ret
    exact ⟨rfl, by simp⟩
  · rw [ptrP, h1, cond_false] at c3
    go_wp2
    go_ret
    exact ⟨rfl, by simp⟩
  · rw [ptrP, h1, cond_false] at c3
    go_wp2
    go_ret
    exact ⟨rfl, by simp⟩

/-- Bytes come out; the records are told anew. -/
def RcsPost (P : World → (Nat → Prop) → Prop) (T : Nat → Prop) (os : List Int) (w : World) (e : Ending) (w' : World) : Prop :=
  ∃ A m c T', e = .returned (.slice A m c) ∧ Bytes w' A m c os ∧ (A = none → m = 0 ∧ c = 0) ∧ P w' T' ∧ Only T w w' ∧ ∀ d, T' d → T d ∨ w.heap.size ≤ d

set_option maxHeartbeats 2000000 in
theorem putr_any (b sb pb : Nat) (x : Cf) (ks l : List Int) (ct : Nat) (T : Nat → Prop) (A : Option Addr) (n c : Nat) (zs os l2 : List Int) (ct2 : Nat) (w : World) (h : Cw b sb pb x ks l ct w T) (hB : Bytes w A n c zs) (hN : A = none → n = 0 ∧ c = 0) (hA : ∀ g o, A = some ⟨g, o, none⟩ → 0 < n → ¬ T g) (hare : Are zs) (hcb : x.cb ≤ 500) (hn : n ≤ 1700) (hl : l.length ≤ 100000) (hct : ct ≤ 100000)
    (ho : x.rOut l zs = os) (hl2 : x.rRest l zs = l2) (hc2 : ct + x.rCut l zs = ct2) :
    Calls Try.prog 57 #[.pointer (some ⟨b, 0, none⟩), .slice A n c] w (RcsPost (Cw b sb pb x ks l2 ct2) T os w) := by
  have H := Lib.hid h; have HB := Lib.hid hB; have HN := Lib.hid hN; have HA := Lib.hid hA; have HR := Lib.hid hare
  have c3 := h.c3; have c4 := h.c4
  have AL := Lib.hid (show Are l2 by rw [← hl2]; exact are_rRest x h.al hare)
  have OK := Lib.hid (show x.Ok l2 by rw [← hl2]; exact ok_rest x zs h.ok)
  have R := Lib.hid h.rcs
  have hK := K_le hcb
  have hKn : x.K * n ≤ 900000 := Nat.le_trans (Nat.mul_le_mul hK hn) (by decide)
  clear h hB hN hA hare
  go_enter Try.func57, Try.ntmps57
  rcases R.out with ⟨h1, r⟩ | ⟨h1, h2, r, rfl⟩ | ⟨h1, h2, rfl, hT⟩
  · have Q := Lib.hid r
    have EO := Lib.hid (show pOut x.K l zs = os by rw [← ho, Cf.rOut, h1]; rfl)
    have EL := Lib.hid (show pLine l zs = l2 by rw [← hl2, Cf.rRest, h1]; rfl)
    have EC := Lib.hid (show ct + pCut x.K l zs = ct2 by rw [← hc2, Cf.rCut, h1]; rfl)
    rw [ptrP, h1, cond_true] at c3
    have H1 := Lib.hid h1
    clear r R ho hl2 hc2 h1
    go_wp2_with fail
    refine (putp_any pb x.K l ct T A n c zs os l2 ct2 w Q.out HB.out HN.out HA.out HR.out (by omega) hKn (by omega) EO.out EL.out EC.out).mono ?_
    rintro e w1 ⟨A1, m1, cc1, T1, rfl, q1, q2, q3, q4, q5⟩
    have F := Lib.hid (show RcsPost (Cw b sb pb x ks l2 ct2) T os w (.returned (.slice A1 m1 cc1)) w1 from ⟨A1, m1, cc1, T1, rfl, q1.bytes.1, q1.bytes.2, H.out.recs (.inl ⟨H1.out, q3⟩) q4 q5 AL.out OK.out, q4, q5⟩)
    clear q1 q2 q3 q4 q5
    go_wp2
    go_ret
    exact F.out
  · have Q := Lib.hid r
    have EO := Lib.hid (show uOut x.K l zs = os by rw [← ho, Cf.rOut, h1, h2]; rfl)
    have EL := Lib.hid (show uRest x.K l zs = l2 by rw [← hl2, Cf.rRest, h1, h2]; rfl)
    obtain rfl : ct2 = 0 := by rw [← hc2, Cf.rCut, h1]; rfl
    have hlt : l.length < x.K := by have := H.out.ok; rw [Cf.Ok, h1, h2] at this; exact this
    rw [ptrP, h1, cond_false] at c3
    rw [ptrU, h2, cond_true] at c4
    have H1 := Lib.hid h1; have H2 := Lib.hid h2
    clear r R ho hl2 hc2 h1 h2
    go_wp2_with fail
    refine (putu_any pb x.K l none T A n c zs os l2 w Q.out HB.out HA.out hlt (by omega) EO.out EL.out).mono ?_
    rintro e w1 ⟨A1, m1, cc1, T1, rfl, q1, q2, q3, q4, q5⟩
    have F := Lib.hid (show RcsPost (Cw b sb pb x ks l2 0) T os w (.returned (.slice A1 m1 cc1)) w1 from ⟨A1, m1, cc1, T1, rfl, q1.bytes.1, q1.bytes.2, H.out.recs (.inr (.inl ⟨H1.out, H2.out, q3, rfl⟩)) q4 q5 AL.out OK.out, q4, q5⟩)
    clear q1 q2 q3 q4 q5
    go_wp2
    go_ret
    exact F.out
  · obtain rfl : zs = os := by rw [← ho, Cf.rOut, h1, h2]; rfl
    obtain rfl : [] = l2 := by rw [← hl2, Cf.rRest, h1, h2]; rfl
    obtain rfl : ct2 = 0 := by rw [← hc2, Cf.rCut, h1]; rfl
    rw [ptrP, h1, cond_false] at c3
    rw [ptrU, h2, cond_false] at c4
    have H1 := Lib.hid h1; have H2 := Lib.hid h2; have HT := Lib.hid hT
    clear R ho hl2 hc2 h1 h2 hT
    go_wp2
    go_ret
    exact ⟨A, n, c, T, rfl, HB.out, HN.out, H.out.recs (.inr (.inr ⟨H1.out, H2.out, rfl, HT.out⟩)) (Only.refl _ _) (fun d hd => .inl hd) AL.out OK.out, Only.refl _ _, fun d hd => .inl hd⟩

set_option maxHeartbeats 2000000 in
theorem endr_c (b sb pb : Nat) (x : Cf) (ks l : List Int) (ct : Nat) (T : Nat → Prop) (os : List Int) (ct2 : Nat) (w : World) (h : Cw b sb pb x ks l ct w T) (hl : l.length ≤ 100000) (hct : ct ≤ 100000)
    (ho : x.rEnd l = os) (hc2 : ct + x.rOver l = ct2) :
    Calls Try.prog 49 #[.pointer (some ⟨b, 0, none⟩)] w (RcsPost (Cw b sb pb x ks [] ct2) T os w) := by
  have H := Lib.hid h
  have c3 := h.c3; have c4 := h.c4
  have OK := Lib.hid (ok_nil x)
  have R := Lib.hid h.rcs
  clear h
  go_enter Try.func49, Try.ntmps49
  rcases R.out with ⟨h1, r⟩ | ⟨h1, h2, r, rfl⟩ | ⟨h1, h2, rfl, hT⟩
  · have Q := Lib.hid r
    have EO := Lib.hid (show pEnd x.K l = os by rw [← ho, Cf.rEnd, h1]; rfl)
    have EC := Lib.hid (show ct + over x.K l = ct2 by rw [← hc2, Cf.rOver, h1]; rfl)
    rw [ptrP, h1, cond_true] at c3
    have H1 := Lib.hid h1
    clear r R ho hc2 h1
    go_wp2_with fail
    refine (endp_any pb x.K l ct ct2 T os w Q.out (by omega) (by omega) EC.out EO.out).mono ?_
    rintro e w1 ⟨A1, m1, cc1, T1, rfl, q1, q2, q3, q4, q5⟩
    have F := Lib.hid (show RcsPost (Cw b sb pb x ks [] ct2) T os w (.returned (.slice A1 m1 cc1)) w1 from ⟨A1, m1, cc1, T1, rfl, q1.bytes.1, q1.bytes.2, H.out.recs (.inl ⟨H1.out, q3⟩) q4 q5 Are.nil OK.out, q4, q5⟩)
    clear q1 q2 q3 q4 q5
    go_wp2
    go_ret
    exact F.out
  · have Q := Lib.hid r
    have EO := Lib.hid (show uEnd l = os by rw [← ho, Cf.rEnd, h1, h2]; rfl)
    obtain rfl : ct2 = 0 := by rw [← hc2, Cf.rOver, h1]; rfl
    have hlt : l.length < x.K := by have := H.out.ok; rw [Cf.Ok, h1, h2] at this; exact this
    rw [ptrP, h1, cond_false] at c3
    rw [ptrU, h2, cond_true] at c4
    have H1 := Lib.hid h1; have H2 := Lib.hid h2
    clear r R ho hc2 h1 h2
    go_wp2_with fail
    refine (endu_any pb x.K l none T os w Q.out (by omega) EO.out).mono ?_
    rintro e w1 ⟨A1, m1, cc1, T1, rfl, q1, q2, q3, q4, q5⟩
    have F := Lib.hid (show RcsPost (Cw b sb pb x ks [] 0) T os w (.returned (.slice A1 m1 cc1)) w1 from ⟨A1, m1, cc1, T1, rfl, q1.bytes.1, q1.bytes.2, H.out.recs (.inr (.inl ⟨H1.out, H2.out, q3, rfl⟩)) q4 q5 Are.nil OK.out, q4, q5⟩)
    clear q1 q2 q3 q4 q5
    go_wp2
    go_ret
    exact F.out
  · obtain rfl : [] = os := by rw [← ho, Cf.rEnd, h1, h2]; rfl
    obtain rfl : ct2 = 0 := by rw [← hc2, Cf.rOver, h1]; rfl
    rw [ptrP, h1, cond_false] at c3
    rw [ptrU, h2, cond_false] at c4
    have H1 := Lib.hid h1; have H2 := Lib.hid h2; have HT := Lib.hid hT
    clear R ho hc2 h1 h2 hT
    go_wp2
    go_ret
    exact ⟨none, 0, 0, T, rfl, (Buf.nil _).bytes.1, fun _ => ⟨rfl, rfl⟩, H.out.recs (.inr (.inr ⟨H1.out, H2.out, rfl, HT.out⟩)) (Only.refl _ _) (fun d hd => .inl hd) Are.nil OK.out, Only.refl _ _, fun d hd => .inl hd⟩

end Go.Proofs.Ytghihmmapignmaa
