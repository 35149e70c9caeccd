/- Contract of disk.New. -/
import Derived.Test.YtdfjhgibdabeeaaWalksC
import Derived.Test.YtdfjhgibdabeeaaObjs
import Derived.WalkKit
import Derived.WalkSpells
import Derived.WalkLawsBesides
import Derived.Lib.Hide
import Derived.BigQuiet
import Derived.Deep.RegionHeld3
namespace Go.Proofs.Ytdfjhgibdabeeaa
open Go.RowKit

def zero : Nat → Int := fun _ => 0
def NewPost (D : Dev) (w : World) (e : Ending) (w' : World) : Prop :=
  ∃ b y S, e = .returned (.pointer (some ⟨b, 0, none⟩)) ∧ Dk b y D zero 0 w' S ∧ (∀ d, S d → w.heap.size ≤ d) ∧ Below w.heap.size w w'

theorem new_zero (w w1 : World) (k : Below w.heap.size w w1) : NewPost Dev.none w (.returned (.pointer (some ⟨w1.heap.size, 0, none⟩))) (w1.alloc (.cells #[.slice none 0 0, .slice none 0 0, .slice none 0 0, .int .i64 0] 52)) := by
  have hb := heap_alloc_new w1 (.cells #[.slice none 0 0, .slice none 0 0, .slice none 0 0, .int .i64 0] 52)
  refine ⟨w1.heap.size, ⟨none, 0, 0, none, 0, none, 0, 0⟩, fun d => d = w1.heap.size, rfl, ⟨rfl, fun d hd => by subst hd; simp, (fun d _ h => absurd h (by simp)), (fun d _ h => absurd h (by simp)), (fun d _ h => absurd h (by simp)), rfl, ?_, ?_, ?_, ?_, frozen_of_row _ _ _ _ 52 hb, nums_nil _ _, ⟨fun _ => rfl, fun h => absurd h (by simp)⟩, nums_nil _ _⟩, fun d hd => by rw [show d = w1.heap.size from hd]; exact k.size, k.alloc k.size _⟩
  all_goals (rw [cell_of_row _ _ _ _ 52 (0, 0) hb]; rfl)

theorem new_may {D : Dev} {w w1 w2 w3 w4 : World} {A1 A2 A3 : Option Addr} {n1 c1 m n3 c3 : Nat} (k1 : Below w.heap.size w w1) (p2 : Nums .u8 w2 A1 n1 c1 D.data) (q2 : New w1 A1) (k2 : Below w1.heap.size w1 w2)
    (p3 : Secs w3 A2 m (isBad D.bad) (leftOf D zero)) (q3 : New w2 A2) (k3 : Below w2.heap.size w2 w3) (p4 : Nums .i64 w4 A3 n3 c3 D.shorts) (q4 : New w3 A3) (k4 : Below w3.heap.size w3 w4) (hm : m = D.m) (w5 : World) (k5 : Below w4.heap.size w4 w5) :
    NewPost D w (.returned (.pointer (some ⟨w5.heap.size, 0, none⟩))) (w5.alloc (.cells #[.slice A1 n1 c1, .slice A2 m m, .slice A3 n3 c3, .int .i64 0] 52)) := by
  have hb := heap_alloc_new w5 (.cells #[.slice A1 n1 c1, .slice A2 m m, .slice A3 n3 c3, .int .i64 0] 52)
  have s1 := k1.size; have s2 := k2.size; have s3 := k3.size; have s4 := k4.size; have s5 := k5.size
  have K : Below w5.heap.size w5 (w5.alloc (.cells #[.slice A1 n1 c1, .slice A2 m m, .slice A3 n3 c3, .int .i64 0] 52)) := (Below.refl _ _).alloc (Nat.le_refl _) _
  have d1 : 0 < n1 → ∀ d, At A1 d → w1.heap.size ≤ d ∧ d < w2.heap.size := fun hn d ⟨o, he⟩ => ⟨q2 d o he, p2.at d o he hn⟩
  have d2 : 0 < m → ∀ d, At A2 d → w2.heap.size ≤ d ∧ d < w3.heap.size := fun hn d ⟨o, he⟩ => ⟨q3 d o he, by obtain ⟨g, he2, hg, _⟩ := p3.cells hn; rw [he2] at he; injection he with he; injection he with he; omega⟩
  have d3 : 0 < n3 → ∀ d, At A3 d → w3.heap.size ≤ d ∧ d < w4.heap.size := fun hn d ⟨o, he⟩ => ⟨q4 d o he, p4.at d o he hn⟩
  refine ⟨w5.heap.size, ⟨A1, n1, c1, A2, m, A3, n3, c3⟩, fun d => d = w5.heap.size ∨ (At A1 d ∧ 0 < n1) ∨ (At A2 d ∧ 0 < m) ∨ (At A3 d ∧ 0 < n3), rfl, ⟨.inl rfl, ?_, ?_, ?_, ?_, hm, ?_, ?_, ?_, ?_, frozen_of_row _ _ _ _ 52 hb, ((p2.on k3).on k4 |>.on k5).on K, ((p3.on k4).on k5).on K, (p4.on k5).on K⟩, ?_, (((((k1.trans (k2.mono k1.size)).trans (k3.mono (by omega))).trans (k4.mono (by omega))).trans (k5.mono (by omega)))).alloc (by omega) _⟩
  · rintro d (rfl | ⟨h, hn⟩ | ⟨h, hn⟩ | ⟨h, hn⟩)
    · simp
    · have := d1 hn d h; simp; omega
    · have := d2 hn d h; simp; omega
    · have := d3 hn d h; simp; omega
  · intro d h hn
    have hd := d1 hn d h
    exact ⟨.inr (.inl ⟨h, hn⟩), by omega, fun e he hm => by have := d2 hm e he; omega⟩
  · intro d h hn
    have hd := d2 hn d h
    exact ⟨.inr (.inr (.inl ⟨h, hn⟩)), by omega⟩
  · intro d h hn
    have hd := d3 hn d h
    exact ⟨.inr (.inr (.inr ⟨h, hn⟩)), by omega, fun e he hm => by have := d2 hm e he; omega⟩
  · rw [cell_of_row _ _ _ _ 52 (0, 0) hb]; rfl
  · rw [cell_of_row _ _ _ _ 52 (0, 0) hb]; rfl
  · rw [cell_of_row _ _ _ _ 52 (0, 0) hb]; rfl
  · rw [cell_of_row _ _ _ _ 52 (0, 0) hb]; rfl
  · rintro d (rfl | ⟨h, hn⟩ | ⟨h, hn⟩ | ⟨h, hn⟩)
    · omega
    · have := d1 hn d h; omega
    · have := d2 hn d h; omega
    · have := d3 hn d h; omega

set_option maxRecDepth 100000 in
set_option maxHeartbeats 4000000 in
theorem new_any (x : Hd) (D : Dev) (w : World) (h : DevIn w x D) (hf : D.few = true) : Calls Try.prog 9 #[x.val] w (NewPost D.eff w) := by
  have H := Lib.hid h; have HF := Lib.hid hf
  have hdn : x.dn ≤ 1000000 ∧ x.hn ≤ 1000000 := by
    have h1 := h.data.len; have h2 := h.shorts.len
    simp [Dev.few] at hf
    omega
  clear h hf
  have K0 := Lib.hid (show Below w.heap.size w (w.alloc (.cells x.cells 30)) from (Below.refl _ _).alloc (Nat.le_refl _) _)
  have B0 := Lib.hid (box_of_row (Row.new w 30 x.cells))
  obtain ⟨X, HX⟩ : ∃ X, x = X := ⟨_, rfl⟩
  obtain ⟨da, dn, dc, ba, bn, bc, sa, sn, sc, ha, hn, hc⟩ := x
  have HX := Lib.hid HX
  replace K0 : Hid (Below w.heap.size w (w.alloc (.cells #[.slice da dn dc, .slice ba bn bc, .slice sa sn sc, .slice ha hn hc] 30))) := K0
  replace B0 : Hid (Box (w.alloc (.cells #[.slice da dn dc, .slice ba bn bc, .slice sa sn sc, .slice ha hn hc] 30)) w.heap.size ⟨da, dn, dc, ba, bn, bc, sa, sn, sc, ha, hn, hc⟩) := B0
  show Calls Try.prog 9 #[.agg #[.slice da dn dc, .slice ba bn bc, .slice sa sn sc, .slice ha hn hc]] w _
  simp only at hdn
  go_enter Try.func9, Try.ntmps9
  go_wp2_with fail
  refine (may_any ⟨da, dn, dc, ba, bn, bc, sa, sn, sc, ha, hn, hc⟩ D _ (H.out.on K0.out)).mono ?_
  rintro e w1 ⟨rfl, k1⟩
  have K1 := Lib.hid (K0.out.trans (k1.mono K0.out.size)); have B1 := Lib.hid (B0.out.on k1)
  clear k1 K0 B0
  obtain ⟨z, hz⟩ : ∃ z, D.may = z := ⟨_, rfl⟩
  rw [hz]
  have HZ := Lib.hid hz
  clear hz
  cases z with
  | false =>
    have HE := Lib.hid (show D.eff = Dev.none by rw [Dev.eff, HZ.out]; rfl)
    go_wp2
    go_ret
    rw [HE.out]
    exact new_zero w w1 K1.out
  | true =>
    have HE := Lib.hid (show D.eff = D by rw [Dev.eff, HZ.out]; rfl)
    have BD := Lib.hid (B1.out.on (Below.refl _ _).drew)
    have KD := Lib.hid (K1.out.drew)
    have HD := Lib.hid (H.out.on KD.out)
    obtain ⟨_, e0, e1, e2, e3⟩ := BD.out
    simp only at e0 e1 e2 e3
    have S0 := And.intro e0 (And.intro e1 (And.intro e2 e3))
    clear e0 e1 e2 e3
    go_wp2_with fail
    go_region_held3 (fun w' => w'.cell? ⟨w.heap.size, 0, none⟩ = some (.slice da dn dc) ∧ w'.cell? ⟨w.heap.size, 1, none⟩ = some (.slice ba bn bc) ∧ w'.cell? ⟨w.heap.size, 2, none⟩ = some (.slice sa sn sc) ∧ w'.cell? ⟨w.heap.size, 3, none⟩ = some (.slice ha hn hc))
      (first | assumption | exact S2 | exact S3 | exact S4 | exact S5)
      (first | (go_at_call 21; refine (clone_bytes da dn dc D.data _ HD.out.data hdn.1).mono ?_; rintro e w2 ⟨A1, c1, rfl, p2, q2, k2⟩; have B2 := BD.out.on k2; have S2 := And.intro B2.c0 (And.intro B2.c1 (And.intro B2.c2 B2.c3)); have H2 := HD.out.on k2) | (go_at_call 22; refine (sectors_any ⟨da, dn, dc, ba, bn, bc, sa, sn, sc, ha, hn, hc⟩ D _ H2 HZ.out HF.out).mono ?_; rintro e w3 ⟨A2, rfl, p3, q3, k3⟩; have B3 := B2.on k3; have S3 := And.intro B3.c0 (And.intro B3.c1 (And.intro B3.c2 B3.c3)); have H3 := H2.on k3) | (go_at_call 23; refine (clone_ints ha hn hc D.shorts _ H3.shorts hdn.2).mono ?_; rintro e w4 ⟨A3, c3, rfl, p4, q4, k4⟩; have B4 := B3.on k4; have S4 := And.intro B4.c0 (And.intro B4.c1 (And.intro B4.c2 B4.c3)); have B5 := B4.on ((Below.refl w4.heap.size w4).alloc (Nat.le_refl _) (.cells #[.slice A1 dn c1, .slice A2 D.m D.m, .slice A3 hn c3, .int .i64 0] 52)); have S5 := And.intro B5.c0 (And.intro B5.c1 (And.intro B5.c2 B5.c3))))
    have Z := Lib.hid (new_may KD.out p2 q2 k2 p3 q3 k3 p4 q4 k4 rfl w4 (Below.refl _ _))
    clear p2 q2 k2 p3 q3 k3 p4 q4 k4 B2 S2 H2 B3 S3 H3 B4 S4 B5 S5 S0
    go_wp2
    go_ret
    rw [HE.out]
    exact Z.out

end Go.Proofs.Ytdfjhgibdabeeaa
