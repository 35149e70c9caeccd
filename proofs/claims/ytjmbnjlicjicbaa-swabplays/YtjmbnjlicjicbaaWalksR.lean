/- Contract of the law SwabRuns itself, which the other laws call. -/
import Derived.Test.YtjmbnjlicjicbaaWalksB
import Derived.WalkKit
import Derived.WalkSpells
import Derived.WalkLawsBesides
import Derived.Lib.Hide
namespace Go.Proofs.Ytjmbnjlicjicbaa
open Go.RowKit

/-- Bytes that were just written out. -/
theorem bytes_new (w : World) (arr : Array Value) (cs : List Int) (t : TypeId) (s n : Nat) (hs : s = w.heap.size) (ha : arr.toList = cs.map (Value.int .u8)) (hn : cs.length = n) (hm : n ≤ maxLen) :
    Bytes (w.alloc (.cells arr t)) (some ⟨s, 0, none⟩) n n cs := by
  subst hs hn
  refine ⟨rfl, Nat.le_refl _, hm, fun _ => ⟨_, _, rfl, by simp, fun k hk => ?_⟩⟩
  have hb := World.news_of_block (w := w.alloc (.cells arr t)) (heap_alloc_new w (.cells arr t)) k (.int .u8 (cs.getD k 0)) (by rw [ha, List.getElem?_map, List.getD_eq_getElem?_getD, List.getElem?_eq_getElem hk]; rfl)
  by_cases h0 : k = 0
  · subst h0; simpa [Addr.add] using hb
  · simpa [Addr.add, h0] using hb

/-- A Swab that was made behind W; what was there in W is as it was. -/
structure Mine (W w : World) (b : Nat) (on : Bool) (ks : List Int) : Prop where
  sw : Sw w b on ks
  new : W.heap.size ≤ b
  below : Below W.heap.size W w
theorem Mine.next {W w w' : World} {b : Nat} {on : Bool} {ks ks' : List Int} (h : Mine W w b on ks) (f : Sw w' b on ks') (o : Only (fun d => d = b) w w') : Mine W w' b on ks' :=
  ⟨f, h.new, h.below.trans (o.below h.below.size (fun d hd => by subst hd; exact h.new))⟩
theorem Mine.on {W w w' : World} {b : Nat} {on : Bool} {ks : List Int} (h : Mine W w b on ks) (o : Below w.heap.size w w') : Mine W w' b on ks :=
  ⟨h.sw.on' o, h.new, h.below.trans (o.mono h.below.size)⟩

/-- What came out stays, whatever the Swab does. -/
theorem Buf.keep {w w' : World} {b : Nat} {A : Option Addr} {n c : Nat} {zs : List Int} (h : Buf w A n c zs) (k : Only (fun d => d = b) w w') (N : Nat) (hA : ∀ g o s, A = some ⟨g, o, s⟩ → N ≤ g) (hb : b < N) : Buf w' A n c zs :=
  h.only k (fun g o s he hg => by have := hA g o s he; omega)

set_option maxHeartbeats 2000000 in
theorem law_runs (w : World) : Calls Try.prog 3 #[] w fun e w' => e = .returned (.bool true) ∧ Below w.heap.size w w' := by
  go_enter Try.func3, Try.ntmps3
  go_wp2_with fail
  refine (new_any true _).mono ?_
  rintro e w1 ⟨b, rfl, F1, s1, k1⟩
  have M1 := Lib.hid (show Mine w w1 b true [] from ⟨F1, s1, k1⟩)
  clear k1 F1 s1
  go_wp2_with fail
  have M2 := Lib.hid (M1.out.on ((Below.refl _ _).alloc (Nat.le_refl _) (.cells #[.int .u8 1, .int .u8 2, .int .u8 3] 5)))
  refine (put_any b true [] _ 3 3 [1, 2, 3] [2, 1] [3] _ M2.out.sw (bytes_new w1 #[.int .u8 1, .int .u8 2, .int .u8 3] [1, 2, 3] 5 _ 3 rfl rfl rfl (by decide)) (fun h => by cases h) (fun g o he _ hg => by injection he with he; injection he with he; have := M1.out.sw.lt; omega) (by omega) rfl rfl).mono ?_
  rintro e w2 ⟨A2, m2, c2, rfl, q1, q2, q3, q4⟩
  have M3 := Lib.hid (M2.out.next q3 q4)
  obtain rfl : m2 = 2 := q1.1.symm
  have B3 := Lib.hid q1
  have N3 := Lib.hid (show ∀ g o s, A2 = some ⟨g, o, s⟩ → w1.heap.size ≤ g from fun g o s he => Nat.le_trans (by simp) (q2 g o s he))
  clear q1 q2 q3 q4 M2
  go_wp2_with fail
  have K4 := Lib.hid (show Below w2.heap.size w2 (w2.alloc (.cells #[.int .u8 4] 5)) from (Below.refl _ _).alloc (Nat.le_refl _) (.cells #[.int .u8 4] 5))
  have M4 := Lib.hid (M3.out.on K4.out)
  have B4 := Lib.hid (B3.out.only (S := fun _ => False) (Only.of_below K4.out) (fun _ _ _ _ h => h))
  refine (put_any b true [3] _ 1 1 [4] [4, 3] [] _ M4.out.sw (bytes_new w2 #[.int .u8 4] [4] 5 _ 1 rfl rfl rfl (by decide)) (fun h => by cases h) (fun g o he _ hg => by injection he with he; injection he with he; have := M3.out.sw.lt; omega) (by omega) rfl rfl).mono ?_
  rintro e w3 ⟨A3, m3, c3, rfl, q1, q2, q3, q4⟩
  have M5 := Lib.hid (M4.out.next q3 q4)
  obtain rfl : m3 = 2 := q1.1.symm
  have B5 := Lib.hid (B4.out.keep q4 _ N3.out M1.out.sw.lt)
  have C5 := Lib.hid q1
  have L5 := Lib.hid (show ∀ g o s, A3 = some ⟨g, o, s⟩ → w2.heap.size ≤ g from fun g o s he => Nat.le_trans (by simp) (q2 g o s he))
  clear q1 q2 q3 q4 M4 B4 B3 K4
  go_wp2_with fail
  refine (end_any b true [] w3 M5.out.sw).mono ?_
  rintro e w4 ⟨A4, m4, c4, rfl, q1, q2, q3, q4⟩
  have M6 := Lib.hid (M5.out.next q3 q4)
  obtain rfl : m4 = 0 := q1.1.symm
  have B6 := B5.out.keep q4 _ N3.out M1.out.sw.lt
  have C6 := C5.out.keep q4 _ L5.out M3.out.sw.lt
  have t1 : (convert 24 9 (.slice A2 2 c2)).run Try.prog w4 = .ok (.string ⟨#[2, 1]⟩) w4 := text_of B6.bytes.1 B6.bytes.2
  have t2 : (convert 24 9 (.slice A3 2 c3)).run Try.prog w4 = .ok (.string ⟨#[4, 3]⟩) w4 := text_of C6.bytes.1 C6.bytes.2
  clear q1 q2 q3 q4 B6 C6 M5 M1 M3 B5 C5 N3 L5
  go_wp2
  go_ret
  exact ⟨by first | rfl | decide | simp, M6.out.below⟩

end Go.Proofs.Ytjmbnjlicjicbaa
