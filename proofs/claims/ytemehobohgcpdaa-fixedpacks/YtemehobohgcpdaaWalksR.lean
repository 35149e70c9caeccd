/- Contract of the law FixedRuns itself, which the other laws call. -/
import Derived.Test.YtemehobohgcpdaaWalksG
import Derived.WalkKit
import Derived.WalkSpells
import Derived.WalkLawsBesides
import Derived.Lib.Hide
import Derived.Lib.SlBytesConst
namespace Go.Proofs.Ytemehobohgcpdaa
open Go.RowKit

/-- Bytes of a text that was just written out. -/
theorem const_bytes (w : World) (C : Array Value) (cs : List Int) (n : Nat) (ha : C.toList = cs.map (Value.int .u8)) (hn : cs.length = n) (hm : n ≤ maxLen) :
    ∃ W, (convert 26 26 (.slice (some ⟨w.heap.size, 0, none⟩) n n)).run Try.prog (w.alloc (.cells C 5)) = .ok (.slice (some ⟨w.heap.size, 0, none⟩) n n) W ∧ Bytes W (some ⟨w.heap.size, 0, none⟩) n n cs ∧ Below w.heap.size w W := by
  subst hn
  refine ⟨_, Lib.run_convert_bytes_const (P := Try.prog) w 26 5 C cs.length cs.length Try.underlying26 Try.underlying5, ⟨rfl, Nat.le_refl _, hm, fun _ => ⟨_, _, rfl, by simp, fun k hk => ?_⟩⟩, (Below.refl _ _).alloc (Nat.le_refl _) _⟩
  rw [cell_of_row _ _ _ _ 5 (C.size, C.size + 1) (heap_alloc_new w _), Nat.zero_add, ← Array.getElem?_toList, ha, List.getElem?_map, List.getD_eq_getElem?_getD, List.getElem?_eq_getElem hk]
  rfl

/-- What came out stays when an object changes in whose blocks it does not lie; and it lies in none of its new ones. -/
theorem Buf.pass {w w' : World} {A : Option Addr} {n c : Nat} {zs : List Int} {T T' : Nat → Prop} (h : Buf w A n c zs) (hn : ∀ d, At A d → ¬ T d) (o : Only T w w') (g : ∀ d, T' d → T d ∨ w.heap.size ≤ d) : Buf w' A n c zs ∧ ∀ d, At A d → ¬ T' d := by
  refine ⟨h.only o (fun g' o' s he => hn g' ⟨o', s, he⟩), fun d hd ht => ?_⟩
  rcases g d ht with h1 | h1
  · exact hn d hd h1
  · obtain ⟨o', s, he⟩ := hd
    have := h.at d o' s he
    omega

theorem are_of {l : List Int} (h : l.all (fun z => decide (0 ≤ z ∧ z < 256)) = true) : Are l := by
  intro z hz
  have := List.all_eq_true.1 h z hz
  simpa using this

set_option maxHeartbeats 4000000 in
theorem law_runs (w : World) : Calls Try.prog 3 #[] w fun e w' => e = .returned (.bool true) ∧ Below w.heap.size w w' := by
  go_enter Try.func3, Try.ntmps3
  go_wp2_with fail
  refine (newp_any 3 _ (by decide) (by decide)).mono ?_
  rintro e w1 ⟨b, rfl, F1, s1, k1⟩
  rw [show kOf 3 = 3 from rfl] at F1
  have M1 := Lib.hid (show Mine w w1 (Rc b 3 [] (some (.int .i64 ((0 : Nat) : Int)))) (fun d => d = b) from ⟨F1, fun d hd => by omega, k1⟩)
  clear F1 s1 k1
  go_wp2_with fail
  refine (newu_any 3 _ (by decide) (by decide)).mono ?_
  rintro e w2 ⟨u, rfl, F2, s2, k2⟩
  rw [show kOf 3 = 3 from rfl] at F2
  have D2 := Lib.hid (Mine.both (Rc.keeps _ _ _ _) M1.out F2 (fun d hd => by omega) k2)
  clear F2 s2 k2 M1
  obtain ⟨W3, kc3, by3, k3⟩ := const_bytes w2 #[.int .u8 97, .int .u8 98, .int .u8 10, .int .u8 99, .int .u8 100, .int .u8 101, .int .u8 102, .int .u8 10] [97, 98, 10, 99, 100, 101, 102, 10] 8 rfl rfl (by decide)
  have K3 := Lib.hid k3; have Y3 := Lib.hid by3
  clear k3 by3
  go_wp2_with fail
  have D3 := Lib.hid (D2.out.on (Rc.keeps _ _ _ _) (Rc.keeps _ _ _ _) K3.out)
  refine (putp_any b 3 [] 0 _ _ 8 8 [97, 98, 10, 99, 100, 101, 102, 10] [97, 98, 32, 99, 100, 101] [] 1 _ D3.out.f.obj Y3.out (fun h => by cases h) (fun g o he _ hg => by injection he with he; injection he with he; have := D2.out.f.obj.lt g hg; omega) (are_of (by decide)) (by decide) (by decide) (by decide) (by decide +kernel) (by decide +kernel) (by decide +kernel)).mono ?_
  rintro e w4 ⟨A4, m4, c4, S4, rfl, q1, q2, q3, q4, q5⟩
  obtain rfl : m4 = 6 := q1.1.symm
  have D4 := Lib.hid (D3.out.fst (Rc.keeps _ _ _ _) q3 q4 q5)
  have B4 := Lib.hid q1
  have N4 := Lib.hid (show ∀ d, At A4 d → ¬ (fun d => d = u) d from fun d ⟨o, s, he⟩ hd => by have := (q2 d o s he).1; have := D3.out.g.obj.lt d hd; omega)
  clear q1 q2 q3 q4 q5 D2 K3 D3
  obtain ⟨W5, kc5, by5, k5⟩ := const_bytes w4 #[.int .u8 97, .int .u8 98, .int .u8 32, .int .u8 99] [97, 98, 32, 99] 4 rfl rfl (by decide)
  have K5 := Lib.hid k5; have Y5 := Lib.hid by5
  clear k5 by5
  go_wp2_with fail
  have D5 := Lib.hid (D4.out.on (Rc.keeps _ _ _ _) (Rc.keeps _ _ _ _) K5.out)
  have B5 := Lib.hid (B4.out.on K5.out)
  refine (putu_any u 3 [] none _ _ 4 4 [97, 98, 32, 99] [97, 98, 10] [99] _ D5.out.g.obj Y5.out (fun g o he _ hg => by injection he with he; injection he with he; have := D4.out.g.obj.lt g hg; omega) (by decide) (by decide) (by decide +kernel) (by decide +kernel)).mono ?_
  rintro e w6 ⟨A6, m6, c6, T6, rfl, q1, q2, q3, q4, q5⟩
  obtain rfl : m6 = 3 := q1.1.symm
  have D6 := Lib.hid (D5.out.snd (Rc.keeps _ _ _ _) q3 q4 q5)
  have B6 := Lib.hid (B5.out.pass N4.out q4 q5)
  have C6 := Lib.hid q1
  have N6 := Lib.hid (show ∀ d, At A6 d → ¬ T6 d from fun d ⟨o, s, he⟩ => (q2 d o s he).2)
  clear q1 q2 q3 q4 q5 D4 B4 K5 D5 B5 N4
  go_wp2_with fail
  refine (held_any w6 D6.out.g.obj).mono ?_
  rintro e w7 ⟨rfl, rfl⟩
  go_wp2_with fail
  refine (endu_any u 3 [99] none T6 [99, 10] w6 D6.out.g.obj (by decide) (by decide +kernel)).mono ?_
  rintro e w8 ⟨A8, m8, c8, T8, rfl, q1, q2, q3, q4, q5⟩
  obtain rfl : m8 = 2 := q1.1.symm
  have D8 := Lib.hid (D6.out.snd (Rc.keeps _ _ _ _) q3 q4 q5)
  have B8 := (B6.out.1.pass B6.out.2 q4 q5).1
  have C8 := (C6.out.pass N6.out q4 q5).1
  have t1 : (convert 26 9 (.slice A4 6 c4)).run Try.prog w8 = .ok (.string ⟨#[97, 98, 32, 99, 100, 101]⟩) w8 := text_of B8.bytes.1 B8.bytes.2
  have t2 : (convert 26 9 (.slice A6 3 c6)).run Try.prog w8 = .ok (.string ⟨#[97, 98, 10]⟩) w8 := text_of C8.bytes.1 C8.bytes.2
  have t3 : (convert 26 9 (.slice A8 2 c8)).run Try.prog w8 = .ok (.string ⟨#[99, 10]⟩) w8 := text_of q1.bytes.1 q1.bytes.2
  clear q1 q2 q3 q4 q5 B8 C8 D6 B6 C6 N6
  go_wp2_with fail
  refine (cut_any w8 D8.out.f.obj).mono ?_
  rintro e w9 ⟨rfl, rfl⟩
  go_wp2_with fail
  refine (held_any w8 D8.out.g.obj).mono ?_
  rintro e w10 ⟨rfl, rfl⟩
  go_wp2_with fail
  refine (cbs_any w8 D8.out.f.obj).mono ?_
  rintro e w11 ⟨rfl, rfl⟩
  go_wp2
  go_ret
  exact ⟨by first | rfl | decide | simp, D8.out.f.below⟩

end Go.Proofs.Ytemehobohgcpdaa
