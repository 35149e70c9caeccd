/- The walk of the law OffJoins. -/
import Derived.Test.YtamignakfliocaaRead
import Derived.Test.YtamignakfliocaaPlainJ
import Derived.Test.YtamignakfliocaaWalksC
import Derived.Test.YtamignakfliocaaWalksR
import Derived.WalkKit
import Derived.WalkSpells
import Derived.WalkLawsBesides
import Derived.Lib.Hide
import Derived.Laws.AppendOwnNone
import Derived.Maps.AppendAt
import Derived.Deep.DeepCutAuto
namespace Go.Proofs.Ytamignakfliocaa
open Go.RowKit

theorem info3 : (Try.prog.info? 3).map (fun i => (i.zero, i.size, i.bytes)) = some (some (.int .i64 0), 1, 8) := by kernel_rfl

theorem Ints.blk {w : World} {A : Option Addr} {n : Nat} {zs : List Int} (h : Ints w A n zs) (hn : 0 < n) : ∃ b o, A = some ⟨b, o, none⟩ ∧ b < w.heap.size := by
  obtain ⟨b, o, rfl, hc⟩ := h.2 hn
  exact ⟨b, o, rfl, World.block_lt_of_cell? w _ (hc 0 hn)⟩
theorem Ints.kept {w w' : World} {A : Option Addr} {n : Nat} {zs : List Int} (h : Ints w A n zs) (hk : ∀ b, b < w.heap.size → w'.heap[b]? = w.heap[b]?) : Ints w' A n zs := by
  refine ⟨h.1, fun hn => ?_⟩
  obtain ⟨b, o, rfl, hc⟩ := h.2 hn
  have hb := World.block_lt_of_cell? w _ (hc 0 hn)
  exact ⟨b, o, rfl, fun k hk' => (World.cell?_of_block (w := w) (hk b hb)).trans (hc k hk')⟩

/-- append onto a row of ints of the call's own, from a slice of ints that is nil, empty or not. -/
theorem append_ints {w : World} {ops : Array Oper} {rest : List Oper} {o : Oper} {a : Act} {Q : Exit → Act → World → Prop} (hgd : o.guard = none) (s x : Operand)
    (ho : o.op = .call { callee := .builtin .append, args := #[s, x], argTypes := #[30, 30] })
    (base : Nat) (v : Value) (zs : List Int) (hs : a.eval s = v) (hown : w.ownsRow base 3 1 v zs.length (Plain.intVals zs))
    (A : Option Addr) (m c : Nat) (ys : List Int) (hx : a.eval x = .slice A m c) (hA : Ints w A m ys) (hnil : A = none → c = 0)
    (hb : zs.length + m ≤ 1000) (hbase : base ≤ w.heap.size)
    (h : ∀ v' w', w'.ownsRow base 3 1 v' (zs ++ ys).length (Plain.intVals (zs ++ ys)) → w.grownBy w' v.ownBlock → (v'.ownBlock = v.ownBlock ∨ v'.ownBlock = some w.heap.size) → wpList Try.prog ops Q rest (a.put o.dst v') w') :
    wpList Try.prog ops Q (o :: rest) a w := by
  obtain ⟨i0, hi, hz0, hz1, hz2⟩ := info_parts info3
  have hl := hA.1
  rcases A with _ | ad
  · have hm : m = 0 := by
      rcases Nat.eq_zero_or_pos m with h0 | h0
      · exact h0
      · obtain ⟨b, o', h1, _⟩ := hA.blk h0
        cases h1
    have hc := hnil rfl
    subst hm hc
    have hy : ys = [] := List.eq_nil_of_length_eq_zero hl
    subst hy
    exact wpList_append_own_none hgd s x 30 ho base 3 i0 1 Try.underlying30 hi v zs.length _ hs hown hx (h v w (by simpa using hown) (World.grownBy.refl w _) (.inl rfl))
  · refine wpList_append_own_at w hgd s x 30 ho base 3 i0 (.int .i64 0) 1 8 Try.underlying30 hi hz0 hz1 hz2 rfl (by decide) v zs.length _ hs hown ad m c (Plain.intVals ys) hx (by simp [Plain.intVals, hl]) ?_ ?_ (by unfold maxLen; omega) (by omega) hbase ?_
    · intro j u hu
      have hj : j < ys.length := by
        rcases Nat.lt_or_ge j ys.length with h1 | h1
        · exact h1
        · simp [Plain.intVals, h1] at hu
      obtain ⟨b, o', h1, hc⟩ := hA.2 (by omega)
      injection h1 with h1
      subst h1
      have hcj := hc j (by omega)
      have hu' : u = .int .i64 (ys.getD j 0) := by simpa [Plain.intVals, hj] using hu.symm
      subst hu'
      by_cases hj0 : j = 0
      · subst hj0; simpa [Addr.add] using hcj
      · simpa [Addr.add, hj0] using hcj
    · intro u hu
      simp only [Plain.intVals, List.mem_map] at hu
      obtain ⟨z, _, rfl⟩ := hu
      rfl
    · intro v' w' h1 h2 _ h4
      refine h v' w' ?_ h2 h4
      rw [List.length_append, hl, Plain.intVals, List.map_append]
      exact h1

theorem IsRow.cap0 {w : World} {a : Option Addr} {len cap : Nat} {zs : List Int} (h : IsRow .i64 w a len cap zs) : a = none → cap = 0 := by
  rcases h with ⟨_, _, h, _⟩ | ⟨x, h, _⟩
  · exact fun _ => h
  · intro h2; rw [h] at h2; cases h2

set_option maxRecDepth 100000 in
set_option maxHeartbeats 1000000 in
theorem joins_yes (A : Option Addr) (n c : Nat) (za : List Int) (B : Option Addr) (m d : Nat) (zb : List Int) (w : World) (ra : Ints w A n za) (rb : Ints w B m zb) (nA : A = none → c = 0) (nB : B = none → d = 0) (hn : n ≤ 200) (hm : m ≤ 200) :
    Calls Try.prog 7 #[.slice A n c, .slice B m d] w fun e w' => e = .returned (.bool true) ∧ Below w.heap.size w w' := by
  obtain ⟨j1, j2⟩ := Plain.add_join za zb
  obtain ⟨j3, j4⟩ := Plain.add_swap za zb
  have j5 := Plain.mul_join za zb
  have J1 := Lib.hid j1; have J2 := Lib.hid j2; have J3 := Lib.hid j3; have J4 := Lib.hid j4; have J5 := Lib.hid j5
  clear j1 j2 j3 j4 j5
  have RA := Lib.hid ra; have RB := Lib.hid rb; have NA := Lib.hid nA; have NB := Lib.hid nB
  have LA := Lib.hid ra.1; have LB := Lib.hid rb.1
  clear ra rb nA nB
  go_enter Try.func7, Try.ntmps7
  go_wp2_with (first | (at_builtin; refine append_ints rfl _ _ rfl w.heap.size (.slice none 0 0) [] rfl (World.ownsRow_nil _ _ _ _) A n c za rfl RA.out NA.out (by simp; omega) (Nat.le_refl _) ?_; intro v1 w1 o1 g1 e1; simp only [List.nil_append] at o1; have b1 : Below w.heap.size w w1 := (Below.refl _ _).grown g1 (Nat.le_refl _) (fun k hk => by cases hk); have O1 := Lib.hid o1; clear o1 g1 e1) | (at_builtin; refine append_ints rfl _ _ rfl w.heap.size v1 za rfl O1.out B m d zb rfl (RB.out.kept b1.block) NB.out (by rw [LA.out]; omega) b1.size ?_; intro v2 w2 o2 g2 e2; have b2 : Below w.heap.size w w2 := b1.grown g2 b1.size (fun k hk => (O1.out.lt k hk).1); have O2 := Lib.hid o2; clear o2 g2 e2) | (at_builtin; refine append_ints rfl _ _ rfl w.heap.size (.slice none 0 0) [] rfl (World.ownsRow_nil _ _ _ _) B m d zb rfl (RB.out.kept b2.block) NB.out (by simp; omega) b2.size ?_; intro v3 w3 o3 g3 e3; simp only [List.nil_append] at o3; have b3 : Below w.heap.size w w3 := b2.grown g3 b2.size (fun k hk => by cases hk); have O3 := Lib.hid o3; have G3 := Lib.hid g3; have E3 := Lib.hid e3; clear o3 g3 e3) | (at_builtin; refine append_ints rfl _ _ rfl w.heap.size v3 zb rfl O3.out A n c za rfl (RA.out.kept b3.block) NA.out (by rw [LB.out]; omega) b3.size ?_; intro v4 w4 o4 g4 e4; have b4 : Below w.heap.size w w4 := b3.grown g4 b3.size (fun k hk => (O3.out.lt k hk).1); have O4 := Lib.hid o4; have G4 := Lib.hid g4; clear o4 g4 e4))
  have o4 := O4.out
  have o2' : w4.ownsRow w.heap.size 3 1 v2 (za ++ zb).length (Plain.intVals (za ++ zb)) := by
    have h3 : w3.ownsRow w.heap.size 3 1 v2 (za ++ zb).length (Plain.intVals (za ++ zb)) := O2.out.kept G3.out (by cases v2.ownBlock <;> simp [Value.ownBlock])
    refine h3.kept G4.out ?_
    rcases hv : v2.ownBlock with _ | g
    · exact .inl rfl
    · right
      have h4 := (O2.out.lt g hv).2
      rcases E3.out with h5 | h5
      · rw [h5]; simp [Value.ownBlock]
      · rw [h5]; simp; omega
  obtain ⟨A2, c2, rfl, r2, _⟩ := own_ints o2'
  obtain ⟨A4, c4, rfl, r4, _⟩ := own_ints o4
  have R2 := Lib.hid r2; have R4 := Lib.hid r4
  have RA4 := Lib.hid (RA.out.kept b4.block); have RB4 := Lib.hid (RB.out.kept b4.block)
  clear r2 r4 o2' o4 O2 O4 O1 O3 G3 G4 E3 b1 b2 b3 RA RB NA NB
  have L2 := Lib.hid (show (za ++ zb).length ≤ maxLen by unfold maxLen; rw [List.length_append, LA.out, LB.out]; omega)
  have L4 := Lib.hid (show (zb ++ za).length ≤ maxLen by unfold maxLen; rw [List.length_append, LA.out, LB.out]; omega)
  have ML := Lib.hid (show n ≤ maxLen ∧ m ≤ maxLen by unfold maxLen; omega)
  generalize (za ++ zb).length = n2 at *
  generalize (zb ++ za).length = n4 at *
  refine (add_any _ _ _ za _ ML.out.1 RA4.out).mono ?_
  rintro e w5 ⟨rfl, rfl⟩
  go_wp2_with fail
  refine (add_any _ _ _ zb _ ML.out.2 RB4.out).mono ?_
  rintro e w5 ⟨rfl, rfl⟩
  go_wp2_with fail
  refine (add_any _ _ _ (za ++ zb) _ L2.out R2.out).mono ?_
  rintro e w5 ⟨rfl, rfl⟩
  go_wp2_with fail
  refine (add_any _ _ _ (zb ++ za) _ L4.out R4.out).mono ?_
  rintro e w5 ⟨rfl, rfl⟩
  rw [J3.out, J4.out]
  go_wp2_with fail
  refine (add_any _ _ _ [Plain.addV za, Plain.addV zb] _ (by decide) (ints_two _ _ _ _)).mono ?_
  rintro e w5 ⟨rfl, rfl⟩
  have b5 : Below w.heap.size w (w4.alloc (.cells #[.int .i64 (Plain.addV za), .int .i64 (Plain.addV zb)] 3)) := b4.alloc b4.size _
  have RA5 := Lib.hid (RA4.out.kept (Below.heap_alloc w4 (.cells #[.int .i64 (Plain.addV za), .int .i64 (Plain.addV zb)] 3)))
  have RB5 := Lib.hid (RB4.out.kept (Below.heap_alloc w4 (.cells #[.int .i64 (Plain.addV za), .int .i64 (Plain.addV zb)] 3)))
  have R25 := Lib.hid (R2.out.kept (Below.heap_alloc w4 (.cells #[.int .i64 (Plain.addV za), .int .i64 (Plain.addV zb)] 3)))
  clear RA4 RB4 R2 R4 J3 J4 L4
  generalize Plain.addOk [Plain.addV za, Plain.addV zb] = may at *
  generalize Plain.addV [Plain.addV za, Plain.addV zb] = u at *
  generalize Plain.addOk (za ++ zb) = has at *
  generalize Plain.addV (za ++ zb) = z at *
  generalize Plain.addOk za = ok at *
  generalize Plain.addOk zb = is' at *
  go_upto_region 10 with fail
  go_cut [95] (fun s wx => s = .bool false ∧ Hid (Ints wx A n za) ∧ Hid (Ints wx B m zb) ∧ Hid (Ints wx A2 n2 (za ++ zb)) ∧ Below w.heap.size w wx)
  case first =>
    have jh := J1.out
    have jz := J2.out
    clear J1 J2
    cases ok
    · simp only [Bool.false_and] at jh
      subst jh
      clear jz
      go_wp2_with fail
      go_meet
      exact ⟨rfl, RA5, RB5, R25, b5⟩
    · cases is'
      · simp only [Bool.and_false, Bool.false_and] at jh
        subst jh
        clear jz
        go_wp2_with fail
        go_meet
        exact ⟨rfl, RA5, RB5, R25, b5⟩
      · cases may
        · simp only [Bool.and_false] at jh
          subst jh
          clear jz
          go_wp2_with fail
          go_meet
          exact ⟨rfl, RA5, RB5, R25, b5⟩
        · simp only [Bool.and_true] at jh
          subst jh
          have hzu := jz rfl
          subst hzu
          clear jz
          go_wp2_with fail
          go_meet
          exact ⟨by simp, RA5, RB5, R25, b5⟩
  case rest =>
    obtain ⟨rfl, RA6, RB6, R26, b6⟩ := hcut
    clear RA5 RB5 R25 b5 b4 J1 J2
    go_wp2_with fail
    refine (mul_any _ _ _ za _ ML.out.1 RA6.out).mono ?_
    rintro e w7 ⟨rfl, rfl⟩
    go_wp2_with fail
    refine (mul_any _ _ _ zb _ ML.out.2 RB6.out).mono ?_
    rintro e w7 ⟨rfl, rfl⟩
    go_wp2_with fail
    refine (mul_any _ _ _ (za ++ zb) _ L2.out R26.out).mono ?_
    rintro e w7 ⟨rfl, rfl⟩
    go_wp2_with fail
    refine (mul_any _ _ _ [Plain.mulV za, Plain.mulV zb] _ (by decide) (ints_two _ _ _ _)).mono ?_
    rintro e w7 ⟨rfl, rfl⟩
    have j5 := J5.out
    clear J5
    generalize Plain.mulOk [Plain.mulV za, Plain.mulV zb] = did at *
    generalize Plain.mulV [Plain.mulV za, Plain.mulV zb] = t at *
    generalize Plain.mulOk (za ++ zb) = does at *
    generalize Plain.mulV (za ++ zb) = r at *
    generalize Plain.mulOk za = can at *
    generalize Plain.mulOk zb = could at *
    cases can
    · clear j5
      go_wp2_with fail
      refine (runs_any _).mono ?_
      rintro e w8 ⟨rfl, k8⟩
      go_wp2
      go_ret
      exact ⟨by simp, below2 (b6.alloc b6.size _) k8 (by have := b6.size; simp; omega)⟩
    · cases could
      · clear j5
        go_wp2_with fail
        refine (runs_any _).mono ?_
        rintro e w8 ⟨rfl, k8⟩
        go_wp2
        go_ret
        exact ⟨by simp, below2 (b6.alloc b6.size _) k8 (by have := b6.size; simp; omega)⟩
      · obtain ⟨h1, h2⟩ := j5 rfl rfl
        subst h1 h2
        clear j5
        go_wp2_with fail
        refine (runs_any _).mono ?_
        rintro e w8 ⟨rfl, k8⟩
        go_wp2
        go_ret
        exact ⟨by simp, below2 (b6.alloc b6.size _) k8 (by have := b6.size; simp; omega)⟩

set_option maxRecDepth 100000 in
set_option maxHeartbeats 1000000 in
theorem joins_long (A : Option Addr) (n c : Nat) (B : Option Addr) (m d : Nat) (w : World) (hn2 : n ≤ 9223372036854775807) (hm2 : m ≤ 9223372036854775807) (h : ¬ (n ≤ 200 ∧ m ≤ 200)) :
    Calls Try.prog 7 #[.slice A n c, .slice B m d] w fun e w' => e = .returned (.bool true) ∧ Below w.heap.size w w' := by
  by_cases hn : n ≤ 200
  · have hm : ¬ m ≤ 200 := fun hm => h ⟨hn, hm⟩
    clear h
    go_enter Try.func7, Try.ntmps7
    go_wp2_with fail
    refine (runs_any _).mono ?_
    rintro e w8 ⟨rfl, k8⟩
    go_wp2
    go_ret
    exact ⟨rfl, k8⟩
  · clear h
    go_enter Try.func7, Try.ntmps7
    go_wp2_with fail
    refine (runs_any _).mono ?_
    rintro e w8 ⟨rfl, k8⟩
    go_wp2
    go_ret
    exact ⟨rfl, k8⟩

theorem joins_walk (A : Option Addr) (n c : Nat) (ys : List Int) (B : Option Addr) (m d : Nat) (xs : List Int) (w : World) (ha : IsRow .i64 w A n c ys) (hb : IsRow .i64 w B m d xs) :
    Calls Try.prog 7 #[.slice A n c, .slice B m d] w fun e w' => e = .returned (.bool true) ∧ Below w.heap.size w w' := by
  obtain ⟨ra, la⟩ := ha.ints
  obtain ⟨rb, lb⟩ := hb.ints
  unfold maxLen at la lb
  by_cases h : n ≤ 200 ∧ m ≤ 200
  · exact joins_yes A n c _ B m d _ w ra rb ha.cap0 hb.cap0 h.1 h.2
  · exact joins_long A n c B m d w la lb h

end Go.Proofs.Ytamignakfliocaa
