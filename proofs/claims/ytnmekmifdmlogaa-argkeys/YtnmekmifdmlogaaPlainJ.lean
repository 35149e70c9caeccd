/- The plain mathematics of the law ArgJoined: letters in one argument, in several; what Flags gave, in memory. -/
import Derived.Test.YtnmekmifdmlogaaLawR
namespace Go.Proofs.Ytnmekmifdmlogaa
open Go.RowKit
open Plain

def spJ : ByteArray := ⟨#[97, 98, 99, 118, 58]⟩
def abc (c : UInt8) : Prop := c = 97 ∨ c = 98 ∨ c = 99
def chs (zs : List Int) : List UInt8 := zs.map fun z => UInt8.ofNat (97 + (z.tmod 3).toNat)
def ltr (c : UInt8) : Pr := (bs [c], ⟨#[]⟩)
theorem chs_abc (zs : List Int) : ∀ c ∈ chs zs, abc c := by
  intro c hc
  obtain ⟨z, _, rfl⟩ := List.mem_map.1 hc
  have h : (z.tmod 3).toNat < 3 := by
    have := Int.tmod_lt_of_pos z (show (0 : Int) < 3 by omega)
    omega
  match hq : (z.tmod 3).toNat, h with
  | 0, _ => exact .inl rfl
  | 1, _ => exact .inr (.inl rfl)
  | 2, _ => exact .inr (.inr rfl)
theorem spJ_may : isSpec spJ = true := by decide +kernel
theorem abc_known {c : UInt8} (h : abc c) : known (tx spJ) c = true ∧ valued (tx spJ) c = false ∧ c ≠ 45 := by
  rcases h with rfl | rfl | rfl <;> exact ⟨by decide +kernel, by decide +kernel, by decide⟩
theorem v_known : known (tx spJ) 118 = true ∧ valued (tx spJ) 118 = true := ⟨by decide +kernel, by decide +kernel⟩
theorem lets_abc (nx : Option ByteArray) (r : List UInt8) : ∀ (cs : List UInt8) (out : List Pr), (∀ c ∈ cs, abc c) → lets (tx spJ) nx (cs ++ r) out = lets (tx spJ) nx r (out ++ cs.map ltr)
  | [], out, _ => by simp
  | c :: cs, out, h => by
    obtain ⟨h1, h2, _⟩ := abc_known (h c (by simp))
    rw [List.cons_append, lets_on h1 h2, lets_abc nx r cs _ (fun x hx => h x (by simp [hx]))]
    simp [ltr, bs]
theorem lets_v (nx : Option ByteArray) (r : List UInt8) (out : List Pr) : lets (tx spJ) nx (118 :: r) out = letEnd nx 118 out r := lets_val v_known.1 v_known.2
/-- An argument of letters. -/
theorem arg_of {cs : List UInt8} {r : List UInt8} (h : ∀ c ∈ cs, abc c) (hr : cs = [] → ∃ x r', r = x :: r' ∧ x ≠ 45) (hne : cs ++ r ≠ []) :
    tx (bs (45 :: (cs ++ r))) ≠ [45, 45] ∧ isOpt (bs (45 :: (cs ++ r))) = true ∧ (tx (bs (45 :: (cs ++ r)))).drop 1 = cs ++ r ∧ (cs ++ r).getD 0 0 ≠ 45 := by
  have hh : ∃ x l, cs ++ r = x :: l ∧ x ≠ 45 := by
    cases cs with
    | nil =>
      obtain ⟨x, r', rfl, hx⟩ := hr rfl
      exact ⟨x, r', rfl, hx⟩
    | cons c cs => exact ⟨c, cs ++ r, rfl, (abc_known (h c (by simp))).2.2⟩
  obtain ⟨x, l, he, hx⟩ := hh
  rw [he, tx_bs]
  refine ⟨?_, ?_, rfl, by simpa using hx⟩
  · intro e
    injection e with _ e
    injection e with e _
    exact hx e
  · rw [isOpt, ← tx_len, tx_bs]
    simp
theorem optsOf_lets {sp : List UInt8} {nx : Option ByteArray} {a : List UInt8} {out : List Pr} (h : a.getD 0 0 ≠ 45) : optsOf sp nx a out = lets sp nx a out := by rw [optsOf, if_neg h]
theorem dash2 (f : Nat) (rest : List ByteArray) (os : List Pr) : flagsGo (tx spJ) (f + 1) (⟨#[45, 45]⟩ :: rest) os [] = some (os, rest) := by
  rw [go_end (by rfl), List.nil_append]
/-- Letters and a value in one argument. -/
theorem joined_a (cs : List UInt8) (h : ∀ c ∈ cs, abc c) (val : ByteArray) (hv : tx val ≠ []) (f : Nat) (rest : List ByteArray) :
    flagsGo (tx spJ) (f + 1 + 1) (bs (45 :: (cs ++ 118 :: tx val)) :: ⟨#[45, 45]⟩ :: rest) [] [] = some (cs.map ltr ++ [(bs [118], val)], rest) := by
  obtain ⟨h1, h2, h3, h4⟩ := arg_of (r := 118 :: tx val) h (fun _ => ⟨118, _, rfl, by decide⟩) (by simp)
  rw [go_opt (n := 0) (os2 := cs.map ltr ++ [(bs [118], val)]) h1 h2 (by
    rw [h3, optsOf_lets h4, lets_abc _ _ _ _ h, lets_v, letEnd_here hv, bs_tx]; simp)]
  rw [List.drop_zero, List.nil_append]
  exact dash2 f rest _
theorem joined_c (cs : List UInt8) (h : ∀ c ∈ cs, abc c) (val : ByteArray) (f : Nat) (rest : List ByteArray) :
    flagsGo (tx spJ) (f + 1 + 1) (bs (45 :: (cs ++ [118])) :: val :: ⟨#[45, 45]⟩ :: rest) [] [] = some (cs.map ltr ++ [(bs [118], val)], rest) := by
  obtain ⟨h1, h2, h3, h4⟩ := arg_of (r := [118]) h (fun _ => ⟨118, _, rfl, by decide⟩) (by simp)
  rw [go_opt (n := 1) (os2 := cs.map ltr ++ [(bs [118], val)]) h1 h2 (by
    rw [h3, optsOf_lets h4, lets_abc _ _ _ _ h, lets_v]; simp [letEnd])]
  rw [List.nil_append]
  exact dash2 f rest _
theorem many_on (X rs : List ByteArray) (f : Nat) : ∀ (cs : List UInt8) (os : List Pr), (∀ c ∈ cs, abc c) → flagsGo (tx spJ) (f + cs.length) (cs.map (fun c => bs [45, c]) ++ X) os rs = flagsGo (tx spJ) f X (os ++ cs.map ltr) rs
  | [], os, _ => by simp
  | c :: cs, os, h => by
    obtain ⟨h1, h2, h3, h4⟩ := arg_of (cs := [c]) (r := []) (fun x hx => h x (by simp at hx; simp [hx])) (fun e => by cases e) (by simp)
    simp only [List.cons_append, List.nil_append] at h1 h2 h3 h4
    rw [List.map_cons, List.cons_append, List.length_cons, ← Nat.add_assoc, go_opt (n := 0) (os2 := [ltr c]) h1 h2 (by
      rw [h3, optsOf_lets h4, lets_on (abc_known (h c (by simp))).1 (abc_known (h c (by simp))).2.1, lets]; rfl)]
    rw [List.drop_zero, many_on X rs f cs _ (fun x hx => h x (by simp [hx]))]
    simp
theorem joined_b (cs : List UInt8) (h : ∀ c ∈ cs, abc c) (val : ByteArray) (f : Nat) (rest : List ByteArray) :
    flagsGo (tx spJ) (f + 1 + 1 + cs.length) (cs.map (fun c => bs [45, c]) ++ (⟨#[45, 118]⟩ :: val :: ⟨#[45, 45]⟩ :: rest)) [] [] = some (cs.map ltr ++ [(bs [118], val)], rest) := by
  rw [many_on _ _ _ _ _ h]
  have := joined_c [] (fun c hc => by cases hc) val f rest
  obtain ⟨h1, h2, h3, h4⟩ := arg_of (cs := []) (r := [118]) (fun x hx => by cases hx) (fun _ => ⟨118, _, rfl, by decide⟩) (by simp)
  rw [show (⟨#[45, 118]⟩ : ByteArray) = bs (45 :: ([] ++ [118])) from rfl]
  rw [go_opt (n := 1) (os2 := [(bs [118], val)]) h1 h2 (by
    rw [h3, optsOf_lets h4, List.nil_append, lets_v]; simp [letEnd])]
  rw [List.nil_append]
  exact dash2 f rest _
theorem fuel_more (sp : List UInt8) : ∀ (f g : Nat) (T : List ByteArray) (os : List Pr) (rs : List ByteArray), T.length ≤ f → T.length ≤ g → flagsGo sp f T os rs = flagsGo sp g T os rs := by
  intro f
  induction f with
  | zero =>
    intro g T os rs hf hg
    obtain rfl : T = [] := List.eq_nil_of_length_eq_zero (by omega)
    rw [flagsGo, flagsGo]
  | succ f ih =>
    intro g T os rs hf hg
    cases T with
    | nil => rw [flagsGo, flagsGo]
    | cons s T =>
      simp at hf hg
      obtain ⟨g, rfl⟩ : ∃ g', g = g' + 1 := ⟨g - 1, by omega⟩
      rw [flagsGo, flagsGo]
      split
      · rfl
      · split
        · exact ih g _ _ _ (by omega) (by omega)
        · cases optsOf sp T.head? ((tx s).drop 1) os with
          | none => rfl
          | some p =>
            obtain ⟨os2, k⟩ := p
            exact ih g _ _ _ (by rw [List.length_drop]; omega) (by rw [List.length_drop]; omega)
theorem flags_of {T : List ByteArray} {f : Nat} {R : Option (List Pr × List ByteArray)} (hn : T.length ≤ 40) (hf : T.length ≤ f) (h : flagsGo (tx spJ) f T [] [] = R) : flags spJ T = R := by
  rw [flags, if_neg (by rw [spJ_may]; simp; omega), fuel_more _ _ f _ _ _ (Nat.le_refl _) hf, h]
theorem find_last (l : List Pr) (k v : ByteArray) : find (l ++ [(k, v)]) k = some v := by
  rw [find, List.length_append, show [(k, v)].length = 0 + 1 from rfl, ← Nat.add_assoc, findTo]
  simp

/-- What Flags gave, in a box, in blocks from B to before H. -/
structure Got (W : World) (B H b : Nat) (v1 v2 : Value) (os : List Pr) (rs : List ByteArray) : Prop where
  r : Row W b 25 #[v1, v2]
  lo : B ≤ b
  hi : b < H
  o : OwnO W B v1 os
  t : OwnT W B v2 rs
  oh : ∀ k, v1.ownBlock = some k → k < H
  th : ∀ k, v2.ownBlock = some k → k < H
section
variable {W W' : World} {B H b : Nat} {v1 v2 : Value} {os : List Pr} {rs : List ByteArray}
theorem Got.on (h : Got W B H b v1 v2 os rs) (k : Below W.heap.size W W') : Got W' B H b v1 v2 os rs := ⟨h.r.on k, h.lo, h.hi, h.o.on k, h.t.on k, h.oh, h.th⟩
theorem Got.grown (h : Got W B H b v1 v2 os rs) {r : Option Nat} (g : W.grownBy W' r) (hr : ∀ k, r = some k → k < B ∨ H ≤ k) : Got W' B H b v1 v2 os rs := by
  have hlo := h.lo; have hhi := h.hi
  have no1 : ∀ k, v1.ownBlock = some k → some k ≠ r := fun k hk e => by
    have h1 := (World.ownsRow.lt h.o k hk).1
    have h2 := h.oh k hk
    have h3 := hr k e.symm
    omega
  have no2 : ∀ k, v2.ownBlock = some k → some k ≠ r := fun k hk e => by
    have h1 := (World.ownsRow.lt h.t k hk).1
    have h2 := h.th k hk
    have h3 := hr k e.symm
    omega
  refine ⟨h.r.grown g (fun e => by have := hr b e.symm; omega), hlo, hhi, World.ownsRow.kept h.o g ?_, World.ownsRow.kept h.t g ?_, h.oh, h.th⟩
  · cases hv : v1.ownBlock with
    | none => exact .inl rfl
    | some k => exact .inr (no1 k hv)
  · cases hv : v2.ownBlock with
    | none => exact .inl rfl
    | some k => exact .inr (no2 k hv)
/-- .. just given. -/
theorem got_new {w0 w1 : World} (h1 : OwnO w1 w0.heap.size v1 os) (h2 : OwnT w1 w0.heap.size v2 rs) (hk : w0.heap.size ≤ w1.heap.size) : Got (w1.alloc (.cells #[v1, v2] 25)) w0.heap.size (w1.heap.size + 1) w1.heap.size v1 v2 os rs :=
  ⟨Row.new _ _ _, hk, by omega, h1.on ((Below.refl _ _).alloc (Nat.le_refl _) _), h2.on ((Below.refl _ _).alloc (Nat.le_refl _) _), fun k e => by have := (World.ownsRow.lt h1 k e).2; omega, fun k e => by have := (World.ownsRow.lt h2 k e).2; omega⟩
end
/-- Flags, as slices of a call's own. -/
theorem flags_own (sp : ByteArray) (A : Option Addr) (n c : Nat) (T : List ByteArray) (os : List Pr) (rs : List ByteArray) (w : World) (hp : sp.size ≤ 1000000) (hT : Strs w A n c T) (hS : ∀ s ∈ T, s.size ≤ 1000) (hF : flags sp T = some (os, rs)) :
    Calls Try.prog 10 #[.string sp, .slice A n c] w fun e w' => ∃ A1 n1 c1 A2 n2 c2, e = .returned (.tuple #[.agg #[.slice A1 n1 c1, .slice A2 n2 c2], .bool true]) ∧ (n1 = os.length ∧ n2 = rs.length) ∧ OwnO w' w.heap.size (.slice A1 n1 c1) os ∧ OwnT w' w.heap.size (.slice A2 n2 c2) rs ∧ Below w.heap.size w w' :=
  (flags_any sp A n c T (some (os, rs)) w hp hT hS hF).mono fun _ _ ⟨v1, v2, h1, h2, h3, h4⟩ => by
    obtain ⟨A1, c1, hv1, _, _⟩ := OwnO.opts h2
    obtain ⟨A2, c2, hv2, _⟩ := OwnT.strs h3
    subst hv1 hv2
    exact ⟨A1, _, c1, A2, _, c2, h1, ⟨rfl, rfl⟩, h2, h3, h4⟩
theorem OwnO.as {w : World} {base n c : Nat} {A : Option Addr} {os : List Pr} (h : OwnO w base (.slice A n c) os) : Opts w A n os := by
  obtain ⟨A', c', he, h2, _⟩ := h.opts
  injection he with e1 e2 e3
  subst e1 e2 e3
  exact h2
theorem OwnT.as {w : World} {base n c : Nat} {A : Option Addr} {T : List ByteArray} (h : OwnT w base (.slice A n c) T) : Strs w A n c T := by
  obtain ⟨A', c', he, h2⟩ := h.strs
  injection he with e1 e2 e3
  subst e1 e2 e3
  exact h2

end Go.Proofs.Ytnmekmifdmlogaa
