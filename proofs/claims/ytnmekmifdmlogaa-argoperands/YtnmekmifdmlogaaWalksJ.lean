/- Contract of arg.Flags. -/
import Derived.Test.YtnmekmifdmlogaaRows
import Derived.Test.YtnmekmifdmlogaaWalksC
import Derived.Test.YtnmekmifdmlogaaWalksI
import Derived.WalkKit
import Derived.WalkSpells
import Derived.WalkLawsBesides
import Derived.Lib.Hide
import Derived.Deep.QuietTactic
import Derived.BigQuiet
namespace Go.Proofs.Ytnmekmifdmlogaa
open Go.RowKit
open Plain

theorem owns_past {w : World} {base : Nat} {e : TypeId} {size : Nat} {v : Value} {n : Nat} {xs : List Value} (h : w.ownsRow base e size v n xs) (b k : Nat) (x : Value) (hb : b < base) : (w.setCell ⟨b, k, none⟩ x).ownsRow base e size v n xs := by
  refine ⟨h.1, ?_⟩
  rcases h.2 with hn | ⟨g, cap, cur, rfl, hbg, hg, rest⟩
  · exact .inl hn
  · exact .inr ⟨g, cap, cur, rfl, hbg, (heap_setCell_other w ⟨b, k, none⟩ g x (by show g ≠ b; omega)).trans hg, rest⟩

/-- Where Flags stands: its result's box, the box of p, the two rows of p. -/
structure Fstand (w : World) (rb pb : Nat) (v1 v2 : Value) (os : List Pr) (rs : List ByteArray) (wr : World) : Prop where
  r : Row wr rb 25 #[.slice none 0 0, .slice none 0 0]
  p : Row wr pb 25 #[v1, v2]
  lo : w.heap.size ≤ rb
  lt : rb < pb
  o : OwnO wr (pb + 1) v1 os
  t : OwnT wr (pb + 1) v2 rs
  ap : v1.ownBlock = none ∨ v1.ownBlock ≠ v2.ownBlock
  b : Below w.heap.size w wr
section
variable {w X w3 : World} {rb pb : Nat} {v1 v2 v3 : Value} {os os' : List Pr} {rs rs' : List ByteArray}
theorem Fstand.on (h : Fstand w rb pb v1 v2 os rs X) (k : Below X.heap.size X w3) : Fstand w rb pb v1 v2 os rs w3 :=
  ⟨h.r.on k, h.p.on k, h.lo, h.lt, h.o.on k, h.t.on k, h.ap, h.b.trans (k.mono h.b.size)⟩
theorem Fstand.size (h : Fstand w rb pb v1 v2 os rs X) : pb + 1 ≤ X.heap.size := h.p.lt
theorem Fstand.no2 (h : Fstand w rb pb v1 v2 os rs X) (b : Nat) (hb : b ≤ pb) : some b ≠ v2.ownBlock := fun e => by
  have := (World.ownsRow.lt h.t b e.symm).1
  omega
theorem Fstand.no1 (h : Fstand w rb pb v1 v2 os rs X) (b : Nat) (hb : b ≤ pb) : some b ≠ v1.ownBlock := fun e => by
  have := (World.ownsRow.lt h.o b e.symm).1
  omega
theorem Fstand.midT (h : Fstand w rb pb v1 v2 os rs X) (g3 : X.grownBy w3 v2.ownBlock) : Row w3 pb 25 #[v1, v2] := h.p.grown g3 (h.no2 pb (Nat.le_refl _))
theorem Fstand.midO (h : Fstand w rb pb v1 v2 os rs X) (g3 : X.grownBy w3 v1.ownBlock) : Row w3 pb 25 #[v1, v2] := h.p.grown g3 (h.no1 pb (Nat.le_refl _))
theorem Fstand.putT (h : Fstand w rb pb v1 v2 os rs X) (o3 : OwnT w3 (pb + 1) v3 rs') (g3 : X.grownBy w3 v2.ownBlock) (m3 : Moved X v2 v3) (b3 : Below (pb + 1) X w3) :
    Fstand w rb pb v1 v3 os rs' (w3.setCell ⟨pb, 1, none⟩ v3) := by
  have hlt := h.lt; have hlo := h.lo
  refine ⟨(h.r.grown g3 (h.no2 rb (by omega))).past pb 1 v3 (by omega), (h.midT g3).set1 v3, hlo, hlt, owns_past (World.ownsRow.kept h.o g3 h.ap) _ _ _ (by omega), owns_past o3 _ _ _ (by omega), ?_, ?_⟩
  · rcases h.ap with ha | ha
    · exact .inl ha
    · rcases m3 with hm | hm
      · rw [hm]; exact .inr ha
      · right
        rw [hm]
        intro e
        have := (World.ownsRow.lt h.o _ e).2
        omega
  · exact (h.b.trans (b3.mono (by omega))).setCell (p := ⟨pb, 1, none⟩) (by show w.heap.size ≤ pb; omega) _
theorem Fstand.putO (h : Fstand w rb pb v1 v2 os rs X) (o3 : OwnO w3 (pb + 1) v3 os') (g3 : X.grownBy w3 v1.ownBlock) (m3 : Moved X v1 v3) (b3 : Below (pb + 1) X w3) :
    Fstand w rb pb v3 v2 os' rs (w3.setCell ⟨pb, 0, none⟩ v3) := by
  have hlt := h.lt; have hlo := h.lo
  have hap : v2.ownBlock = none ∨ v2.ownBlock ≠ v1.ownBlock := by
    rcases h.ap with ha | ha
    · cases hv : v2.ownBlock with
      | none => exact .inl rfl
      | some k => right; rw [ha]; simp
    · exact .inr (Ne.symm ha)
  refine ⟨(h.r.grown g3 (h.no1 rb (by omega))).past pb 0 v3 (by omega), (h.midO g3).set0 v3, hlo, hlt, owns_past o3 _ _ _ (by omega), owns_past (World.ownsRow.kept h.t g3 hap) _ _ _ (by omega), ?_, ?_⟩
  · rcases m3 with hm | hm
    · rw [hm]; exact h.ap
    · right
      rw [hm]
      intro e
      have := (World.ownsRow.lt h.t _ e.symm).2
      omega
  · exact (h.b.trans (b3.mono (by omega))).setCell (p := ⟨pb, 0, none⟩) (by show w.heap.size ≤ pb; omega) _
end

def flV (F : Option (List Pr × List ByteArray)) : List Pr × List ByteArray := F.getD ([], [])
def FlagsPost (F : Option (List Pr × List ByteArray)) (w : World) (e : Ending) (w' : World) : Prop :=
  ∃ v1 v2, e = .returned (.tuple #[.agg #[v1, v2], .bool F.isSome]) ∧ OwnO w' w.heap.size v1 (flV F).1 ∧ OwnT w' w.heap.size v2 (flV F).2 ∧ Below w.heap.size w w'
theorem flagsPost_none {w w' : World} (k : Below w.heap.size w w') : FlagsPost none w (.returned (.tuple #[.agg #[.slice none 0 0, .slice none 0 0], .bool false])) w' := ⟨_, _, rfl, ownO_nil _ _, ownT_nil _ _, k⟩
/-- The result is laid into its box. -/
theorem Fstand.ends {w X : World} {rb pb : Nat} {v1 v2 : Value} {os : List Pr} {rs : List ByteArray} (h : Fstand w rb pb v1 v2 os rs X) :
    Row ((X.setCell ⟨rb, 0, none⟩ v1).setCell ⟨rb, 1, none⟩ v2) rb 25 #[v1, v2] ∧ FlagsPost (some (os, rs)) w (.returned (.tuple #[.agg #[v1, v2], .bool true])) ((X.setCell ⟨rb, 0, none⟩ v1).setCell ⟨rb, 1, none⟩ v2) := by
  have hlt := h.lt; have hlo := h.lo
  refine ⟨(h.r.set0 v1).set1 v2, v1, v2, rfl, ?_, ?_, below_box h.b rb hlo _ _⟩
  · exact OwnO.low (show OwnO _ (pb + 1) _ _ from owns_past (owns_past h.o _ _ _ (by omega)) _ _ _ (by omega)) (by omega)
  · exact OwnT.low (show OwnT _ (pb + 1) _ _ from owns_past (owns_past h.t _ _ _ (by omega)) _ _ _ (by omega)) (by omega)
theorem Fstand.fails {w X : World} {rb pb : Nat} {v1 v2 : Value} {os : List Pr} {rs : List ByteArray} (h : Fstand w rb pb v1 v2 os rs X) :
    Row ((X.setCell ⟨rb, 0, none⟩ (.slice none 0 0)).setCell ⟨rb, 1, none⟩ (.slice none 0 0)) rb 25 #[.slice none 0 0, .slice none 0 0] ∧ FlagsPost none w (.returned (.tuple #[.agg #[.slice none 0 0, .slice none 0 0], .bool false])) ((X.setCell ⟨rb, 0, none⟩ (.slice none 0 0)).setCell ⟨rb, 1, none⟩ (.slice none 0 0)) :=
  ⟨(h.r.set0 _).set1 _, flagsPost_none (below_box h.b rb h.lo _ _)⟩

section
variable {sp : List UInt8} {f : Nat} {s : ByteArray} {l : List ByteArray} {os os2 : List Pr} {rs : List ByteArray} {n : Nat}
theorem go_end (h : tx s = [45, 45]) : flagsGo sp (f + 1) (s :: l) os rs = some (os, rs ++ l) := by rw [flagsGo, if_pos h]
theorem go_rest (h : tx s ≠ [45, 45]) (h2 : isOpt s = false) : flagsGo sp (f + 1) (s :: l) os rs = flagsGo sp f l os (rs ++ [s]) := by rw [flagsGo, if_neg h, if_pos h2]
theorem optsOf_acc (nx : Option ByteArray) (a : List UInt8) (out : List Pr) : optsOf sp nx a out = (optsOf sp nx a []).map fun x => (out ++ x.1, x.2) := by
  rw [optsOf, optsOf]
  by_cases h : a.getD 0 0 = 45
  · rw [if_pos h, if_pos h]
    cases keyed (bs (a.drop 1)) <;> simp
  · rw [if_neg h, if_neg h]; exact lets_acc sp nx a out
theorem optsOf_le (nx : Option ByteArray) (a : List UInt8) (ha : a ≠ []) (h : optsOf sp nx a [] = some (os2, n)) : os2.length ≤ a.length ∧ (n = 0 ∨ n = 1 ∧ nx.isSome = true) := by
  rw [optsOf] at h
  have hl : 0 < a.length := List.length_pos_iff.2 ha
  by_cases h45 : a.getD 0 0 = 45
  · rw [if_pos h45] at h
    cases hk : keyed (bs (a.drop 1)) with
    | none => rw [hk] at h; cases h
    | some o =>
      rw [hk] at h
      simp at h
      obtain ⟨rfl, rfl⟩ := h
      exact ⟨by simp; omega, .inl rfl⟩
  · rw [if_neg h45] at h
    obtain ⟨h1, h2, h3, _⟩ := lets_le _ _ _ _ _ _ h
    refine ⟨by simpa using h1, ?_⟩
    rcases Nat.eq_zero_or_pos n with h0 | h0
    · exact .inl h0
    · exact .inr ⟨by omega, h3 (by omega)⟩
theorem go_none (h : tx s ≠ [45, 45]) (h2 : isOpt s = true) (h3 : optsOf sp l.head? ((tx s).drop 1) [] = none) : flagsGo sp (f + 1) (s :: l) os rs = none := by
  rw [flagsGo, if_neg h, if_neg (by simp [h2]), optsOf_acc, h3]; rfl
theorem go_opt (h : tx s ≠ [45, 45]) (h2 : isOpt s = true) (h3 : optsOf sp l.head? ((tx s).drop 1) [] = some (os2, n)) : flagsGo sp (f + 1) (s :: l) os rs = flagsGo sp f (l.drop n) (os ++ os2) rs := by
  rw [flagsGo, if_neg h, if_neg (by simp [h2]), optsOf_acc, h3]; rfl
end
def sliceLen : Value → Nat
  | .slice _ n _ => n
  | _ => 0

theorem options_none (sp s : ByteArray) (B : Option Addr) (m d : Nat) (T : List ByteArray) (w : World) (hp : sp.size ≤ 1000000) (hs0 : 0 < s.size) (hs : s.size ≤ 100000) (hT : Strs w B m d T) (ho : optsOf (tx sp) T.head? (tx s) [] = none) :
    Calls Try.prog 25 #[.string sp, .string s, .slice B m d] w fun e w' => ∃ v, e = .returned (.tuple #[v, .int .i64 0, .bool false]) ∧ Below w.heap.size w w' :=
  (options_any sp s B m d T none w hp hs0 hs hT ho).mono fun _ _ ⟨v, h1, _, h3⟩ => ⟨v, h1, h3⟩
theorem options_some (sp s : ByteArray) (B : Option Addr) (m d : Nat) (T : List ByteArray) (os : List Pr) (n : Nat) (w : World) (hp : sp.size ≤ 1000000) (hs0 : 0 < s.size) (hs : s.size ≤ 100000) (hT : Strs w B m d T) (ho : optsOf (tx sp) T.head? (tx s) [] = some (os, n)) :
    Calls Try.prog 25 #[.string sp, .string s, .slice B m d] w fun e w' => ∃ A c, e = .returned (.tuple #[.slice A os.length c, .int .i64 (n : Int), .bool true]) ∧ (Opts w' A os.length os ∧ (A = none → os.length = 0 ∧ c = 0)) ∧ Below w.heap.size w w' :=
  (options_any sp s B m d T (some (os, n)) w hp hs0 hs hT ho).mono fun _ _ ⟨v, h1, h2, h3⟩ => by
    obtain ⟨A, c, rfl, h4, h5⟩ := OwnO.opts h2
    exact ⟨A, c, h1, ⟨h4, h5⟩, h3⟩

end Go.Proofs.Ytnmekmifdmlogaa
