/- A region that draws its order, walked by hand: an operation taken, one passed by, the condition made stronger. -/
import Derived.Test.YtghihmmapignmaaTabs
import Derived.WalkKit
import Derived.Deep.RegionHeld3
namespace Go.Proofs.Ytghihmmapignmaa
open Go.RowKit

section
variable {P : Program} {ops : Array Oper} {Q : Exit → Act → World → Prop} {S : World → Prop}
/-- Operation i, whose slot is d, is taken next: it yields v wherever S holds. -/
theorem take_at (i d : Nat) {oi : Oper} {v : Value} {fuel : Nat} {listed : Array Bool} {a : Act} {w : World} (hi : ops[i]? = some oi) (hd : oi.dst = some d)
    (hs : Region.noSelect ops = true) (hf : Region.free .any ops listed i = true) (hr : (Region.ready .any ops listed).contains i = true)
    (hQ : ∀ c a w, Q (.panic c) (a.put oi.dst v) w → Q (.panic c) a w) (hw : Region.wanted oi (yielded ops a.tmps) = true) (hS : S w)
    (hv : ∀ w, S w → (execOp a.eval oi).run P w = .ok (.value v) w)
    (h : wpAnyH P .any ops Q S fuel (listed.setIfInBounds i true) (a.put (some d) v) w) : wpAnyH P .any ops Q S (fuel + 1) listed a w :=
  wpAnyH_take hi hs hf hr hQ (.inl ⟨hw, hv⟩) hS (by rw [hd]; exact h)
/-- Operation i, whose slot is d, is passed by: its guard says no. -/
theorem skip_at (i d : Nat) {oi : Oper} {fuel : Nat} {listed : Array Bool} {a : Act} {w : World} (hi : ops[i]? = some oi) (hd : oi.dst = some d)
    (hs : Region.noSelect ops = true) (hf : Region.free .any ops listed i = true) (hr : (Region.ready .any ops listed).contains i = true)
    (hQ : ∀ c a w, Q (.panic c) (a.put oi.dst undef) w → Q (.panic c) a w) (hw : Region.wanted oi (yielded ops a.tmps) = false) (hS : S w)
    (h : wpAnyH P .any ops Q S fuel (listed.setIfInBounds i true) (a.put (some d) undef) w) : wpAnyH P .any ops Q S (fuel + 1) listed a w :=
  wpAnyH_take hi hs hf hr hQ (.inr ⟨hw, rfl⟩) hS (by rw [hd]; exact h)
/-- More may be held from here on. -/
theorem wpAnyH_more {md : Region.Mode} {S' : World → Prop} (hS : ∀ w, S' w → S w) : ∀ (fuel : Nat) (listed : Array Bool) (a : Act) (w : World), wpAnyH P md ops Q S' fuel listed a w → wpAnyH P md ops Q S fuel listed a w
  | 0, _, _, _, h => h
  | fuel + 1, _, _, _, h => ⟨h.1, fun i hi => wpOp_mono (fun a' w' h' => ⟨hS w' h'.1, wpAnyH_more hS fuel _ a' w' h'.2⟩) (h.2 i hi)⟩
end

section
variable {ops : Array Oper} {Q : Exit → Act → World → Prop} {S : World → Prop}
/-- A table is read whole. -/
theorem take_tab (i d : Nat) {oi : Oper} {fuel : Nat} {listed : Array Bool} {a : Act} {w : World} (x : Operand) (b : Nat) (l : List Int) (hi : ops[i]? = some oi) (hd : oi.dst = some d)
    (hs : Region.noSelect ops = true) (hf : Region.free .any ops listed i = true) (hr : (Region.ready .any ops listed).contains i = true)
    (hQ : ∀ c a w, Q (.panic c) (a.put oi.dst (tv l)) w → Q (.panic c) a w) (hw : Region.wanted oi (yielded ops a.tmps) = true) (hS : S w)
    (ho : oi.op = .load 50 x) (hx : a.eval x = .pointer (some ⟨b, 0, none⟩)) (hR : ∀ w, S w → Row w b 50 (cs l)) (hl : l.length = 256)
    (h : wpAnyH Try.prog .any ops Q S fuel (listed.setIfInBounds i true) (a.put (some d) (tv l)) w) : wpAnyH Try.prog .any ops Q S (fuel + 1) listed a w :=
  take_at i d hi hd hs hf hr hQ hw hS (fun w1 h1 => by simp only [execOp, ho, hx, run_load_tab (hR w1 h1) hl, Sem.run_bind, Sem.run_pure, Result.andThen_ok]) h
/-- Bytes are made text. -/
theorem take_text (i d : Nat) {oi : Oper} {fuel : Nat} {listed : Array Bool} {a : Act} {w : World} (x : Operand) (A : Option Addr) (n c : Nat) (zs : List Int) (hi : ops[i]? = some oi) (hd : oi.dst = some d)
    (hs : Region.noSelect ops = true) (hf : Region.free .any ops listed i = true) (hr : (Region.ready .any ops listed).contains i = true)
    (hQ : ∀ c a w, Q (.panic c) (a.put oi.dst (.string (strOfNums zs))) w → Q (.panic c) a w) (hw : Region.wanted oi (yielded ops a.tmps) = true) (hS : S w)
    (ho : oi.op = .convert 24 9 x) (hx : a.eval x = .slice A n c) (hB : ∀ w, S w → Bytes w A n c zs) (hA : A = none → n = 0 ∧ c = 0)
    (h : wpAnyH Try.prog .any ops Q S fuel (listed.setIfInBounds i true) (a.put (some d) (.string (strOfNums zs))) w) : wpAnyH Try.prog .any ops Q S (fuel + 1) listed a w :=
  take_at i d hi hd hs hf hr hQ hw hS (fun w1 h1 => by simp only [execOp, ho, hx, text_of (hB w1 h1) hA, Sem.run_bind, Sem.run_pure, Result.andThen_ok]) h
end

/-- Two tables that are one, compared. -/
theorem eqg_tab (w : World) (x y : Operand) (l m : List Int) : (eqGuard .eql 50 x y (tv l) (tv m)).run Try.prog w = .ok () w := run_eqGuard_agg w .eql 50 x y _ _ (by kernel_rfl)
theorem eql_tab (w : World) (l : List Int) (hl : l.length = 256) : (binOp .eql 50 (tv l) (tv l)).run Try.prog w = .ok (.bool true) w := by
  have h := eq_tab w l hl
  simp only [tv] at h ⊢
  simp [binOp, Op.equal, Op.maxDepth, h]

end Go.Proofs.Ytghihmmapignmaa
