/- A region that draws its order, walked by hand: an operation taken, one passed by, the condition made stronger; a content loaded, bytes made text. -/
import Derived.Test.YtigfimlpjmmpoaaLawR
import Derived.WalkKit
import Derived.Deep.RegionHeld3
namespace Go.Proofs.Ytigfimlpjmmpoaa
open Go.RowKit

section
variable {P : Program} {ops : Array Oper} {Q : Exit → Act → World → Prop} {S : World → Prop}
/-- Operation i, whose slot is d, is taken next: it yields v wherever S holds. -/
theorem take_at (i d : Nat) {oi : Oper} {v : Value} {fuel : Nat} {listed : Array Bool} {a : Act} {w : World} (hi : ops[i]? = some oi) (hd : oi.dst = some d)
    (hs : Region.noSelect ops = true) (hf : Region.free .any ops listed i = true) (hr : (Region.ready .any ops listed).contains i = true)
    (hQ : ∀ c a w, Q (.panic c) (a.put oi.dst v) w → Q (.panic c) a w) (hw : Region.wanted oi (yielded ops a.tmps) = true) (hS : S w)
    (hv : ∀ w, S w → (execOp a.eval oi).run P w = .ok (.value v) w)
    (h : wpAnyH P .any ops Q S fuel (listed.setIfInBounds i true) (a.put (some d) v) w) : wpAnyH P .any ops Q S (fuel + 1) listed a w :=
  wpAnyH_take hi hs hf hr hQ (.inl ⟨hw, hv⟩) hS (by rw [hd]; exact h)
/-- More may be held from here on. -/
theorem wpAnyH_more {md : Region.Mode} {S' : World → Prop} (hS : ∀ w, S' w → S w) : ∀ (fuel : Nat) (listed : Array Bool) (a : Act) (w : World), wpAnyH P md ops Q S' fuel listed a w → wpAnyH P md ops Q S fuel listed a w
  | 0, _, _, _, h => h
  | fuel + 1, _, _, _, h => ⟨h.1, fun i hi => wpOp_mono (fun a' w' h' => ⟨hS w' h'.1, wpAnyH_more hS fuel _ a' w' h'.2⟩) (h.2 i hi)⟩
end

theorem size24 : (Try.prog.info? 24).map (·.size) = some 2 := by kernel_rfl
theorem run_load24 {w : World} {b : Nat} {s : Int} {A : Option Addr} {n c : Nat} (h : Box w b s A n c) : (Instr.loadAt 24 (.pointer (some ⟨b, 0, none⟩))).run Try.prog w = .ok (ct s A n c) w :=
  run_loadAt_mid w b 0 24 [.int .i64 s, .slice A n c] _ (fun j v hv => by rw [Nat.zero_add, Row.at h]; simpa using hv) Try.underlying24 rfl size24

section
variable {ops : Array Oper} {Q : Exit → Act → World → Prop} {S : World → Prop}
/-- A content is loaded. -/
theorem take_ct (i d : Nat) {oi : Oper} {fuel : Nat} {listed : Array Bool} {a : Act} {w : World} (x : Operand) (b : Nat) (s : Int) (A : Option Addr) (n c : Nat) (hi : ops[i]? = some oi) (hd : oi.dst = some d)
    (hs : Region.noSelect ops = true) (hf : Region.free .any ops listed i = true) (hr : (Region.ready .any ops listed).contains i = true)
    (hQ : ∀ k a w, Q (.panic k) (a.put oi.dst (ct s A n c)) w → Q (.panic k) a w) (hw : Region.wanted oi (yielded ops a.tmps) = true) (hS : S w)
    (ho : oi.op = .load 24 x) (hx : a.eval x = .pointer (some ⟨b, 0, none⟩)) (hR : ∀ w, S w → Box w b s A n c)
    (h : wpAnyH Try.prog .any ops Q S fuel (listed.setIfInBounds i true) (a.put (some d) (ct s A n c)) w) : wpAnyH Try.prog .any ops Q S (fuel + 1) listed a w :=
  take_at i d hi hd hs hf hr hQ hw hS (fun w1 h1 => by simp only [execOp, ho, hx, run_load24 (hR w1 h1), Sem.run_bind, Sem.run_pure, Result.andThen_ok]) h
/-- Bytes are made text. -/
theorem take_text (i d : Nat) {oi : Oper} {fuel : Nat} {listed : Array Bool} {a : Act} {w : World} (x : Operand) (A : Option Addr) (n c : Nat) (zs : List Int) (hi : ops[i]? = some oi) (hd : oi.dst = some d)
    (hs : Region.noSelect ops = true) (hf : Region.free .any ops listed i = true) (hr : (Region.ready .any ops listed).contains i = true)
    (hQ : ∀ c a w, Q (.panic c) (a.put oi.dst (.string (strOfNums zs))) w → Q (.panic c) a w) (hw : Region.wanted oi (yielded ops a.tmps) = true) (hS : S w)
    (ho : oi.op = .convert 27 9 x) (hx : a.eval x = .slice A n c) (hB : ∀ w, S w → Nums .u8 w A n c zs)
    (h : wpAnyH Try.prog .any ops Q S fuel (listed.setIfInBounds i true) (a.put (some d) (.string (strOfNums zs))) w) : wpAnyH Try.prog .any ops Q S (fuel + 1) listed a w :=
  take_at i d hi hd hs hf hr hQ hw hS (fun w1 h1 => by simp only [execOp, ho, hx, text_of (hB w1 h1), Sem.run_bind, Sem.run_pure, Result.andThen_ok]) h
end
end Go.Proofs.Ytigfimlpjmmpoaa
