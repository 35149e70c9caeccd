/- A region that draws its order, walked by hand: an operation taken, one passed by, the condition made stronger; bytes and text. -/
import Derived.Test.YtjmbnjlicjicbaaWalksE
import Derived.WalkKit
import Derived.Deep.RegionHeld3
import Derived.Laws.IdiomStrings
import Derived.Laws.BitsAllLaws
namespace Go.Proofs.Ytjmbnjlicjicbaa
open Go.RowKit

section
variable {P : Program} {ops : Array Oper} {Q : Exit → Act → World → Prop} {S : World → Prop}
/-- Operation i, whose slot is d, is taken next: it yields v wherever S holds. -/
theorem take_at (i d : Nat) {oi : Oper} {v : Value} {fuel : Nat} {listed : Array Bool} {a : Act} {w : World} (hi : ops[i]? = some oi) (hd : oi.dst = some d)
    (hs : Region.noSelect ops = true) (hf : Region.free .any ops listed i = true) (hr : (Region.ready .any ops listed).contains i = true)
    (hQ : ∀ c a w, Q (.panic c) (a.put oi.dst v) w → Q (.panic c) a w) (hw : Region.wanted oi (yielded ops a.tmps) = true) (hS : S w)
    (hv : ∀ w, S w → (execOp a.eval oi).run P w = .ok (.value v) w)
    (h : wpAnyH P .any ops Q S fuel (listed.setIfInBounds i true) (a.put (some d) v) w) : wpAnyH P .any ops Q S (fuel + 1) listed a w :=
  wpAnyH_take hi hs hf hr hQ (.inl ⟨hw, hv⟩) hS (by rw [hd]; exact h)
/-- Operation i, whose slot is d, is passed by: its guard says no. -/
theorem skip_at (i d : Nat) {oi : Oper} {fuel : Nat} {listed : Array Bool} {a : Act} {w : World} (hi : ops[i]? = some oi) (hd : oi.dst = some d)
    (hs : Region.noSelect ops = true) (hf : Region.free .any ops listed i = true) (hr : (Region.ready .any ops listed).contains i = true)
    (hQ : ∀ c a w, Q (.panic c) (a.put oi.dst undef) w → Q (.panic c) a w) (hw : Region.wanted oi (yielded ops a.tmps) = false) (hS : S w)
    (h : wpAnyH P .any ops Q S fuel (listed.setIfInBounds i true) (a.put (some d) undef) w) : wpAnyH P .any ops Q S (fuel + 1) listed a w :=
  wpAnyH_take hi hs hf hr hQ (.inr ⟨hw, rfl⟩) hS (by rw [hd]; exact h)
/-- More may be held from here on. -/
theorem wpAnyH_more {md : Region.Mode} {S' : World → Prop} (hS : ∀ w, S' w → S w) : ∀ (fuel : Nat) (listed : Array Bool) (a : Act) (w : World), wpAnyH P md ops Q S' fuel listed a w → wpAnyH P md ops Q S fuel listed a w
  | 0, _, _, _, h => h
  | fuel + 1, _, _, _, h => ⟨h.1, fun i hi => wpOp_mono (fun a' w' h' => ⟨hS w' h'.1, wpAnyH_more hS fuel _ a' w' h'.2⟩) (h.2 i hi)⟩
end

section
variable {ops : Array Oper} {Q : Exit → Act → World → Prop} {S : World → Prop}
/-- Bytes are made text. -/
theorem take_text (i d : Nat) {oi : Oper} {fuel : Nat} {listed : Array Bool} {a : Act} {w : World} (x : Operand) (A : Option Addr) (n c : Nat) (zs : List Int) (hi : ops[i]? = some oi) (hd : oi.dst = some d)
    (hs : Region.noSelect ops = true) (hf : Region.free .any ops listed i = true) (hr : (Region.ready .any ops listed).contains i = true)
    (hQ : ∀ c a w, Q (.panic c) (a.put oi.dst (.string (strOfNums zs))) w → Q (.panic c) a w) (hw : Region.wanted oi (yielded ops a.tmps) = true) (hS : S w)
    (ho : oi.op = .convert 24 9 x) (hx : a.eval x = .slice A n c) (hB : ∀ w, S w → Bytes w A n c zs) (hA : A = none → n = 0 ∧ c = 0)
    (h : wpAnyH Try.prog .any ops Q S fuel (listed.setIfInBounds i true) (a.put (some d) (.string (strOfNums zs))) w) : wpAnyH Try.prog .any ops Q S (fuel + 1) listed a w :=
  take_at i d hi hd hs hf hr hQ hw hS (fun w1 h1 => by simp only [execOp, ho, hx, text_of (hB w1 h1) hA, Sem.run_bind, Sem.run_pure, Result.andThen_ok]) h
end

theorem str_at (zs : List Int) (h : Are zs) (k : Nat) (hk : k < (strOfNums zs).size) : (((strOfNums zs)[k]'hk).toNat : Int) = zs.getD k 0 := by
  have hl : k < zs.length := by rwa [str_size] at hk
  have hb := h.at k
  rw [List.getD_eq_getElem?_getD, List.getElem?_eq_getElem hl] at hb ⊢
  simp only [Option.getD_some] at hb ⊢
  have he : (strOfNums zs)[k]'hk = UInt8.ofNat (zs[k]).toNat := by
    show (strOfNums zs).data[k] = _
    simp [strOfNums]
  rw [he]
  simp
  omega

/-- Text as bytes. -/
theorem str_bytes (zs : List Int) (h : Are zs) (n : Nat) (hn : zs.length = n) (hm : n ≤ 100000) (w : World) :
    ∃ A c w', (convert 9 24 (.string (strOfNums zs))).run Try.prog w = .ok (.slice A n c) w' ∧ ElOk w' ⟨A, n, c, zs⟩ ∧ Below w.heap.size w w' := by
  subst hn
  have hr := run_bytes_of_string (P := Try.prog) w 9 24 5 (strOfNums zs) Try.underlying9 Try.underlying24 Try.underlying5
  rw [str_size] at hr
  have hgc := grownCap_ge w zs.length 0 5
  have hgm := grownCap_le_maxLen w zs.length 0 5 (by unfold maxLen; omega)
  refine ⟨_, _, _, hr, ⟨⟨rfl, hgc, hgm, fun _ => ⟨w.heap.size, 0, rfl, by simp, fun k hk => ?_⟩⟩, fun h => by cases h⟩, ((Below.refl _ w).drew).alloc (Nat.le_refl _) _⟩
  have hk : k < zs.length := hk
  have hks : k < (strOfNums zs).size := by rw [str_size]; exact hk
  have hb := heap_alloc_new w.drew (.cells (bytesRow (strOfNums zs) (grownCap w zs.length 0 5)) 5 ((bytesRow (strOfNums zs) (grownCap w zs.length 0 5)).size, (bytesRow (strOfNums zs) (grownCap w zs.length 0 5)).size + 1))
  rw [show w.drew.heap.size = w.heap.size from rfl] at hb
  rw [cell_of_row _ _ _ _ 5 _ hb]
  have hz := str_at zs h k hks
  rw [← hz, Nat.zero_add, bytesRow, Array.getElem?_append_left (by simp [Array.size_map]; exact hks), Array.getElem?_map]
  rw [Array.getElem?_eq_getElem (by exact hks)]
  rfl

theorem xor_mate (i : Nat) (h : i < 100000) : bits .xor .i64 (i : Int) 1 = (mate i : Int) := by
  show IntKind.i64.wrap ((BitVec.ofInt 64 (i : Int) ^^^ BitVec.ofInt 64 (1 : Nat)).toNat : Int) = _
  rw [BitVec.toNat_xor, ofInt_u64 i (by omega), ofInt_u64 1 (by omega)]
  have hx : i ^^^ 1 = mate i := by
    have h1 : (i ^^^ 1) / 2 = i / 2 := by rw [Nat.xor_div_two]; simp
    have h2 : (i ^^^ 1) % 2 = (i + 1) % 2 := by
      have h3 : (i ^^^ 1) % 2 = (i % 2) ^^^ 1 := Nat.xor_mod_two_pow (n := 1)
      rw [h3]
      rcases Nat.mod_two_eq_zero_or_one i with h0 | h0
      · rw [h0, show (0 ^^^ 1 : Nat) = 1 from rfl]; omega
      · rw [h0, show (1 ^^^ 1 : Nat) = 0 from rfl]; omega
    unfold mate
    split <;> omega
  rw [hx]
  exact IntWalk.i64_in _ (by unfold mate; split <;> omega)

end Go.Proofs.Ytjmbnjlicjicbaa
