/- The law ArgRuns, walked, which the other laws call. -/
import Derived.Test.YtnmekmifdmlogaaRows
import Derived.Test.YtnmekmifdmlogaaWalksH
import Derived.Test.YtnmekmifdmlogaaWalksK
import Derived.WalkKit
import Derived.WalkSpells
import Derived.WalkLawsBesides
import Derived.Lib.Hide
namespace Go.Proofs.Ytnmekmifdmlogaa
open Go.RowKit
open Plain

/-- Flags gave something. -/
theorem flags_some (sp : ByteArray) (A : Option Addr) (n c : Nat) (T : List ByteArray) (os : List Pr) (rs : List ByteArray) (w : World) (hp : sp.size ≤ 1000000) (hT : Strs w A n c T) (hS : ∀ s ∈ T, s.size ≤ 1000) (hF : flags sp T = some (os, rs)) :
    Calls Try.prog 10 #[.string sp, .slice A n c] w fun e w' => ∃ A1 c1 A2 c2, e = .returned (.tuple #[.agg #[.slice A1 os.length c1, .slice A2 rs.length c2], .bool true]) ∧ Opts w' A1 os.length os ∧ Strs w' A2 rs.length c2 rs ∧ Below w.heap.size w w' :=
  (flags_any sp A n c T (some (os, rs)) w hp hT hS hF).mono fun _ _ ⟨v1, v2, h1, h2, h3, h4⟩ => by
    obtain ⟨A1, c1, rfl, h5, _⟩ := OwnO.opts h2
    obtain ⟨A2, c2, rfl, h6⟩ := OwnT.strs h3
    exact ⟨A1, c1, A2, c2, h1, h5, h6, h4⟩
theorem operands_some (A : Option Addr) (n c : Nat) (T : List ByteArray) (os : List Pr) (w : World) (hT : Strs w A n c T) (hS : ∀ s ∈ T, s.size ≤ 1000000) (ho : operands T = some os) :
    Calls Try.prog 11 #[.slice A n c] w fun e w' => ∃ A1 c1, e = .returned (.tuple #[.slice A1 os.length c1, .bool true]) ∧ Opts w' A1 os.length os ∧ Below w.heap.size w w' :=
  (operands_any A n c T (some os) w hT hS ho).mono fun _ _ ⟨v, h1, h2, h3⟩ => by
    obtain ⟨A1, c1, rfl, h5, _⟩ := OwnO.opts h2
    exact ⟨A1, c1, h1, h5, h3⟩
theorem words_at (s : ByteArray) (x : Int) (c : UInt8) (l : List ByteArray) (w : World) (hs : s.size ≤ 100000) (hx : x = (c.toNat : Int)) (hl : words s c = l) :
    Calls Try.prog 12 #[.string s, .int .u8 x] w fun e w' => ∃ A1 c1, e = .returned (.slice A1 l.length c1) ∧ Strs w' A1 l.length c1 l ∧ Below w.heap.size w w' :=
  (words_any s x c l w hs hx hl).mono fun _ _ ⟨v, h1, h2, h3⟩ => by
    obtain ⟨A1, c1, rfl, h5⟩ := OwnT.strs h2
    exact ⟨A1, c1, h1, h5, h3⟩

theorem runs_flags : flags ⟨#[114, 110, 58]⟩ [⟨#[45, 114, 110]⟩, ⟨#[51]⟩, ⟨#[120]⟩] = some ([(⟨#[114]⟩, ⟨#[]⟩), (⟨#[110]⟩, ⟨#[51]⟩)], [⟨#[120]⟩]) := by decide +kernel
theorem runs_ops : operands [⟨#[105, 102, 61, 97, 61, 98]⟩, ⟨#[99, 111, 110, 118, 61]⟩, ⟨#[99, 111, 110, 118, 61, 120]⟩] = some [(⟨#[105, 102]⟩, ⟨#[97, 61, 98]⟩), (⟨#[99, 111, 110, 118]⟩, ⟨#[]⟩), (⟨#[99, 111, 110, 118]⟩, ⟨#[120]⟩)] := by decide +kernel
theorem runs_words : words ⟨#[97, 44, 44, 98]⟩ 44 = [⟨#[97]⟩, ⟨#[]⟩, ⟨#[98]⟩] := by decide +kernel

set_option maxRecDepth 100000 in
set_option maxHeartbeats 4000000 in
theorem law_runs (w : World) : Calls Try.prog 3 #[] w fun e w' => e = .returned (.bool true) ∧ Below w.heap.size w w' := by
  have he := eql_opt
  go_enter Try.func3, Try.ntmps3
  go_wp2_with fail
  refine (flags_some _ _ _ _ [⟨#[45, 114, 110]⟩, ⟨#[51]⟩, ⟨#[120]⟩] [(⟨#[114]⟩, ⟨#[]⟩), (⟨#[110]⟩, ⟨#[51]⟩)] [⟨#[120]⟩] _ (by decide) (strs_new _ _ _ _ _ (by simp) rfl rfl (by decide)) (by decide) runs_flags).mono ?_
  rintro e w1 ⟨A1, c1, A2, c2, rfl, h1, h2, k1⟩
  obtain ⟨b1, o1, rfl, hb1, hc1⟩ := h1.cells (by decide)
  obtain ⟨b2, o2, rfl, hb2, hc2⟩ := h2.cells (by decide)
  have K1 := Lib.hid (show Below w.heap.size w w1 from ((Below.refl w.heap.size w).alloc (Nat.le_refl _) _).trans (k1.mono (by simp)))
  have D0 := Lib.hid (hc1 0 (by decide)); have D1 := Lib.hid (hc1 1 (by decide)); have D2 := Lib.hid (hc2 0 (by decide))
  clear h1 h2 hc1 hc2 k1
  rw [show ([(⟨#[114]⟩, ⟨#[]⟩), (⟨#[110]⟩, ⟨#[51]⟩)] : List Pr).length = 2 from rfl, show ([⟨#[120]⟩] : List ByteArray).length = 1 from rfl]
  go_wp2_with fail
  have RB := Lib.hid (Row.new w1 25 #[.slice (some ⟨b1, o1, none⟩) 2 c1, .slice (some ⟨b2, o2, none⟩) 1 c2])
  have K2 := Lib.hid (K1.out.alloc K1.out.size (.cells #[.slice (some ⟨b1, o1, none⟩) 2 c1, .slice (some ⟨b2, o2, none⟩) 1 c2] 25))
  have KB := Lib.hid ((Below.refl w1.heap.size w1).alloc (Nat.le_refl _) (.cells #[.slice (some ⟨b1, o1, none⟩) 2 c1, .slice (some ⟨b2, o2, none⟩) 1 c2] 25))
  have hsz : (w1.alloc (.cells #[.slice (some ⟨b1, o1, none⟩) 2 c1, .slice (some ⟨b2, o2, none⟩) 1 c2] 25)).heap.size = w1.heap.size + 1 := by simp
  generalize w1.alloc (.cells #[.slice (some ⟨b1, o1, none⟩) 2 c1, .slice (some ⟨b2, o2, none⟩) 1 c2] 25) = W2 at *
  refine (operands_some _ _ _ [⟨#[105, 102, 61, 97, 61, 98]⟩, ⟨#[99, 111, 110, 118, 61]⟩, ⟨#[99, 111, 110, 118, 61, 120]⟩] [(⟨#[105, 102]⟩, ⟨#[97, 61, 98]⟩), (⟨#[99, 111, 110, 118]⟩, ⟨#[]⟩), (⟨#[99, 111, 110, 118]⟩, ⟨#[120]⟩)] _ (strs_new _ _ _ _ _ (by omega) rfl rfl (by decide)) (by decide) runs_ops).mono ?_
  rintro e w3 ⟨A3, c3, rfl, h3, k3⟩
  obtain ⟨b3, o3, rfl, hb3, hc3⟩ := h3.cells (by decide)
  have K23 := (show Below W2.heap.size W2 w3 from ((Below.refl W2.heap.size W2).alloc (Nat.le_refl _) _).trans (k3.mono (by simp)))
  have K3 := Lib.hid (K2.out.trans (K23.mono K2.out.size))
  have K13 := Lib.hid (KB.out.trans (K23.mono KB.out.size))
  obtain ⟨r0, r1, _, _⟩ := (RB.out.on K23).two
  obtain ⟨p0, p1⟩ := hc3 0 (by decide)
  have d0 := (K13.out.cell (p := ⟨b1, o1 + 0 * 2, none⟩) hb1).trans D0.out.1
  have d1 := (K13.out.cell (p := ⟨b1, o1 + 0 * 2 + 1, none⟩) hb1).trans D0.out.2
  have d2 := (K13.out.cell (p := ⟨b1, o1 + 1 * 2, none⟩) hb1).trans D1.out.1
  have d3 := (K13.out.cell (p := ⟨b1, o1 + 1 * 2 + 1, none⟩) hb1).trans D1.out.2
  have d4 := (K13.out.cell (p := ⟨b2, o2 + 0, none⟩) hb2).trans D2.out
  simp at d0 d1 d2 d3 d4 p0 p1
  clear h3 hc3 k3 K23 D0 D1 D2 RB K2 KB K1
  rw [show ([(⟨#[105, 102]⟩, ⟨#[97, 61, 98]⟩), (⟨#[99, 111, 110, 118]⟩, ⟨#[]⟩), (⟨#[99, 111, 110, 118]⟩, ⟨#[120]⟩)] : List Pr).length = 3 from rfl]
  go_wp2_with fail
  refine (words_at _ _ 44 [⟨#[97]⟩, ⟨#[]⟩, ⟨#[98]⟩] _ (by decide) rfl runs_words).mono ?_
  rintro e w4 ⟨A4, c4, rfl, _, k4⟩
  rw [show ([⟨#[97]⟩, ⟨#[]⟩, ⟨#[98]⟩] : List ByteArray).length = 3 from rfl]
  go_wp2
  go_ret
  exact ⟨by first | rfl | decide | simp, K3.out.trans (k4.mono K3.out.size)⟩

end Go.Proofs.Ytnmekmifdmlogaa
