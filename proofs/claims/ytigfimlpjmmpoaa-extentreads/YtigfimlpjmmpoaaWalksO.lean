/- Contract of the law's at. -/
import Derived.Test.YtigfimlpjmmpoaaWalksJ
import Derived.Test.YtigfimlpjmmpoaaRefC
import Derived.WalkKit
import Derived.WalkSpells
import Derived.WalkLawsBesides
import Derived.Lib.Hide
import Derived.BigQuiet
namespace Go.Proofs.Ytigfimlpjmmpoaa
open Go.RowKit

/-- What the law's at says: -1 where nothing is read. -/
def atv (s : Int) (L : List Ex) (p : Int) : Int := if rlen s L p 1 = 1 then at_ L p else -1
theorem rlen_one (s : Int) (L : List Ex) (p : Int) : rlen s L p 1 ≤ 1 := by unfold rlen; split <;> omega

set_option maxHeartbeats 1000000 in
theorem at_any (s : Int) (A : Option Addr) (n c : Nat) (L : List Ex) (p : Int) (w : World) (h : Exts w A n c L) (hn : n ≤ 1000000) (p0 : -9223372036854775808 ≤ p) (p1 : p ≤ 9223372036854775807) (v : Int) (hv : atv s L p = v) :
    Calls Try.prog 31 #[ct s A n c, .int .i64 p] w fun e w' => e = .returned (.int .i64 v) ∧ Below w.heap.size w w' := by
  have HV := Lib.hid hv
  have K0 := Lib.hid (show Below w.heap.size w (w.alloc (.cells #[.int .i64 s, .slice A n c] 24)) from (Below.refl _ _).alloc (Nat.le_refl _) _)
  have H := Lib.hid h
  clear h hv
  show Calls Try.prog 31 #[.agg #[.int .i64 s, .slice A n c], .int .i64 p] w _
  go_enter Try.func31, Try.ntmps31
  go_wp2_with fail
  obtain ⟨zs, hz⟩ : ∃ zs, rd s L p 1 = zs := ⟨_, rfl⟩
  have HZ := Lib.hid hz
  have hl : zs.length = rlen s L p 1 := by rw [← hz, rd, red_len]
  have HL := Lib.hid hl
  clear hz hl
  refine (read_any s A n c L p 1 _ (H.out.on K0.out) hn p0 p1 zs HZ.out).mono ?_
  rintro e w1 ⟨A', c', rfl, hm, k1⟩
  have HM := Lib.hid hm; have K1 := Lib.hid (K0.out.trans (k1.mono K0.out.size))
  clear hm k1
  by_cases g : rlen s L p 1 = 1
  · have hl1 : zs.length = 1 := HL.out.trans g
    have hzz : zs = [at_ L p] := by rw [← HZ.out, rd, g]; simp [red]
    obtain ⟨b, o, rfl, hb, hc⟩ := HM.out.cells (by omega)
    have c0 := hc 0 (by omega)
    rw [hzz] at c0
    have hx := at_ok H.out.ok p
    have HX := Lib.hid (show at_ L p = v by rw [← HV.out, atv, if_pos g])
    have c1 : w1.cell? ⟨b, o, none⟩ = some (.int .u8 (at_ L p)) := by simpa using c0
    rw [HX.out] at c1 hx
    have hlz := Lib.hid hl1
    rw [hl1]
    obtain ⟨x0, x1⟩ := hx
    clear c0 hc hzz g
    go_wp2
    go_ret
    exact ⟨rfl, K1.out⟩
  · have h0 : rlen s L p 1 = 0 := by have := rlen_one s L p; omega
    have hl0 : zs.length = 0 := HL.out.trans h0
    have HX := Lib.hid (show -1 = v by rw [← HV.out, atv, if_neg g])
    rw [hl0]
    clear g h0 hl0
    go_wp2
    go_ret
    exact ⟨ret_int HX.out, K1.out⟩
end Go.Proofs.Ytigfimlpjmmpoaa
