/- The walk of the law OffSums. -/
import Derived.Test.YtamignakfliocaaRead
import Derived.Test.YtamignakfliocaaWalksC
import Derived.Test.YtamignakfliocaaWalksD
import Derived.Test.YtamignakfliocaaWalksR
import Derived.WalkKit
import Derived.WalkSpells
import Derived.WalkLawsBesides
import Derived.Lib.Hide
import Derived.Deep.QuietTactic
import Derived.BigQuiet
namespace Go.Proofs.Ytamignakfliocaa
open Go.RowKit

theorem quiet_eq {P : Program} {f : FuncId} {args : Array Value} {w : World} {n : Nat} {v : Value}
    (h : Calls P f args (w.drewN n) fun e w' => e = .returned v ∧ w.drewN n = w') : Calls P f args (w.drewN n) fun e w'' => e = .returned v ∧ ∃ m, w'' = w.drewN m :=
  h.mono fun _ _ ⟨he, hm⟩ => ⟨he, n, hm.symm⟩

set_option maxHeartbeats 1000000 in
theorem sums_walk (A : Option Addr) (n c : Nat) (ys : List Int) (w : World) (h : IsRow .i64 w A n c ys) :
    Calls Try.prog 4 #[.slice A n c] w fun e w' => e = .returned (.bool true) ∧ Below w.heap.size w w' := by
  obtain ⟨hr, hn⟩ := h.ints
  clear h
  generalize ys.take n = zs at hr
  clear ys
  have HN := Lib.hid hn
  have HR := Lib.hid hr; clear hr
  unfold maxLen at hn
  by_cases h3 : n ≤ 300
  · have HL := Lib.hid HR.out.1
    go_enter Try.func4, Try.ntmps4
    go_wp2_with fail
    refine (add_any _ _ _ zs _ HN.out HR.out).mono ?_
    rintro e w1 ⟨rfl, rfl⟩
    go_wp2_with fail
    refine (radd_any _ _ _ zs _ HN.out HR.out).mono ?_
    rintro e w1 ⟨rfl, rfl⟩
    go_wp2_with fail
    refine (mul_any _ _ _ zs _ HN.out HR.out).mono ?_
    rintro e w1 ⟨rfl, rfl⟩
    go_wp2_with fail
    refine (rmul_any _ _ _ zs _ HN.out HR.out).mono ?_
    rintro e w1 ⟨rfl, m, rfl⟩
    go_wp2
    go_loopw [11] (fun i wr => ∃ (k : Nat), k ≤ n ∧ i = .int .i64 k ∧ Hid (∃ m, wr = w.drewN m)) (fun i _ => n - (intOf i).toNat)
    case atStart => exact ⟨0, Nat.zero_le _, rfl, m, rfl⟩
    case round =>
      obtain ⟨k, hk, rfl, HM⟩ := hrel
      by_cases hlt : k < n
      · obtain ⟨b, o, rfl, hc⟩ := HR.out.2 (by omega)
        have hck : wr.cell? ⟨b, o + k, none⟩ = some (.int .i64 (zs.getD k 0)) := by
          obtain ⟨m, hm⟩ := HM.out
          rw [hm]
          exact hc k hlt
        clear hc
        generalize zs.getD k 0 = x at hck
        by_cases hx : 0 ≤ x ∧ x ≤ 4611686018427387904
        · obtain ⟨hx0, hx1⟩ := hx
          go_wp2
          go_quiet (first | (go_at_call 14; exact quiet_eq (may_yes _ _ hx0 hx1)) | (go_at_call 17; exact quiet_eq (rmay_yes _ _ hx0 hx1)))
          go_wp2
          go_roundw
          case rel => exact ⟨k + 1, by omega, by go_num, by obtain ⟨m, hm⟩ := HM.out; exact ⟨m + nq, by rw [hm, World.drewN_drewN]⟩⟩
          case measure => simp [intOf]; omega
        · go_wp2
          go_quiet (first | (go_at_call 14; exact quiet_eq (may_no _ _ hx)) | (go_at_call 17; exact quiet_eq (rmay_no _ _ hx)))
          go_wp2
          go_roundw
          case rel => exact ⟨k + 1, by omega, by go_num, by obtain ⟨m, hm⟩ := HM.out; exact ⟨m + nq, by rw [hm, World.drewN_drewN]⟩⟩
          case measure => simp [intOf]; omega
      · go_wp2_with fail
        refine (runs_any _).mono ?_
        rintro e w2 ⟨rfl, k2⟩
        go_wp2
        go_ret
        refine ⟨rfl, ?_⟩
        obtain ⟨m, rfl⟩ := HM.out
        exact (below_drewN (Below.refl w.heap.size w) m).trans k2
  · go_enter Try.func4, Try.ntmps4
    go_wp2_with fail
    refine (runs_any _).mono ?_
    rintro e w2 ⟨rfl, k2⟩
    go_wp2
    go_ret
    exact ⟨rfl, k2⟩

end Go.Proofs.Ytamignakfliocaa
