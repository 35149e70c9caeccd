/- Contract of the law TabRuns itself, which the other laws call. -/
import Derived.Test.YtoccnhajfmkpoaaWalksG
import Derived.Test.YtoccnhajfmkpoaaWalksI
import Derived.WalkKit
import Derived.WalkSpells
import Derived.WalkLawsBesides
import Derived.Lib.Hide
import Derived.Lib.SlBytesConst
namespace Go.Proofs.Ytoccnhajfmkpoaa
open Go.RowKit

theorem good_tb (i : Bool) : Good (tbL i) := ⟨len_tb i, by cases i <;> decide +kernel⟩
theorem good_asc : Good tbA := ⟨len_asc, by decide +kernel⟩
theorem good_lower : Good lower := ⟨len_lower, by decide +kernel⟩
theorem good_upper : Good upper := ⟨len_upper, by decide +kernel⟩

theorem map_at (t : List Int) (A : Option Addr) (n c : Nat) (zs m : List Int) (w : World) (ht : Good t) (hb : Bytes w A n c zs) (hz : Are zs) (hm : n ≤ 1000000) (he : mapL t zs = m) : Calls Try.prog 10 #[tv t, .slice A n c] w (BytesPost m w) := by
  subst he
  exact map_any t A n c zs w ht hb hz hm

/-- Bytes of a constant string that were just written out. -/
theorem bytes_const (w : World) (arr : Array Value) (l : List Int) (t : TypeId) (fr : Nat × Nat) (s n : Nat) (hs : s = w.heap.size) (ha : arr = cs l) (hn : l.length = n) (hm : n ≤ maxLen) :
    Bytes (w.alloc (.cells arr t fr)) (some ⟨s, 0, none⟩) n n l := by
  subst hs hn ha
  refine ⟨rfl, Nat.le_refl _, hm, fun _ => ⟨_, _, rfl, by simp, fun k hk => ?_⟩⟩
  rw [Nat.zero_add, cell_of_row _ _ k (cs l) t fr (heap_alloc_new w _)]
  simp [cs, List.getD_eq_getElem?_getD, List.getElem?_eq_getElem hk]

theorem tbs_nil (w : World) : Tbs w none 0 [] := ⟨rfl, fun k hk => absurd hk (by omega), fun h => absurd h (by omega)⟩

set_option maxRecDepth 100000 in
set_option maxHeartbeats 2000000 in
theorem law_runs (w : World) : Calls Try.prog 3 #[] w fun e w' => e = .returned (.bool true) ∧ Below w.heap.size w w' := by
  have CE := Lib.hid ebcdic_any; have CI := Lib.hid ibm_any; have CU := Lib.hid upper_any
  have CT := Lib.hid (show ∀ w, Calls Try.prog 14 #[.slice none 0 0] w (TabPost ids w) from fun w => then_any none 0 0 [] w (tbs_nil w) (by omega))
  have GE := Lib.hid (good_tb false); have GU := Lib.hid good_upper
  have ME := Lib.hid (show mapL tbE [65, 49, 32] = [193, 241, 64] by decide +kernel)
  have MU := Lib.hid (show mapL upper [97, 122, 91, 255] = [65, 90, 91, 255] by decide +kernel)
  have XI : ∀ w, (Instr.index 24 (tv tbI) (.int .i64 94)).run Try.prog w = .ok (.int .u8 95) w := fun w => run_index_tab w tbI .i64 94 94 rfl (len_tb true) (by omega)
  have XT : ∀ w, (Instr.index 24 (tv ids) (.int .i64 7)).run Try.prog w = .ok (.int .u8 7) w := fun w => run_index_tab w ids .i64 7 7 rfl len_ids (by omega)
  change Hid (Good tbE) at GE
  have kc := fun (w : World) (C : Array Value) (n c : Nat) => Lib.run_convert_bytes_const (P := Try.prog) w 22 5 C n c Try.underlying22 Try.underlying5
  generalize tbE = E at CE GE ME
  generalize tbI = I at CI XI
  generalize upper = U at CU GU MU
  generalize ids = D at CT XT
  go_enter Try.func3, Try.ntmps3
  go_wp2_with fail
  refine (CE.out w).mono ?_
  rintro e w1 ⟨rfl, k1⟩
  have K1 := Lib.hid k1
  clear k1
  go_wp2_with fail
  refine (map_at E _ 3 3 [65, 49, 32] [193, 241, 64] _ GE.out (bytes_const w1 _ [65, 49, 32] 5 (3, 4) _ 3 rfl rfl rfl (by decide)) (by intro z hz; simp at hz; omega) (by omega) ME.out).mono ?_
  rintro e w2 ⟨A2, c2, rfl, q2, n2, k2⟩
  have K2 := Lib.hid ((K1.out.alloc K1.out.size (.cells #[.int .u8 65, .int .u8 49, .int .u8 32] 5 (3, 4))).trans (k2.mono (by have := K1.out.size; simp; omega)))
  have t2 : (convert 22 9 (.slice A2 3 c2)).run Try.prog w2 = .ok (.string ⟨#[193, 241, 64]⟩) w2 := text_of q2 n2
  clear k2 K1 q2 n2
  rw [show ([193, 241, 64] : List Int).length = 3 from rfl]
  go_wp2_with fail
  refine (CU.out w2).mono ?_
  rintro e w3 ⟨rfl, k3⟩
  have K3 := Lib.hid (K2.out.trans (k3.mono K2.out.size))
  clear k3 K2 t2
  go_wp2_with fail
  refine (map_at U _ 4 4 [97, 122, 91, 255] [65, 90, 91, 255] _ GU.out (bytes_const w3 _ [97, 122, 91, 255] 5 (4, 5) _ 4 rfl rfl rfl (by decide)) (by intro z hz; simp at hz; omega) (by omega) MU.out).mono ?_
  rintro e w4 ⟨A4, c4, rfl, q4, n4, k4⟩
  have K4 := Lib.hid ((K3.out.alloc K3.out.size (.cells #[.int .u8 97, .int .u8 122, .int .u8 91, .int .u8 255] 5 (4, 5))).trans (k4.mono (by have := K3.out.size; simp; omega)))
  have t4 : (convert 22 9 (.slice A4 4 c4)).run Try.prog w4 = .ok (.string ⟨#[65, 90, 91, 255]⟩) w4 := text_of q4 n4
  clear k4 K3 q4 n4
  rw [show ([65, 90, 91, 255] : List Int).length = 4 from rfl]
  go_wp2_with fail
  refine (CI.out w4).mono ?_
  rintro e w5 ⟨rfl, k5⟩
  have K5 := Lib.hid (K4.out.trans (k5.mono K4.out.size))
  clear k5 K4 t4
  go_wp2_with fail
  refine (CT.out w5).mono ?_
  rintro e w6 ⟨rfl, k6⟩
  have K6 := Lib.hid (K5.out.trans (k6.mono K5.out.size))
  clear k6 K5
  go_wp2
  go_ret
  exact ⟨by first | rfl | decide | simp, K6.out⟩

end Go.Proofs.Ytoccnhajfmkpoaa
