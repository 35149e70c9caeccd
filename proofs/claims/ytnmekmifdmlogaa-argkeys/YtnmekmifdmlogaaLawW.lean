/- The law ArgWords, walked. -/
import Derived.Test.YtnmekmifdmlogaaRows
import Derived.Test.YtnmekmifdmlogaaLawD
import Derived.WalkKit
import Derived.WalkSpells
import Derived.WalkLawsBesides
import Derived.Lib.Hide
import Derived.Laws.BytesArg
import Derived.Laws.Concat
namespace Go.Proofs.Ytnmekmifdmlogaa
open Go.RowKit
open Plain

/-- Texts with a byte between. -/
def jn (c : UInt8) : List ByteArray → List UInt8
  | [] => []
  | [x] => tx x
  | x :: y :: l => tx x ++ c :: jn c (y :: l)
theorem jn_cons (c : UInt8) (x : ByteArray) (l : List ByteArray) (h : l ≠ []) : jn c (x :: l) = tx x ++ c :: jn c l := by
  cases l with
  | nil => exact absurd rfl h
  | cons y l => rfl
theorem jn_snoc (c : UInt8) (x : ByteArray) : ∀ l : List ByteArray, l ≠ [] → jn c (l ++ [x]) = jn c l ++ c :: tx x
  | [], h => absurd rfl h
  | [y], _ => by simp [jn]
  | y :: z :: l, _ => by
    have := jn_snoc c x (z :: l) (by simp)
    rw [List.cons_append, jn_cons c y _ (by simp), this, jn_cons c y _ (by simp)]
    simp
theorem wordsF_ne (c : UInt8) (f : Nat) (s : ByteArray) : wordsF c f s ≠ [] := by
  cases f with
  | zero => simp [wordsF]
  | succ f => rw [wordsF]; split <;> simp
theorem wordsF_join (c : UInt8) : ∀ (f : Nat) (s : ByteArray), s.size ≤ f → jn c (wordsF c f s) = tx s
  | 0, s, h => by
    have h0 : Plain.ahead s c = s.size := by have := ahead_le s c; omega
    rw [wordsF, h0, ext_all]; rfl
  | f + 1, s, h => by
    rw [wordsF]
    split
    · rename_i h0
      rw [h0, ext_all]; rfl
    · rename_i h0
      have hle := ahead_le s c
      have hlt : aheadL c (tx s) < (tx s).length := by rw [tx_len]; exact Nat.lt_of_le_of_ne hle h0
      have hi := aheadL_is c (tx s) hlt
      have hsz : (s.extract (Plain.ahead s c + 1) s.size).size ≤ f := by rw [← tx_len, tx_extract, List.length_take, List.length_drop, tx_len]; omega
      rw [jn_cons c _ _ (wordsF_ne c f _), wordsF_join c f _ hsz, ext_to, ext_from, tx_bs, tx_bs]
      have e : (tx s).take (Plain.ahead s c) ++ (tx s).drop (Plain.ahead s c) = tx s := List.take_append_drop _ _
      rw [show (tx s).drop (Plain.ahead s c) = c :: (tx s).drop (Plain.ahead s c + 1) from hi] at e
      exact e
theorem wordsF_none (c : UInt8) : ∀ (f : Nat) (s : ByteArray), ∀ x ∈ wordsF c f s, ∀ y ∈ tx x, y ≠ c
  | 0, s, x, hx => by
    simp [wordsF] at hx
    subst hx
    rw [ext_to, tx_bs]
    exact aheadL_none c (tx s)
  | f + 1, s, x, hx => by
    have h1 : ∀ y ∈ tx (s.extract 0 (Plain.ahead s c)), y ≠ c := by rw [ext_to, tx_bs]; exact aheadL_none c (tx s)
    rw [wordsF] at hx
    split at hx
    · simp at hx
      subst hx
      exact h1
    · simp at hx
      rcases hx with rfl | hx
      · exact h1
      · exact wordsF_none c f _ x hx
theorem jn_take (c : UInt8) (l : List ByteArray) (k : Nat) (h : k < l.length) : jn c (l.take (k + 1)) = (if k = 0 then tx (l.getD k default) else jn c (l.take k) ++ c :: tx (l.getD k default)) := by
  have e : l.take (k + 1) = l.take k ++ [l.getD k default] := by
    rw [List.take_add_one, List.getD_eq_getElem?_getD, List.getElem?_eq_getElem h]; rfl
  by_cases h0 : k = 0
  · rw [if_pos h0, e, h0]; rfl
  · rw [if_neg h0, e, jn_snoc c _ _ (fun e => by have := congrArg List.length e; rw [List.length_take, List.length_nil] at this; omega)]

theorem text_one (w : World) (z : Int) (u : UInt8) (g : Nat) (hg : g = w.heap.size) (hz : z = (u.toNat : Int)) : (convert 46 9 (.slice (some ⟨g, 0, none⟩) 1 1)).run Try.prog (w.alloc (.cells #[.int .u8 z] 5)) = .ok (.string (bs [u])) (w.alloc (.cells #[.int .u8 z] 5)) := by
  subst hg
  have := run_convert_bytes_arg (P := Try.prog) (w.alloc (.cells #[.int .u8 z] 5)) 46 5 Try.underlying46 Try.underlying5 w.heap.size 0 1 1 [z] rfl (fun i hi => by
    obtain rfl : i = 0 := by omega
    exact (Row.new w 5 #[.int .u8 z]).at 0) 9 Try.underlying9
  rw [this]
  have e : strOfNums [z] = bs [u] := by
    apply tx_inj
    rw [tx_bs, hz]
    simp [tx, strOfNums]
  rw [e]
theorem sum_is (a b t : ByteArray) (h : a ++ b = t) (hl : t.size ≤ 1000000) : ∀ w : World, (Op.stringOp .add a b).run Try.prog w = .ok (.string t) w := fun w => by
  have h2 : a.size + b.size = t.size := by rw [← h, ← tx_len, ← tx_len, ← tx_len, tx_append, List.length_append]
  rw [run_string_add_sum w a b (by omega), h]

set_option maxHeartbeats 8000000 in
theorem words_walk (s : ByteArray) (x : Int) (w : World) (hs : s.size ≤ maxLen) (hx : (Lit.int .u8 x).wf = true) :
    Calls Try.prog 7 #[.string s, .int .u8 x] w fun e w' => e = .returned (.bool true) ∧ Below w.heap.size w w' := by
  obtain ⟨u, hu⟩ := byte_of hx
  have HU := Lib.hid hu
  have hs2 : s.size ≤ 9223372036854775807 := by unfold maxLen at hs; omega
  clear hs hx hu
  by_cases hbad : 300 < s.size
  · go_enter Try.func7, Try.ntmps7
    go_wp2_with fail
    refine (law_runs _).mono ?_
    rintro e w2 ⟨rfl, k2⟩
    go_wp2
    go_ret
    exact ⟨rfl, k2⟩
  · obtain ⟨l, hl⟩ : ∃ l, words s u = l := ⟨_, rfl⟩
    have HL := Lib.hid hl
    have HJ := Lib.hid (show jn u l = tx s by rw [← hl]; exact wordsF_join u _ s (Nat.le_refl _))
    have HNO := Lib.hid (show ∀ x ∈ l, ∀ y ∈ tx x, y ≠ u by rw [← hl]; exact wordsF_none u _ s)
    have hne : l ≠ [] := by rw [← hl]; exact wordsF_ne u _ s
    have hln : l.length ≤ 301 := by rw [← hl]; have := wordsF_len u s.size s; rw [words]; omega
    have hlp : 0 < l.length := List.length_pos_iff.2 hne
    have HPRE := Lib.hid (show ∀ k, k ≤ l.length → (jn u (l.take k)).length ≤ 300 from fun k hk => by
      have h1 : ∀ k, k < l.length → (jn u (l.take k)).length ≤ (jn u (l.take (k + 1))).length := fun k hk => by
        rw [jn_take u l k hk]
        split
        · rename_i h0; simp [h0, jn]
        · simp
      have h2 : ∀ d k, k + d = l.length → (jn u (l.take k)).length ≤ (jn u l).length := by
        intro d
        induction d with
        | zero => intro k hk; rw [List.take_of_length_le (by omega)]; exact Nat.le_refl _
        | succ d ih => intro k hk; exact Nat.le_trans (h1 k (by omega)) (ih (k + 1) (by omega))
      have := h2 (l.length - k) k (by omega)
      rw [HJ.out, tx_len] at this
      omega)
    clear hl hne
    go_enter Try.func7, Try.ntmps7
    go_wp2_with fail
    refine (words_as s x u l _ (by omega) HU.out HL.out).mono ?_
    rintro e w1 ⟨A, n, c, rfl, s1, k1⟩
    have S1 := Lib.hid s1; have K1 := Lib.hid k1
    have hn : l.length = n := s1.len
    rw [hn] at hln hlp HPRE
    have HN := Lib.hid hn
    obtain ⟨g, o, rfl, hg, hcell⟩ := s1.cells hlp
    have HC := Lib.hid hcell
    clear s1 k1 hn hcell
    go_wp2
    go_loopw [6, 7] (fun vt vi wr => ∃ (k : Nat) (t : ByteArray), k ≤ n ∧ vi = .int .i64 k ∧ vt = .string t ∧ Hid (tx t = jn u (l.take k)) ∧ Hid (Below w1.heap.size w1 wr)) (fun _ vi _ => n - (intOf vi).toNat)
    case atStart => exact ⟨0, ⟨#[]⟩, Nat.zero_le _, rfl, rfl, by unfold Hid; rfl, Below.refl _ _⟩
    case round =>
      obtain ⟨k, t, hk, rfl, rfl, HT, BW⟩ := hrel
      by_cases hlt : k < n
      · have hkl : k < l.length := by rw [HN.out]; exact hlt
        have hjt := jn_take u l k hkl
        have hjl := HPRE.out (k + 1) (by omega)
        have HWN := Lib.hid (HNO.out _ (getD_mem hkl))
        have C0 := Lib.hid (HC.out k hlt)
        have k0 : (0 : Int) ≤ (k : Int) := by omega
        have k1 : (k : Int) < (n : Int) := by omega
        generalize l.getD k default = V at *
        obtain ⟨t2, ht2⟩ : ∃ t2, bs (jn u (l.take (k + 1))) = t2 := ⟨_, rfl⟩
        have HT2 := Lib.hid (show tx t2 = jn u (l.take (k + 1)) by rw [← ht2, tx_bs])
        have hts2 : t2.size ≤ 300 := by rw [← tx_len, HT2.out]; exact hjl
        have HVS := Lib.hid (show V.size ≤ 300 by
          have : (tx V).length ≤ (jn u (l.take (k + 1))).length := by rw [hjt]; split <;> simp; omega
          rw [tx_len] at this; omega)
        have ways : ∃ (W : World), Hid (Below w1.heap.size w1 W) ∧ ((k = 0 ∧ W = wr ∧ t ++ V = t2) ∨ (0 < k ∧ W = wr.alloc (.cells #[.int .u8 x] 5) ∧ ∃ t1, t ++ bs [u] = t1 ∧ t1 ++ V = t2 ∧ t1.size ≤ 1000000)) := by
          rcases Nat.eq_zero_or_pos k with h0 | h0
          · refine ⟨wr, BW, .inl ⟨h0, rfl, ?_⟩⟩
            apply tx_inj
            rw [tx_append, HT2.out, hjt, if_pos h0, HT.out, h0]; rfl
          · refine ⟨_, BW.out.alloc BW.out.size _, .inr ⟨h0, rfl, t ++ bs [u], rfl, ?_, ?_⟩⟩
            · apply tx_inj
              rw [tx_append, tx_append, tx_bs, HT2.out, hjt, if_neg (by omega), HT.out]; simp
            · rw [← tx_len, tx_append, List.length_append, HT.out, tx_bs]
              have := HPRE.out k hk
              simp; omega
        obtain ⟨W, BV, ways⟩ := ways
        clear hjt ht2 hjl
        have c0 := (BV.out.cell (p := ⟨g, o + k, none⟩) hg).trans C0.out
        have c00 := (BW.out.cell (p := ⟨g, o + k, none⟩) hg).trans C0.out
        rcases ways with ⟨h0, rfl, ha⟩ | ⟨h0, hW, t1, ha, hb, ht1⟩
        · have sa := sum_is t V t2 ha (by omega)
          have hk0 : decide ((0 : Int) < (k : Int)) = false := by simp; omega
          have hk1 : decide (0 < k) = false := by simp; omega
          have hk2 : ¬ 0 < k := by omega
          clear ha h0
          go_wp2
          go_loopw [8] (fun vj wr2 => ∃ (j : Nat), j ≤ V.size ∧ vj = .int .i64 j ∧ Hid (Below w1.heap.size w1 wr2)) (fun vj _ => V.size - (intOf vj).toNat)
          case atStart => exact ⟨0, Nat.zero_le _, rfl, BV.out⟩
          case round =>
            clear c0 c00
            obtain ⟨j, hj, rfl, BX⟩ := hrel
            have c0 := (BX.out.cell (p := ⟨g, o + k, none⟩) hg).trans C0.out
            have hvs := HVS.out
            by_cases hjv : j < V.size
            · have hz2 : ((V[j].toNat : Int) == x) = false := by
                rw [HU.out]
                simp
                intro h
                refine HWN.out V[j] ?_ (UInt8.toNat_inj.1 (by omega))
                rw [← tx_get V j hjv, List.getD_eq_getElem?_getD, List.getElem?_eq_getElem (by rw [tx_len]; exact hjv)]
                exact List.getElem_mem _
              go_wp2
              go_roundw
              case rel => exact ⟨j + 1, by omega, by go_num, BX.out⟩
              case measure => simp [intOf]; omega
            · have hjd : decide ((j : Int) < (V.size : Int)) = false := by simp; omega
              go_wp2
              go_roundw
              case rel => exact ⟨k + 1, t2, by omega, by go_num, rfl, HT2.out, BX.out⟩
              case measure => simp [intOf]; omega
        · have sa := sum_is t (bs [u]) t1 ha ht1
          have sb := sum_is t1 V t2 hb (by omega)
          have cv := text_one wr x u wr.heap.size rfl HU.out
          rw [← hW] at cv
          have hk0 : decide ((0 : Int) < (k : Int)) = true := by simp; omega
          have hk1 : decide (0 < k) = true := by simp; omega
          clear ha hb
          subst hW
          go_wp2
          go_loopw [8] (fun vj wr2 => ∃ (j : Nat), j ≤ V.size ∧ vj = .int .i64 j ∧ Hid (Below w1.heap.size w1 wr2)) (fun vj _ => V.size - (intOf vj).toNat)
          case atStart => exact ⟨0, Nat.zero_le _, rfl, BV.out⟩
          case round =>
            clear c0 c00
            obtain ⟨j, hj, rfl, BX⟩ := hrel
            have c0 := (BX.out.cell (p := ⟨g, o + k, none⟩) hg).trans C0.out
            have hvs := HVS.out
            by_cases hjv : j < V.size
            · have hz2 : ((V[j].toNat : Int) == x) = false := by
                rw [HU.out]
                simp
                intro h
                refine HWN.out V[j] ?_ (UInt8.toNat_inj.1 (by omega))
                rw [← tx_get V j hjv, List.getD_eq_getElem?_getD, List.getElem?_eq_getElem (by rw [tx_len]; exact hjv)]
                exact List.getElem_mem _
              go_wp2
              go_roundw
              case rel => exact ⟨j + 1, by omega, by go_num, BX.out⟩
              case measure => simp [intOf]; omega
            · have hjd : decide ((j : Int) < (V.size : Int)) = false := by simp; omega
              go_wp2
              go_roundw
              case rel => exact ⟨k + 1, t2, by omega, by go_num, rfl, HT2.out, BX.out⟩
              case measure => simp [intOf]; omega
      · have hkn : k = n := by omega
        have hts : t = s := by
          apply tx_inj
          rw [HT.out, List.take_of_length_le (by rw [HN.out]; omega), HJ.out]
        subst hts
        have hz := eq_toList (rfl : t = t)
        go_wp2_with fail
        refine (law_runs _).mono ?_
        rintro e w7 ⟨rfl, k7⟩
        go_wp2
        go_ret
        exact ⟨rfl, (K1.out.trans (BW.out.mono K1.out.size)).trans (k7.mono (Nat.le_trans K1.out.size BW.out.size))⟩

end Go.Proofs.Ytnmekmifdmlogaa
