/- Contracts of arg.letters and arg.options. -/
import Derived.Test.YtnmekmifdmlogaaRows
import Derived.Test.YtnmekmifdmlogaaWalksG
import Derived.WalkKit
import Derived.WalkSpells
import Derived.WalkLawsBesides
import Derived.Lib.Hide
import Derived.Deep.QuietTactic
import Derived.BigQuiet
namespace Go.Proofs.Ytnmekmifdmlogaa
open Go.RowKit
open Plain

theorem look_at (s : ByteArray) (x : Int) (c : UInt8) (p q : Bool) (w : World) (hs : s.size ≤ 1000000) (hx : x = (c.toNat : Int)) (hp : known (tx s) c = p) (hq : valued (tx s) c = q) :
    Calls Try.prog 40 #[.string s, .int .u8 x] w fun e w' => e = .returned (.tuple #[.bool p, .bool q]) ∧ Below w.heap.size w w' := by
  subst hp hq
  exact look_any s x c w hs hx
theorem keyed_none (s : ByteArray) (w : World) (hs : s.size ≤ 1000000) (ho : keyed s = none) :
    Calls Try.prog 39 #[.string s] w fun e w' => e = .returned (.tuple #[.agg #[.string ⟨#[]⟩, .string ⟨#[]⟩], .bool false]) ∧ Below w.heap.size w w' := keyed_any s none w hs ho
theorem keyed_some (s K V : ByteArray) (w : World) (hs : s.size ≤ 1000000) (ho : keyed s = some (K, V)) :
    Calls Try.prog 39 #[.string s] w fun e w' => e = .returned (.tuple #[.agg #[.string K, .string V], .bool true]) ∧ Below w.heap.size w w' := keyed_any s (some (K, V)) w hs ho

def LetsPost (o : Option (List Pr × Nat)) (w : World) (e : Ending) (w' : World) : Prop :=
  ∃ v, e = .returned (.tuple #[v, .int .i64 (((o.getD ([], 0)).2 : Nat) : Int), .bool o.isSome]) ∧ OwnO w' w.heap.size v (o.getD ([], 0)).1 ∧ Below w.heap.size w w'
theorem letsPost_none {w w' : World} (k : Below w.heap.size w w') : LetsPost none w (.returned (.tuple #[.slice none 0 0, .int .i64 0, .bool false])) w' := ⟨_, rfl, ownO_nil _ _, k⟩

theorem lets_no {sp : List UInt8} {nx : Option ByteArray} {c : UInt8} {r : List UInt8} {out : List Pr} (h : known sp c = false) : lets sp nx (c :: r) out = none := by rw [lets]; simp [h]
theorem lets_on {sp : List UInt8} {nx : Option ByteArray} {c : UInt8} {r : List UInt8} {out : List Pr} (h : known sp c = true) (hv : valued sp c = false) : lets sp nx (c :: r) out = lets sp nx r (out ++ [(bs [c], bs [])]) := by rw [lets]; simp [h, hv]
theorem lets_val {sp : List UInt8} {nx : Option ByteArray} {c : UInt8} {r : List UInt8} {out : List Pr} (h : known sp c = true) (hv : valued sp c = true) : lets sp nx (c :: r) out = letEnd nx c out r := by rw [lets]; simp [h, hv]
theorem letEnd_here {nx : Option ByteArray} {c : UInt8} {out : List Pr} {r : List UInt8} (h : r ≠ []) : letEnd nx c out r = some (out ++ [(bs [c], bs r)], 0) := by
  cases r with
  | nil => exact absurd rfl h
  | cons => rfl

set_option maxHeartbeats 8000000 in
theorem letters_any (sp s : ByteArray) (B : Option Addr) (m d : Nat) (T : List ByteArray) (o : Option (List Pr × Nat)) (w : World) (hp : sp.size ≤ 1000000) (hs : s.size ≤ 100000) (hT : Strs w B m d T) (ho : lets (tx sp) T.head? (tx s) [] = o) :
    Calls Try.prog 38 #[.string sp, .string s, .slice B m d] w (LetsPost o w) := by
  have HT := Lib.hid hT; have HO := Lib.hid ho
  have HL := Lib.hid (tx_len s)
  have hmx : m ≤ 9223372036854775807 := by have h1 := hT.le; have h2 := hT.mx; unfold maxLen at h2; omega
  clear hT ho
  go_enter Try.func38, Try.ntmps38
  go_wp2
  go_loopw [9, 16] (fun v i wr => ∃ (k : Nat) (out : List Pr), k ≤ s.size ∧ i = .int .i64 k ∧ out.length ≤ k ∧ Hid (OwnO wr w.heap.size v out) ∧ Hid (Below w.heap.size w wr) ∧ Hid (lets (tx sp) T.head? ((tx s).drop k) out = o)) (fun _ i _ => s.size - (intOf i).toNat)
  case atStart => exact ⟨0, [], Nat.zero_le _, rfl, by simp, ownO_nil _ _, Below.refl _ _, HO.out⟩
  case round =>
    obtain ⟨k, out, hk, rfl, hol, OWN, BW, HE⟩ := hrel
    by_cases hlt : k < s.size
    · have he := HE.out
      rw [tx_at s k hlt] at he
      obtain ⟨K, hK⟩ : ∃ K, s.extract k (k + 1) = K := ⟨_, rfl⟩
      have HK := Lib.hid (show K = bs [s[k]] by rw [← hK]; exact ext_one s k hlt)
      have k0 : (0 : Int) ≤ (k : Int) := by omega
      have k1 : (k : Int) < (s.size : Int) := by omega
      cases hkn : known (tx sp) s[k] with
      | false =>
        rw [lets_no hkn] at he
        subst he
        have HKN := Lib.hid hkn
        clear hkn
        go_wp2_with fail
        refine (look_at sp _ s[k] false _ _ hp rfl HKN.out rfl).mono ?_
        rintro e w1 ⟨rfl, q1⟩
        have B1 := Lib.hid (BW.out.trans (q1.mono BW.out.size))
        clear q1
        go_wp2
        go_ret3
        exact letsPost_none B1.out
      | true =>
        cases hva : valued (tx sp) s[k] with
        | false =>
          rw [lets_on hkn hva, ← HK.out] at he
          have X := Lib.hid he
          have HKN := Lib.hid hkn; have HVA := Lib.hid hva
          clear hkn hva he HE
          go_wp2_with fail
          refine (look_at sp _ s[k] true false _ hp rfl HKN.out HVA.out).mono ?_
          rintro e w1 ⟨rfl, q1⟩
          have B1 := Lib.hid (BW.out.trans (q1.mono BW.out.size))
          have O1 := Lib.hid (OWN.out.on q1)
          have hbase := B1.out.size
          clear q1 BW OWN
          go_wp2_with (at_builtin; refine append_opts rfl _ _ rfl w.heap.size _ out rfl (OwnO.on O1.out ((Below.refl _ _).alloc (Nat.le_refl _) _)) _ 1 1 [(K, ⟨#[]⟩)] rfl (opts_one _ _ _ _ (by simp)) (fun h => by cases h) (by omega) (by simp; omega) ?_; intro v3 w3 o3 _ _ b3; have O3 := Lib.hid o3; have B3 := Lib.hid ((B1.out.alloc B1.out.size _).trans b3); clear o3 b3)
          go_roundw
          case rel => exact ⟨k + 1, out ++ [(K, (⟨#[]⟩ : ByteArray))], by omega, by go_num, by simp; omega, O3.out, B3.out, X.out⟩
          case measure => simp [intOf]; omega
        | true =>
          rw [lets_val hkn hva] at he
          have HKN := Lib.hid hkn; have HVA := Lib.hid hva
          clear hkn hva HE
          by_cases hl2 : k + 1 < s.size
          · obtain ⟨V, hV⟩ : ∃ V, s.extract (k + 1) s.size = V := ⟨_, rfl⟩
            have hV2 : V = bs ((tx s).drop (k + 1)) := by rw [← hV]; exact ext_from s _
            rw [letEnd_here (by rw [tx_at s (k + 1) hl2]; simp), ← HK.out, ← hV2] at he
            subst he
            clear hV2
            go_wp2_with fail
            refine (look_at sp _ s[k] true true _ hp rfl HKN.out HVA.out).mono ?_
            rintro e w1 ⟨rfl, q1⟩
            have B1 := Lib.hid (BW.out.trans (q1.mono BW.out.size))
            have O1 := Lib.hid (OWN.out.on q1)
            have hbase := B1.out.size
            clear q1 BW OWN
            go_wp2_with (at_builtin; refine append_opts rfl _ _ rfl w.heap.size _ out rfl (OwnO.on O1.out ((Below.refl _ _).alloc (Nat.le_refl _) _)) _ 1 1 [(K, V)] rfl (opts_one _ _ _ _ (by simp)) (fun h => by cases h) (by omega) (by simp; omega) ?_; intro v3 w3 o3 _ _ b3; have O3 := Lib.hid o3; have B3 := Lib.hid ((B1.out.alloc B1.out.size _).trans b3); clear o3 b3)
            go_ret3
            exact ⟨_, rfl, O3.out, B3.out⟩
          · rw [show (tx s).drop (k + 1) = [] from List.drop_of_length_le (by rw [HL.out]; omega)] at he
            have hl3 : decide ((k : Int) + 1 < (s.size : Int)) = false := by simp; omega
            cases T with
            | nil =>
              have hm0 : m = 0 := by have := HT.out.len; simpa using this.symm
              have hf : o = none := he.symm
              subst hf
              subst hm0
              clear he
              go_wp2_with fail
              refine (look_at sp _ s[k] true true _ hp rfl HKN.out HVA.out).mono ?_
              rintro e w1 ⟨rfl, q1⟩
              have B1 := Lib.hid (BW.out.trans (q1.mono BW.out.size))
              clear q1 BW OWN
              go_wp2
              go_ret3
              exact letsPost_none B1.out
            | cons t T =>
              have hf : o = some (out ++ [(K, t)], 1) := by rw [HK.out]; exact he.symm
              subst hf
              clear he
              obtain ⟨g, of, m', rfl, rfl, _, hg, hc⟩ := HT.out.form
              have hm1 : (0 : Int) < ((m' + 1 : Nat) : Int) := by omega
              go_wp2_with fail
              refine (look_at sp _ s[k] true true _ hp rfl HKN.out HVA.out).mono ?_
              rintro e w1 ⟨rfl, q1⟩
              have B1 := Lib.hid (BW.out.trans (q1.mono BW.out.size))
              have O1 := Lib.hid (OWN.out.on q1)
              have hbase := B1.out.size
              have c1 := (B1.out.cell (p := ⟨g, of, none⟩) hg).trans hc
              clear q1 BW OWN
              go_wp2_with (at_builtin; refine append_opts rfl _ _ rfl w.heap.size _ out rfl (OwnO.on O1.out ((Below.refl _ _).alloc (Nat.le_refl _) _)) _ 1 1 [(K, t)] rfl (opts_one _ _ _ _ (by simp)) (fun h => by cases h) (by omega) (by simp; omega) ?_; intro v3 w3 o3 _ _ b3; have O3 := Lib.hid o3; have B3 := Lib.hid ((B1.out.alloc B1.out.size _).trans b3); clear o3 b3)
              go_ret3
              exact ⟨_, rfl, O3.out, B3.out⟩
    · have hf : o = some (out, 0) := by
        have := HE.out
        rw [List.drop_of_length_le (by rw [HL.out]; omega), lets] at this
        exact this.symm
      subst hf
      go_wp2
      go_ret3
      exact ⟨_, rfl, OWN.out, BW.out⟩

theorem own_one (w : World) (K V : ByteArray) (b base : Nat) (hb : b = w.heap.size) (hbase : base ≤ w.heap.size) : OwnO (w.alloc (.cells #[.string K, .string V] 31)) base (.slice (some ⟨b, 0, none⟩) 1 1) [(K, V)] := by
  subst hb
  exact ⟨rfl, .inr ⟨w.heap.size, 1, _, rfl, hbase, heap_alloc_new w _, Nat.le_refl _, by decide, rfl, rfl⟩⟩

set_option maxHeartbeats 8000000 in
theorem options_any (sp s : ByteArray) (B : Option Addr) (m d : Nat) (T : List ByteArray) (o : Option (List Pr × Nat)) (w : World) (hp : sp.size ≤ 1000000) (hs0 : 0 < s.size) (hs : s.size ≤ 100000) (hT : Strs w B m d T) (ho : optsOf (tx sp) T.head? (tx s) [] = o) :
    Calls Try.prog 25 #[.string sp, .string s, .slice B m d] w (LetsPost o w) := by
  rw [optsOf, tx_get s 0 hs0] at ho
  have HT := Lib.hid hT
  clear hT
  by_cases h45 : s[0] = 45
  · rw [if_pos h45] at ho
    have hz : ((s[0].toNat : Int) != 45) = false := by rw [h45]; rfl
    have hz2 : ((s[0].toNat : Int) == 45) = true := by rw [h45]; rfl
    have hz3 : (s[0].toNat : Int) = 45 := by rw [h45]; rfl
    obtain ⟨u, hu⟩ : ∃ u, s.extract 1 s.size = u := ⟨_, rfl⟩
    rw [← ext_from, hu] at ho
    have hus : u.size ≤ 1000000 := by rw [← hu, ← tx_len, tx_extract, List.length_take, List.length_drop, tx_len]; omega
    clear h45
    cases hk : keyed u with
    | none =>
      rw [hk] at ho
      have hf : o = none := ho.symm
      subst hf
      have HK := Lib.hid hk
      clear hk ho
      go_enter Try.func25, Try.ntmps25
      go_wp2_with fail
      refine (keyed_none u _ hus HK.out).mono ?_
      rintro e w1 ⟨rfl, q1⟩
      have B1 := Lib.hid q1
      clear q1
      go_wp2
      go_ret3
      exact letsPost_none (B1.out.alloc B1.out.size _)
    | some p =>
      obtain ⟨K, V⟩ := p
      rw [hk] at ho
      have hf : o = some ([(K, V)], 0) := ho.symm
      subst hf
      have HK := Lib.hid hk
      clear hk ho
      go_enter Try.func25, Try.ntmps25
      go_wp2_with fail
      refine (keyed_some u K V _ hus HK.out).mono ?_
      rintro e w1 ⟨rfl, q1⟩
      have B1 := Lib.hid q1
      have hbase := q1.size
      clear q1
      go_wp2
      go_ret3
      exact ⟨_, rfl, own_one _ _ _ _ _ (by simp) (by simp; omega), (B1.out.alloc B1.out.size _).alloc (by simp; omega) _⟩
  · rw [if_neg h45] at ho
    have HO := Lib.hid ho
    have hz2 : ((s[0].toNat : Int) == 45) = false := by
      simp
      intro h
      exact h45 (UInt8.toNat_inj.1 (by show s[0].toNat = 45; omega))
    have hz : ((s[0].toNat : Int) != 45) = true := by simp only [bne, hz2]; rfl
    clear h45 ho
    go_enter Try.func25, Try.ntmps25
    go_wp2_with fail
    refine (letters_any sp s B m d T o _ hp hs HT.out HO.out).mono ?_
    rintro e w1 ⟨v, rfl, o1, q1⟩
    have O1 := Lib.hid o1; have B1 := Lib.hid q1
    clear o1 q1
    go_wp2
    go_ret3
    exact ⟨_, rfl, O1.out, B1.out⟩

end Go.Proofs.Ytnmekmifdmlogaa
