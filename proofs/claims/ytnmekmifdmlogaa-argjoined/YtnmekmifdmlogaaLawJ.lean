/- The law ArgJoined, walked. -/
import Derived.Test.YtnmekmifdmlogaaRows
import Derived.Test.YtnmekmifdmlogaaPlainJ
import Derived.Test.YtnmekmifdmlogaaLawW
import Derived.WalkKit
import Derived.WalkSpells
import Derived.WalkLawsBesides
import Derived.Lib.Hide
import Derived.Deep.QuietTactic
import Derived.BigQuiet
import Derived.Deep.DeepCutAuto
import Derived.OpenShut
namespace Go.Proofs.Ytnmekmifdmlogaa
open Go.RowKit
open Plain

/-- A slice of integers that came in: nil; or a row of 'cap' cells that hold the numbers 'zs', the first 'len' of them its elements. -/
def IsRow (k : IntKind) (w : World) (a : Option Addr) (len cap : Nat) (zs : List Int) : Prop :=
  (a = none ∧ len = 0 ∧ cap = 0 ∧ zs = []) ∨
  ∃ x, a = some x ∧ len ≤ cap ∧ cap ≤ maxLen ∧ zs.length = cap ∧ (∀ i, i < zs.length → w.cell? (x.add i) = some (.int k (zs.getD i 0))) ∧ ∀ n ∈ zs, (Lit.int k n).wf = true
/-- Bytes that came in. -/
structure Nums (w : World) (A : Option Addr) (n : Nat) (ps : List Int) : Prop where
  len : ps.length = n
  cells : 0 < n → ∃ b o, A = some ⟨b, o, none⟩ ∧ b < w.heap.size ∧ ∀ k, k < n → w.cell? ⟨b, o + k, none⟩ = some (.int .u8 (ps.getD k 0))
  are : ∀ z ∈ ps, 0 ≤ z ∧ z ≤ 255
theorem IsRow.nums {w : World} {a : Option Addr} {len cap : Nat} {zs : List Int} (h : IsRow .u8 w a len cap zs) : len ≤ maxLen ∧ Nums w a len (zs.take len) := by
  rcases h with ⟨rfl, rfl, rfl, rfl⟩ | ⟨x, rfl, hl, hm, hz, hc, hw⟩
  · exact ⟨Nat.zero_le _, rfl, fun h => absurd h (by omega), fun z h => by simp at h⟩
  · refine ⟨by omega, by simp; omega, fun hp => ?_, fun z h => bounds_u8 (hw z (List.mem_of_mem_take h))⟩
    obtain ⟨b, o, s⟩ := x
    have h0 := hc 0 (by omega)
    have hs : s = none := by simpa [Addr.add] using World.cell?_spot h0
    subst hs
    refine ⟨b, o, rfl, World.block_lt_of_cell? w ⟨b, o, none⟩ (by simpa [Addr.add] using h0), fun k hk => ?_⟩
    have hk' := hc k (by omega)
    rw [add_at] at hk'
    rw [hk', List.getD_eq_getElem?_getD, List.getD_eq_getElem?_getD, List.getElem?_take_of_lt hk]
theorem chs_at (ps : List Int) (k : Nat) (h : k < ps.length) (q : Nat) (hq : (ps.getD k 0).tmod 3 = (q : Int)) : (chs ps).take (k + 1) = (chs ps).take k ++ [UInt8.ofNat (97 + q)] := by
  have hl : k < (chs ps).length := by simp [chs]; exact h
  rw [List.take_add_one, List.getElem?_eq_getElem hl]
  have e : (chs ps)[k] = UInt8.ofNat (97 + q) := by
    rw [List.getD_eq_getElem?_getD, List.getElem?_eq_getElem h] at hq
    simp only [chs, List.getElem_map]
    rw [show (ps[k]).tmod 3 = (q : Int) from hq]
    rfl
  rw [e]; rfl
theorem abc_ext (q : Nat) (h : q < 3) : (⟨#[97, 98, 99]⟩ : ByteArray).extract q (q + 1) = bs [UInt8.ofNat (97 + q)] := by
  match q, h with
  | 0, _ => rfl
  | 1, _ => rfl
  | 2, _ => rfl
theorem find_some (A : Option Addr) (n c : Nat) (os : List Pr) (key v : ByteArray) (w : World) (hO : Opts w A n os) (hn : n ≤ 1000000) (ho : find os key = some v) :
    Calls Try.prog 18 #[.slice A n c, .string key] w fun e w' => e = .returned (.tuple #[.string v, .bool true]) ∧ w = w' := find_any A n c os key (some v) w hO hn ho
theorem size_tx (s : ByteArray) (l : List UInt8) (h : tx s = l) : s.size = l.length := by rw [← tx_len, h]

set_option maxRecDepth 100000 in
set_option maxHeartbeats 16000000 in
theorem joined_walk (A : Option Addr) (n c : Nat) (zs : List Int) (val : ByteArray) (B : Option Addr) (m d : Nat) (T : List ByteArray) (w : World) (hP : IsRow .u8 w A n c zs) (hv : val.size ≤ maxLen) (hT : IsStrs w B m d T) :
    Calls Try.prog 8 #[.slice A n c, .string val, .slice B m d] w fun e w' => e = .returned (.bool true) ∧ Below w.heap.size w w' := by
  obtain ⟨hn0, hnums⟩ := hP.nums
  generalize zs.take n = ps at hnums
  have HP := Lib.hid hnums; have HT := Lib.hid hT.1; have HS := Lib.hid hT.2
  have hn : n ≤ 9223372036854775807 := by unfold maxLen at hn0; omega
  have hv2 : val.size ≤ 9223372036854775807 := by unfold maxLen at hv; omega
  clear hP hnums hT hn0 hv
  by_cases hb1 : 10 < n ∨ 50 < val.size
  · have ways : 10 < n ∨ (n ≤ 10 ∧ 50 < val.size) := by omega
    clear hb1
    rcases ways with h | ⟨h1, h⟩
    all_goals
      go_enter Try.func8, Try.ntmps8
      go_wp2_with fail
      refine (law_runs _).mono ?_
      rintro e w2 ⟨rfl, k2⟩
      go_wp2
      go_ret
      exact ⟨rfl, k2⟩
  · have hn10 : n ≤ 10 := by omega
    have hv50 : val.size ≤ 50 := by omega
    clear hb1
    go_enter Try.func8, Try.ntmps8
    go_wp2_with fail
    refine (few_any B m d T 10 _ HT.out HS.out (by decide)).mono ?_
    rintro e w1 ⟨b, rfl, rfl, hf⟩
    cases b with
    | false =>
      go_wp2_with fail
      refine (law_runs _).mono ?_
      rintro e w2 ⟨rfl, k2⟩
      go_wp2
      go_ret
      exact ⟨rfl, k2⟩
    | true =>
      have FW := Lib.hid (hf rfl)
      clear hf
      by_cases hval : val = ⟨#[]⟩
      · subst hval
        go_wp2_with fail
        refine (law_runs _).mono ?_
        rintro e w2 ⟨rfl, k2⟩
        go_wp2
        go_ret
        exact ⟨rfl, k2⟩
      · have htv : tx val ≠ [] := fun h => hval (tx_inj (h.trans rfl))
        have hve : val.toList.isEmpty = false := by rw [tx_toList, List.isEmpty_eq_false_iff]; exact htv
        have hve2 : (val.toList == []) = false := by rw [tx_toList]; simpa using htv
        have hve3 : ¬ val.toList = [] := by rw [tx_toList]; exact htv
        have HTV := Lib.hid htv
        have hm10 : m ≤ 10 := by have := FW.out.1; have := HT.out.len; omega
        clear htv
        obtain ⟨cs, hcs⟩ : ∃ cs, chs ps = cs := ⟨_, rfl⟩
        have HCL := Lib.hid (show cs.length = n by rw [← hcs, chs, List.length_map]; exact HP.out.len)
        have HAB := Lib.hid (show ∀ c ∈ cs, abc c by rw [← hcs]; exact chs_abc ps)
        have HCS := Lib.hid hcs
        clear hcs
        go_wp2
        go_loopw [7, 8, 9] (fun v7 v8 vi wr => ∃ (k : Nat) (one : ByteArray), k ≤ n ∧ vi = .int .i64 k ∧ v7 = .string one ∧ Hid (tx one = 45 :: cs.take k) ∧ Hid (OwnT wr w.heap.size v8 ((cs.take k).map fun c => bs [45, c])) ∧ Hid (Below w.heap.size w wr)) (fun _ _ vi _ => n - (intOf vi).toNat)
        case atStart => exact ⟨0, ⟨#[45]⟩, Nat.zero_le _, rfl, rfl, by unfold Hid; rfl, own_new _ _ _ _ _ _ rfl rfl rfl (by decide) (Nat.le_refl _), (Below.refl _ _).alloc (Nat.le_refl _) _⟩
        case round =>
          obtain ⟨k, one, hk, rfl, rfl, H1, OM, BW⟩ := hrel
          have hos : one.size = k + 1 := by rw [size_tx _ _ H1.out, List.length_cons, List.length_take, HCL.out]; omega
          by_cases hlt : k < n
          · obtain ⟨g, o, rfl, hg, hc⟩ := HP.out.cells (by omega)
            have c0 := (BW.out.cell (p := ⟨g, o + k, none⟩) hg).trans (hc k hlt)
            have hz := HP.out.are _ (show ps.getD k 0 ∈ ps by have := HP.out.len; rw [List.getD_eq_getElem?_getD, List.getElem?_eq_getElem (by omega)]; exact List.getElem_mem _)
            obtain ⟨q, hq, hq2⟩ : ∃ q : Nat, (ps.getD k 0).tmod 3 = (q : Int) ∧ q < 3 := by
              refine ⟨((ps.getD k 0).tmod 3).toNat, ?_, ?_⟩ <;> rw [Int.tmod_eq_emod_of_nonneg hz.1] <;> omega
            have hch := chs_at ps k (by have := HP.out.len; omega) q hq
            rw [HCS.out] at hch
            have HCH := Lib.hid hch
            clear hc hch
            generalize ps.getD k 0 = z at *
            obtain ⟨hz0, hz1⟩ := hz
            obtain ⟨ch, hce⟩ : ∃ ch, UInt8.ofNat (97 + q) = ch := ⟨_, rfl⟩
            obtain ⟨C, hC⟩ : ∃ C, (⟨#[97, 98, 99]⟩ : ByteArray).extract q (q + 1) = C := ⟨_, rfl⟩
            have HC := Lib.hid (show C = bs [ch] by rw [← hC, abc_ext q hq2, hce])
            rw [hce] at HCH
            obtain ⟨one2, ho2⟩ : ∃ x, one ++ C = x := ⟨_, rfl⟩
            obtain ⟨dc, hdc⟩ : ∃ x, (⟨#[45]⟩ : ByteArray) ++ C = x := ⟨_, rfl⟩
            have H2 := Lib.hid (show tx one2 = 45 :: cs.take (k + 1) by rw [← ho2, tx_append, H1.out, HC.out, tx_bs, HCH.out]; simp)
            have HDC := Lib.hid (show dc = bs [45, ch] by apply tx_inj; rw [← hdc, tx_append, HC.out, tx_bs, tx_bs]; rfl)
            have sa := sum_is one C one2 ho2 (by rw [size_tx _ _ H2.out, List.length_cons, List.length_take, HCL.out]; omega)
            have sb := sum_is ⟨#[45]⟩ C dc hdc (by rw [HDC.out, size_tx _ _ (tx_bs _)]; simp)
            have k0 : (0 : Int) ≤ (k : Int) := by omega
            have k1 : (k : Int) < (n : Int) := by omega
            have q0 : (0 : Int) ≤ (q : Int) := by omega
            have q1 : (q : Int) ≤ (q : Int) + 1 := by omega
            have q2 : (q : Int) + 1 ≤ 3 := by omega
            have q3 : IntKind.u8.wrap ((q : Int) + 1) = (q : Int) + 1 := by
              have : q = 0 ∨ q = 1 ∨ q = 2 := by omega
              rcases this with rfl | rfl | rfl <;> rfl
            have q4 : (0 : Int) ≤ (q : Int) + 1 := by omega
            clear ho2 hdc hce
            go_wp2
            go_quiet (fail)
            have OM2 := Lib.hid (OM.out.on (below_drewN (Below.refl _ _) nq))
            have BW2 := Lib.hid (below_drewN BW.out nq)
            generalize wr.drewN nq = W2 at *
            have hbase := BW2.out.size
            have HB2 := Lib.hid (show ((cs.take k).map fun c => bs [45, c]).length + 1 ≤ 1000000 by simp; omega)
            clear hq
            go_wp2_with (at_builtin; refine append_texts rfl _ _ rfl w.heap.size _ ((cs.take k).map fun c => bs [45, c]) rfl (OwnT.on OM2.out ((Below.refl _ _).alloc (Nat.le_refl _) _)) _ 1 1 [dc] rfl (strs_one _ _ _ (by simp)) HB2.out (by simp; omega) ?_; intro v3 w3 o3 g3 m3 b3; have O3 := Lib.hid o3; have B3 := Lib.hid ((BW2.out.alloc BW2.out.size _).trans b3); clear o3 g3 m3 b3)
            go_roundw
            case rel => exact ⟨k + 1, one2, by omega, by go_num, rfl, H2.out, by unfold Hid; rw [HCH.out, List.map_append, List.map_cons, List.map_nil, ← HDC.out]; exact O3.out, B3.out⟩
            case measure => simp [intOf]; omega
          · have hkn : k = n := by omega
            have htk : cs.take k = cs := List.take_of_length_le (by have := HCL.out; omega)
            have h1 := H1.out; have om := OM.out
            rw [htk] at h1 om
            obtain ⟨ms, hms⟩ : ∃ ms, (cs.map fun c => bs [45, c]) = ms := ⟨_, rfl⟩
            rw [hms] at om
            have HMS := Lib.hid hms
            have HML := Lib.hid (show ms.length = n by rw [← hms, List.length_map]; exact HCL.out)
            have H1' := Lib.hid h1; have OM1 := Lib.hid om
            clear h1 om htk hms H1 OM
            have hj : decide ((k : Int) < (n : Int)) = false := by simp; omega
            obtain ⟨ov, hov⟩ : ∃ x, one ++ ⟨#[118]⟩ = x := ⟨_, rfl⟩
            obtain ⟨ovv, hovv⟩ : ∃ x, ov ++ val = x := ⟨_, rfl⟩
            have HOV := Lib.hid (show tx ov = 45 :: (cs ++ [118]) by rw [← hov, tx_append, H1'.out]; rfl)
            have HOVV := Lib.hid (show tx ovv = 45 :: (cs ++ 118 :: tx val) by rw [← hovv, tx_append, HOV.out]; simp)
            have hov1 : ov.size = n + 2 := by rw [size_tx _ _ HOV.out]; simp [HCL.out]
            have hov2 : ovv.size = n + 2 + val.size := by rw [size_tx _ _ HOVV.out]; simp [HCL.out, tx_len]; omega
            have sa := sum_is one ⟨#[118]⟩ ov hov (by omega)
            have sb := sum_is ov val ovv hovv (by omega)
            clear hov hovv hkn
            obtain ⟨os, hos'⟩ : ∃ os, cs.map ltr ++ [(bs [118], val)] = os := ⟨_, rfl⟩
            have HOL := Lib.hid (show os.length = n + 1 by rw [← hos']; simp [HCL.out])
            have HFD := Lib.hid (show find os ⟨#[118]⟩ = some val by rw [← hos']; exact find_last _ _ _)
            have FA := Lib.hid (show flags spJ ([ovv, ⟨#[45, 45]⟩] ++ T) = some (os, T) from flags_of (f := T.length + 1 + 1) (by simp; have := FW.out.1; omega) (by simp) (by rw [← hos', show ovv = bs (45 :: (cs ++ 118 :: tx val)) from tx_inj (by rw [HOVV.out, tx_bs])]; exact joined_a cs HAB.out val HTV.out T.length T))
            have FC := Lib.hid (show flags spJ ([ov, val, ⟨#[45, 45]⟩] ++ T) = some (os, T) from flags_of (f := T.length + 1 + 1 + 1) (by simp; have := FW.out.1; omega) (by simp) (by rw [← hos', show ov = bs (45 :: (cs ++ [118])) from tx_inj (by rw [HOV.out, tx_bs])]; exact joined_c cs HAB.out val (T.length + 1) T))
            have FB := Lib.hid (show flags spJ (ms ++ [⟨#[45, 118]⟩, val, ⟨#[45, 45]⟩] ++ T) = some (os, T) from flags_of (f := T.length + 1 + 1 + 1 + cs.length) (by simp [HML.out]; have := FW.out.1; omega) (by simp [HML.out, HCL.out]; omega) (by rw [← hos', ← HMS.out, List.append_assoc]; exact joined_b cs HAB.out val (T.length + 1) T))
            have SZ := Lib.hid (show ∀ s ∈ T, s.size ≤ 1000 from fun s hs => by have := FW.out.2 s hs; omega)
            have SA := Lib.hid (show ∀ s ∈ [ovv, ⟨#[45, 45]⟩] ++ T, s.size ≤ 1000 from fun s hs => by
              rcases List.mem_append.1 hs with h | h
              · simp at h
                rcases h with rfl | rfl
                · omega
                · decide
              · exact SZ.out s h)
            have SC := Lib.hid (show ∀ s ∈ [ov, val, ⟨#[45, 45]⟩] ++ T, s.size ≤ 1000 from fun s hs => by
              rcases List.mem_append.1 hs with h | h
              · simp at h
                rcases h with rfl | rfl | rfl
                · omega
                · omega
                · decide
              · exact SZ.out s h)
            have SB := Lib.hid (show ∀ s ∈ ms ++ [⟨#[45, 118]⟩, val, ⟨#[45, 45]⟩] ++ T, s.size ≤ 1000 from fun s hs => by
              rcases List.mem_append.1 hs with h | h
              · rcases List.mem_append.1 h with h | h
                · rw [← HMS.out] at h
                  obtain ⟨c, _, rfl⟩ := List.mem_map.1 h
                  rw [size_tx _ _ (tx_bs _)]; simp
                · simp at h
                  rcases h with rfl | rfl | rfl
                  · decide
                  · omega
                  · decide
              · exact SZ.out s h)
            clear hos'
            have hw0 := BW.out.size
            have KA := Lib.hid ((Below.refl wr.heap.size wr).alloc (Nat.le_refl _) (.cells #[.string ovv, .string ⟨#[45, 45]⟩] 9))
            have TA := Lib.hid (HT.out.on (BW.out.alloc BW.out.size (.cells #[.string ovv, .string ⟨#[45, 45]⟩] 9)))
            have OA := Lib.hid (own_new wr #[.string ovv, .string ⟨#[45, 45]⟩] [ovv, ⟨#[45, 45]⟩] wr.heap.size 2 wr.heap.size rfl rfl rfl (by decide) (Nat.le_refl _))
            go_upto_region 11 with (first | (at_builtin; refine append_texts rfl _ _ rfl wr.heap.size _ [ovv, ⟨#[45, 45]⟩] rfl OA.out _ m d T rfl TA.out (by simp; omega) (by simp) ?_; intro v3 w3 o3 g3 m3 b3; obtain ⟨A3, c3, hv3, s3⟩ := OwnT.strs o3; generalize ([ovv, ⟨#[45, 45]⟩] ++ T).length = n3 at hv3 s3; subst hv3; have S3 := Lib.hid s3; have K3 := Lib.hid (KA.out.trans b3); clear o3 g3 m3 b3 s3))
            refine (flags_own spJ A3 n3 c3 ([ovv, ⟨#[45, 45]⟩] ++ T) os T _ (by decide) S3.out SA.out FA.out).mono ?_
            rintro e w4 ⟨A4, n4, c4, A5, n5, c5, rfl, ⟨hn4, hn5⟩, o4, t4, k4⟩
            have G5 := Lib.hid (got_new (w0 := w3) o4 t4 k4.size)
            have K34 := k4.alloc k4.size (.cells #[.slice A4 n4 c4, .slice A5 n5 c5] 25)
            have K05 := K3.out.trans (K34.mono K3.out.size)
            have BW5 := Lib.hid (BW.out.trans (K05.mono BW.out.size))
            have OM5 := Lib.hid (OM1.out.on K05)
            have MB := Lib.hid (show ∀ k, u8.ownBlock = some k → k < w3.heap.size from fun k hk => Nat.lt_of_lt_of_le (World.ownsRow.lt OM1.out k hk).2 K3.out.size)
            have HN4 := Lib.hid (And.intro hn4 hn5)
            have hsz5 : (w4.alloc (.cells #[.slice A4 n4 c4, .slice A5 n5 c5] 25)).heap.size = w4.heap.size + 1 := by simp
            clear o4 t4 k4 K34 K05 hn4 hn5 KA TA OA S3 K3 OM1
            go_upto_region 11 with fail
            generalize w4.alloc (.cells #[.slice A4 n4 c4, .slice A5 n5 c5] 25) = W5 at *
            generalize hb4 : w4.heap.size = b4 at *
            clear hb4
            have HSZ5 := Lib.hid hsz5
            clear hsz5
            have hw5 := BW5.out.size
            have KX := (Below.refl W5.heap.size W5).alloc (Nat.le_refl _) (.cells #[.string ⟨#[45, 118]⟩, .string val, .string ⟨#[45, 45]⟩] 9)
            have GX := Lib.hid (G5.out.on KX)
            have OMX := Lib.hid (OM5.out.on KX)
            have BWX := Lib.hid (BW5.out.trans (KX.mono BW5.out.size))
            have SX := Lib.hid (strs_new W5 #[.string ⟨#[45, 118]⟩, .string val, .string ⟨#[45, 45]⟩] [⟨#[45, 118]⟩, val, ⟨#[45, 45]⟩] W5.heap.size 3 rfl rfl rfl (by decide))
            have LX := Lib.hid (show ms.length + 3 ≤ 1000000 by rw [HML.out]; omega)
            have LY := Lib.hid (show (ms ++ [⟨#[45, 118]⟩, val, ⟨#[45, 45]⟩]).length + m ≤ 1000000 by simp [HML.out]; omega)
            clear KX G5 OM5
            go_upto_region 12 with (first
              | (at_builtin; refine append_texts rfl _ _ rfl w.heap.size _ ms rfl OMX.out _ 3 3 [⟨#[45, 118]⟩, val, ⟨#[45, 45]⟩] rfl SX.out LX.out (by simp; omega) ?_; intro v6 w6 o6 g6 m6 b6; obtain ⟨A6, c6, hv6, _⟩ := OwnT.strs o6; generalize (ms ++ [⟨#[45, 118]⟩, val, ⟨#[45, 45]⟩]).length = n6 at hv6; subst hv6; have O6 := Lib.hid o6; have G6 := Lib.hid (GX.out.grown g6 (fun k hk => .inl (MB.out k hk))); have R6 := Lib.hid (show ∀ k, (Value.slice A6 n6 c6).ownBlock = some k → k < w3.heap.size ∨ b4 + 1 ≤ k from fun k hk => (m6.elim (fun h => .inl (MB.out k (h ▸ hk))) (fun h => .inr (by rw [h] at hk; simp at hk; have := HSZ5.out; omega)))); have BW6 := Lib.hid (BWX.out.trans b6); clear o6 g6 m6 b6)
              | (at_builtin; refine append_texts rfl _ _ rfl w.heap.size _ (ms ++ [⟨#[45, 118]⟩, val, ⟨#[45, 45]⟩]) rfl O6.out _ m d T rfl (HT.out.on BW6.out) LY.out BW6.out.size ?_; intro v7 w7 o7 g7 m7 b7; obtain ⟨A7, c7, hv7, s7⟩ := OwnT.strs o7; generalize (ms ++ [⟨#[45, 118]⟩, val, ⟨#[45, 45]⟩] ++ T).length = n7 at hv7 s7; subst hv7; have S7 := Lib.hid s7; have G7 := Lib.hid (G6.out.grown g7 R6.out); have BW7 := Lib.hid (BW6.out.trans b7); clear o7 g7 m7 b7 s7))
            refine (flags_own spJ A7 n7 c7 (ms ++ [⟨#[45, 118]⟩, val, ⟨#[45, 45]⟩] ++ T) os T _ (by decide) S7.out SB.out FB.out).mono ?_
            rintro e w8 ⟨A8, n8, c8, A9, n9, c9, rfl, ⟨hn8, hn9⟩, o8, t8, k8⟩
            have H9 := Lib.hid (got_new (w0 := w7) o8 t8 k8.size)
            have K89 := k8.alloc k8.size (.cells #[.slice A8 n8 c8, .slice A9 n9 c9] 25)
            have G9 := Lib.hid (G7.out.on K89)
            have BW9 := Lib.hid (BW7.out.trans (K89.mono BW7.out.size))
            have HN8 := Lib.hid (And.intro hn8 hn9)
            clear o8 t8 k8 K89 hn8 hn9 HSZ5 G7 BW7 S7 G6 BW6 O6 R6 GX OMX BWX SX MB
            go_upto_region 12 with fail
            generalize w8.alloc (.cells #[.slice A8 n8 c8, .slice A9 n9 c9] 25) = W9 at *
            generalize hb8 : w8.heap.size = b8 at *
            clear hb8
            have hw9 := BW9.out.size
            have KX := (Below.refl W9.heap.size W9).alloc (Nat.le_refl _) (.cells #[.string ov, .string val, .string ⟨#[45, 45]⟩] 9)
            have KC := Lib.hid KX
            have TC := Lib.hid (HT.out.on (BW9.out.trans (KX.mono BW9.out.size)))
            have OC := Lib.hid (own_new W9 #[.string ov, .string val, .string ⟨#[45, 45]⟩] [ov, val, ⟨#[45, 45]⟩] W9.heap.size 3 W9.heap.size rfl rfl rfl (by decide) (Nat.le_refl _))
            clear KX
            go_upto_region 13 with (at_builtin; refine append_texts rfl _ _ rfl W9.heap.size _ [ov, val, ⟨#[45, 45]⟩] rfl OC.out _ m d T rfl TC.out (by simp; omega) (by simp) ?_; intro v10 w10 o10 g10 m10 b10; obtain ⟨A10, c10, hv10, s10⟩ := OwnT.strs o10; generalize ([ov, val, ⟨#[45, 45]⟩] ++ T).length = n10 at hv10 s10; subst hv10; have S10 := Lib.hid s10; have K10 := Lib.hid (KC.out.trans b10); clear o10 g10 m10 b10 s10)
            refine (flags_own spJ A10 n10 c10 ([ov, val, ⟨#[45, 45]⟩] ++ T) os T _ (by decide) S10.out SC.out FC.out).mono ?_
            rintro e w11 ⟨A11, n11, c11, A12, n12, c12, rfl, ⟨hn11, hn12⟩, o11, t11, k11⟩
            have I12 := Lib.hid (got_new (w0 := w10) o11 t11 k11.size)
            have KK := k11.alloc k11.size (.cells #[.slice A11 n11 c11, .slice A12 n12 c12] 25)
            have K912 := K10.out.trans (KK.mono K10.out.size)
            have G12 := Lib.hid (G9.out.on K912)
            have H12 := Lib.hid (H9.out.on K912)
            have BW12 := Lib.hid (BW9.out.trans (K912.mono BW9.out.size))
            have HN11 := Lib.hid (And.intro hn11 hn12)
            clear o11 t11 k11 KK K912 hn11 hn12 G9 H9 BW9 S10 K10 KC TC OC
            go_upto_region 13 with fail
            generalize w11.alloc (.cells #[.slice A11 n11 c11, .slice A12 n12 c12] 25) = W12 at *
            generalize hb11 : w11.heap.size = b11 at *
            clear hb11
            have e4 := HN4.out; have e8 := HN8.out; have e11 := HN11.out
            rw [HOL.out, HT.out.len] at e4 e8 e11
            obtain ⟨rfl, e5⟩ := e4
            obtain rfl := e5.symm
            obtain ⟨rfl, e5⟩ := e8
            obtain rfl := e5.symm
            obtain ⟨rfl, e5⟩ := e11
            obtain rfl := e5.symm
            obtain ⟨x0, x1, _, _⟩ := G12.out.r.two
            obtain ⟨y0, y1, _, _⟩ := H12.out.r.two
            obtain ⟨z0, z1, _, _⟩ := I12.out.r.two
            go_wp2_with fail
            refine (find_some A4 (n + 1) c4 os ⟨#[118]⟩ val _ G12.out.o.as (by omega) HFD.out).mono ?_
            rintro e w13 ⟨rfl, rfl⟩
            go_wp2_with fail
            refine (sameOpts_any A4 (n + 1) c4 os A8 (n + 1) c8 os true _ G12.out.o.as H12.out.o.as (by omega) (by omega) (by simp)).mono ?_
            rintro e q13 ⟨rfl, kk⟩
            have G13 := Lib.hid (G12.out.on kk); have H13 := Lib.hid (H12.out.on kk); have I13 := Lib.hid (I12.out.on kk)
            have BW13 := Lib.hid (BW12.out.trans (kk.mono BW12.out.size))
            clear kk x0 x1 y0 y1 z0 z1 G12 H12 I12 BW12
            obtain ⟨x0, x1, _, _⟩ := G13.out.r.two
            obtain ⟨y0, y1, _, _⟩ := H13.out.r.two
            obtain ⟨z0, z1, _, _⟩ := I13.out.r.two
            go_wp2_with fail
            refine (sameOpts_any A4 (n + 1) c4 os A11 (n + 1) c11 os true _ G13.out.o.as I13.out.o.as (by omega) (by omega) (by simp)).mono ?_
            rintro e q14 ⟨rfl, kk⟩
            have G14 := Lib.hid (G13.out.on kk); have H14 := Lib.hid (H13.out.on kk); have I14 := Lib.hid (I13.out.on kk)
            have BW14 := Lib.hid (BW13.out.trans (kk.mono BW13.out.size))
            clear kk x0 x1 y0 y1 z0 z1 G13 H13 I13 BW13
            obtain ⟨x0, x1, _, _⟩ := G14.out.r.two
            obtain ⟨y0, y1, _, _⟩ := H14.out.r.two
            obtain ⟨z0, z1, _, _⟩ := I14.out.r.two
            go_wp2_with fail
            refine (sameTexts_any A5 m c5 T B m d T true _ G14.out.t.as (HT.out.on BW14.out) (by omega) (by omega) (by simp)).mono ?_
            rintro e q15 ⟨rfl, kk⟩
            have G15 := Lib.hid (G14.out.on kk); have H15 := Lib.hid (H14.out.on kk); have I15 := Lib.hid (I14.out.on kk)
            have BW15 := Lib.hid (BW14.out.trans (kk.mono BW14.out.size))
            clear kk x0 x1 y0 y1 z0 z1 G14 H14 I14 BW14
            obtain ⟨x0, x1, _, _⟩ := G15.out.r.two
            obtain ⟨y0, y1, _, _⟩ := H15.out.r.two
            obtain ⟨z0, z1, _, _⟩ := I15.out.r.two
            go_wp2_with fail
            refine (sameTexts_any A9 m c9 T B m d T true _ H15.out.t.as (HT.out.on BW15.out) (by omega) (by omega) (by simp)).mono ?_
            rintro e q16 ⟨rfl, kk⟩
            have G16 := Lib.hid (G15.out.on kk); have H16 := Lib.hid (H15.out.on kk); have I16 := Lib.hid (I15.out.on kk)
            have BW16 := Lib.hid (BW15.out.trans (kk.mono BW15.out.size))
            clear kk x0 x1 y0 y1 z0 z1 G15 H15 I15 BW15
            obtain ⟨x0, x1, _, _⟩ := G16.out.r.two
            obtain ⟨y0, y1, _, _⟩ := H16.out.r.two
            obtain ⟨z0, z1, _, _⟩ := I16.out.r.two
            go_wp2_with fail
            refine (sameTexts_any A12 m c12 T B m d T true _ I16.out.t.as (HT.out.on BW16.out) (by omega) (by omega) (by simp)).mono ?_
            rintro e q17 ⟨rfl, kk⟩
            have G17 := Lib.hid (G16.out.on kk); have H17 := Lib.hid (H16.out.on kk); have I17 := Lib.hid (I16.out.on kk)
            have BW17 := Lib.hid (BW16.out.trans (kk.mono BW16.out.size))
            clear kk x0 x1 y0 y1 z0 z1 G16 H16 I16 BW16
            obtain ⟨x0, x1, _, _⟩ := G17.out.r.two
            obtain ⟨y0, y1, _, _⟩ := H17.out.r.two
            obtain ⟨z0, z1, _, _⟩ := I17.out.r.two
            have hz := eq_toList (rfl : val = val)
            go_wp2_with fail
            refine (law_runs _).mono ?_
            rintro e w20 ⟨rfl, k20⟩
            go_wp2
            go_ret
            exact ⟨rfl, BW17.out.trans (k20.mono BW17.out.size)⟩

end Go.Proofs.Ytnmekmifdmlogaa
