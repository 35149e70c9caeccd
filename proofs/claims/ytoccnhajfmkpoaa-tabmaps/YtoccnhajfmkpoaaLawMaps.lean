/- Contract of the law TabMaps. -/
import Derived.Test.YtoccnhajfmkpoaaLawBack
import Derived.Test.YtoccnhajfmkpoaaReadT
import Derived.WalkKit
import Derived.WalkSpells
import Derived.WalkLawsBesides
import Derived.Lib.Hide
import Derived.Deep.RegionHeld3
namespace Go.Proofs.Ytoccnhajfmkpoaa
open Go.RowKit

/-- Bytes, so many, come back; what was there is as it was. -/
def BPost (n : Nat) (l : List Int) (w : World) (e : Ending) (w' : World) : Prop := ∃ A c, e = .returned (.slice A n c) ∧ Bytes w' A n c l ∧ (A = none → n = 0 ∧ c = 0) ∧ Below w.heap.size w w'
theorem bpost_of {n : Nat} {l : List Int} {w : World} (hl : l.length = n) (e : Ending) (w' : World) (h : BytesPost l w e w') : BPost n l w e w' := by subst hl; exact h
theorem map_n (t : List Int) (A : Option Addr) (n c : Nat) (zs m : List Int) (w : World) (ht : Good t) (hb : Bytes w A n c zs) (hz : Are zs) (hm : n ≤ 1000) (he : mapL t zs = m) : Calls Try.prog 10 #[tv t, .slice A n c] w (BPost n m w) := by
  subst he
  exact (map_any t A n c zs w ht hb hz (by omega)).mono (bpost_of (by rw [len_mapL, hb.1]))
theorem rmap_n (t : List Int) (A : Option Addr) (n c : Nat) (zs m : List Int) (w : World) (ht : Good t) (hb : Bytes w A n c zs) (hz : Are zs) (hm : n ≤ 1000) (he : mapL t zs = m) : Calls Try.prog 22 #[tv t, .slice A n c] w (BPost n m w) := by
  subst he
  exact (rmap_any t A n c zs w ht hb hz hm).mono (bpost_of (by rw [len_mapL, hb.1]))

/-- One of several tables is read whole. -/
theorem take_mid {ops : Array Oper} {Q : Exit → Act → World → Prop} {S : World → Prop} (i d : Nat) {oi : Oper} {fuel : Nat} {listed : Array Bool} {a : Act} {w : World} (x : Operand) (b k : Nat) (l : List Int) (hi : ops[i]? = some oi) (hd : oi.dst = some d)
    (hs : Region.noSelect ops = true) (hf : Region.free .any ops listed i = true) (hr : (Region.ready .any ops listed).contains i = true)
    (hQ : ∀ c a w, Q (.panic c) (a.put oi.dst (tv l)) w → Q (.panic c) a w) (hw : Region.wanted oi (yielded ops a.tmps) = true) (hS : S w)
    (ho : oi.op = .load 24 x) (hx : a.eval x = .pointer (some ⟨b, k, none⟩)) (hR : ∀ w, S w → w.rangeAt b k (l.map (Value.int .u8))) (hl : l.length = 256)
    (h : wpAnyH Try.prog .any ops Q S fuel (listed.setIfInBounds i true) (a.put (some d) (tv l)) w) : wpAnyH Try.prog .any ops Q S (fuel + 1) listed a w :=
  take_at i d hi hd hs hf hr hQ hw hS (fun w1 h1 => by simp only [execOp, ho, hx, run_load_mid (hR w1 h1) hl, Sem.run_bind, Sem.run_pure, Result.andThen_ok]) h

def MapS (w : World) (lb p : Nat) (nx : List Int) (X : Option Addr) (n xc : Nat) (xs : List Int) (w' : World) : Prop :=
  w'.rangeAt lb p (nx.map (Value.int .u8)) ∧ Bytes w' X n xc xs ∧ lb < w'.heap.size ∧ Below w.heap.size w w'
theorem MapS.on {w : World} {lb p : Nat} {nx : List Int} {X : Option Addr} {n xc : Nat} {xs : List Int} {w1 w2 : World} (h : MapS w lb p nx X n xc xs w1) (k : Below w1.heap.size w1 w2) : MapS w lb p nx X n xc xs w2 :=
  ⟨range_on h.1 k h.2.2.1, h.2.1.on k, Nat.lt_of_lt_of_le h.2.2.1 k.size, below_next h.2.2.2 k⟩
def EndS (w : World) (LA : Option Addr) (m : Nat) (L : List (List Int)) (A : Option Addr) (n c : Nat) (ys : List Int) (X : Option Addr) (xc : Nat) (xs : List Int) (w' : World) : Prop :=
  Tbs w' LA m L ∧ Bytes w' A n c ys ∧ Bytes w' X n xc xs ∧ Below w.heap.size w w'
theorem EndS.on {w : World} {LA : Option Addr} {m : Nat} {L : List (List Int)} {A : Option Addr} {n c : Nat} {ys : List Int} {X : Option Addr} {xc : Nat} {xs : List Int} {w1 w2 : World} (h : EndS w LA m L A n c ys X xc xs w1) (k : Below w1.heap.size w1 w2) : EndS w LA m L A n c ys X xc xs w2 :=
  ⟨h.1.on k, h.2.1.on k, h.2.2.1.on k, below_next h.2.2.2 k⟩

set_option maxRecDepth 100000 in
set_option maxHeartbeats 4000000 in
theorem maps_great (LA : Option Addr) (m mc : Nat) (A : Option Addr) (n c : Nat) (w : World) (hm : m ≤ maxLen) (hn : n ≤ maxLen) (h : 6 < m ∨ 1000 < n) : Calls Try.prog 5 #[.slice LA m mc, .slice A n c] w fun e w' => e = .returned (.bool true) ∧ Below w.heap.size w w' := by
  have CR := Lib.hid law_runs
  unfold maxLen at hm hn
  by_cases h6 : 6 < m
  · clear h
    go_enter Try.func5, Try.ntmps5
    go_wp2_with fail
    refine (CR.out _).mono ?_
    rintro e w1 ⟨rfl, k1⟩
    have K1 := Lib.hid k1
    clear k1
    go_wp2
    go_ret
    exact ⟨rfl, K1.out⟩
  · have hh : 1000 < n := by omega
    clear h
    go_enter Try.func5, Try.ntmps5
    go_wp2_with fail
    refine (CR.out _).mono ?_
    rintro e w1 ⟨rfl, k1⟩
    have K1 := Lib.hid k1
    clear k1
    go_wp2
    go_ret
    exact ⟨rfl, K1.out⟩

set_option maxRecDepth 100000 in
set_option maxHeartbeats 8000000 in
theorem maps_small (LA : Option Addr) (m mc : Nat) (L : List (List Int)) (A : Option Addr) (n c : Nat) (ys : List Int) (w : World) (hT : Tbs w LA m L) (hB : Bytes w A n c ys) (hA : A = none → n = 0 ∧ c = 0) (hR : Are ys) (h6 : m ≤ 6) (h1000 : n ≤ 1000) : Calls Try.prog 5 #[.slice LA m mc, .slice A n c] w fun e w' => e = .returned (.bool true) ∧ Below w.heap.size w w' := by
  have CR := Lib.hid law_runs
  have HT := Lib.hid hT; have HB := Lib.hid hB; have NA := Lib.hid hA; have AR := Lib.hid hR; have HL := Lib.hid hT.len
  clear hT hB hA hR
  have CT := Lib.hid (show ∀ (LA : Option Addr) (m mc : Nat) (w : World), Tbs w LA m L → m ≤ 1000000 → Calls Try.prog 14 #[.slice LA m mc] w (TabPost (thenL L ids) w) from fun LA m mc w h hm => then_any LA m mc L w h hm)
  have GT := Lib.hid (Good.then HT.out.all good_ids)
  have ET0 := Lib.hid (show mapL (thenL L ids) ys = mapAll L ys by rw [mapL_then HT.out.all good_ids AR.out, map_ids AR.out])
  generalize thenL L ids = T at *
  go_enter Try.func5, Try.ntmps5
  go_wp2_with (at_builtin; refine append_buf rfl _ _ rfl (Buf.nil w) rfl HB.out NA.out rfl (by omega) ?_; intro X0 c0 w0 q1 q2 q3; have Q1 := Lib.hid q1; have Q2 := Lib.hid q2; clear q1 q2 q3)
  have K0 := Lib.hid (Q2.out.below (Nat.le_refl _) (fun d ⟨o, s, h⟩ => by cases h))
  have B0 := Lib.hid Q1.out.bytes
  clear Q1 Q2
  go_loopw [5, 6] (fun x i wr => ∃ (j : Nat) (X : Option Addr) (xc : Nat) (xs : List Int), j ≤ m ∧ i = .int .i64 j ∧ x = .slice X n xc ∧ Hid (xs = mapAll (L.take j) ys) ∧ Hid (Bytes wr X n xc xs) ∧ Hid (X = none → n = 0 ∧ xc = 0) ∧ Hid (Are xs) ∧ Hid (Below w.heap.size w wr)) (fun _ i _ => m - (intOf i).toNat)
  case atStart => exact ⟨0, X0, c0, ys, by omega, rfl, by simp, rfl, Lib.hid (by have := B0.out.1; simpa using this), Lib.hid (by have := B0.out.2; simpa using this), AR, K0⟩
  case round =>
    clear K0 B0
    obtain ⟨j, X, xc, xs, hj, rfl, rfl, EX, BX, NX, AX, K⟩ := hrel
    by_cases hlt : j < m
    · obtain ⟨lb, o, rfl, hbl, hc⟩ := HT.out.cells (by omega)
      have HC := Lib.hid (range_on (hc j hlt) K.out hbl)
      have GN := Lib.hid (HT.out.good j hlt)
      have ES := Lib.hid (mapAll_take L j (by rw [HL.out]; exact hlt) ys)
      clear hc
      generalize L.getD j [] = nx at HC GN ES
      have LN := Lib.hid GN.out.1
      obtain ⟨ms, hms⟩ : ∃ ms, mapL nx xs = ms := ⟨_, rfl⟩
      have AM := Lib.hid (show Are ms by rw [← hms]; exact mapL_are GN.out AX.out)
      have EM := Lib.hid hms
      clear hms
      have hbr : lb < wr.heap.size := Nat.lt_of_lt_of_le hbl K.out.size
      have i0 : (0 : Int) ≤ (j : Int) := by omega
      have i1 : (j : Int) < (m : Int) := by omega
      go_wp2_with fail
      have hS : MapS w lb (o + j * 256) nx X n xc xs wr.drew := MapS.on ⟨HC.out, BX.out, hbr, K.out⟩ (Below.refl _ _).drew
      refine wp_region_held_drew (S := fun w' => MapS w lb (o + j * 256) nx X n xc xs w') (by kernel_rfl) hS (fun hHeld => ?_)
      clear hS HC BX K
      show wpAnyH _ _ _ _ _ 15 _ _ _
      refine take_at 0 24 (v := ?vm0) (fuel := 14) rfl rfl (by kernel_rfl) (by kernel_rfl) (by kernel_rfl) (fun _ _ _ h => h) (by rfl) hHeld ?hym0 ?restm0
      case hym0 => (intro w' hSw; (try dsimp only at hSw); go_simp <;> with_reducible rfl)
      simp only [Act.put, List.setIfInBounds_toArray, List.set_cons_zero, List.set_cons_succ]
      refine take_at 1 25 (v := ?vm1) (fuel := 13) rfl rfl (by kernel_rfl) (by kernel_rfl) (by kernel_rfl) (fun _ _ _ h => h) (by rfl) hHeld ?hym1 ?restm1
      case hym1 => (intro w' hSw; (try dsimp only at hSw); go_simp <;> with_reducible rfl)
      simp only [Act.put, List.setIfInBounds_toArray, List.set_cons_zero, List.set_cons_succ]
      refine take_at 2 26 (v := ?vm2) (fuel := 12) rfl rfl (by kernel_rfl) (by kernel_rfl) (by kernel_rfl) (fun _ _ _ h => h) (by rfl) hHeld ?hym2 ?restm2
      case hym2 => (intro w' hSw; (try dsimp only at hSw); go_simp <;> with_reducible rfl)
      simp only [Act.put, List.setIfInBounds_toArray, List.set_cons_zero, List.set_cons_succ]
      refine take_mid 3 27 (fuel := 11) _ lb (o + j * 256) nx rfl rfl (by kernel_rfl) (by kernel_rfl) (by kernel_rfl) (fun _ _ _ h => h) (by rfl) hHeld rfl rfl (fun _ h => h.1) LN.out ?_
      simp only [Act.put, List.setIfInBounds_toArray, List.set_cons_zero, List.set_cons_succ]
      refine take_at 4 28 (v := ?vm4) (fuel := 10) rfl rfl (by kernel_rfl) (by kernel_rfl) (by kernel_rfl) (fun _ _ _ h => h) (by rfl) hHeld ?hym4 ?restm4
      case hym4 => (intro w' hSw; (try dsimp only at hSw); go_simp <;> with_reducible rfl)
      simp only [Act.put, List.setIfInBounds_toArray, List.set_cons_zero, List.set_cons_succ]
      refine take_at 7 31 (v := ?vm7) (fuel := 9) rfl rfl (by kernel_rfl) (by kernel_rfl) (by kernel_rfl) (fun _ _ _ h => h) (by rfl) hHeld ?hym7 ?restm7
      case hym7 => (intro w' hSw; (try dsimp only at hSw); go_simp <;> with_reducible rfl)
      simp only [Act.put, List.setIfInBounds_toArray, List.set_cons_zero, List.set_cons_succ]
      refine take_at 8 32 (v := ?vm8) (fuel := 8) rfl rfl (by kernel_rfl) (by kernel_rfl) (by kernel_rfl) (fun _ _ _ h => h) (by rfl) hHeld ?hym8 ?restm8
      case hym8 => (intro w' hSw; (try dsimp only at hSw); go_simp <;> with_reducible rfl)
      simp only [Act.put, List.setIfInBounds_toArray, List.set_cons_zero, List.set_cons_succ]
      refine take_at 9 33 (v := ?vm9) (fuel := 7) rfl rfl (by kernel_rfl) (by kernel_rfl) (by kernel_rfl) (fun _ _ _ h => h) (by rfl) hHeld ?hym9 ?restm9
      case hym9 => (intro w' hSw; (try dsimp only at hSw); go_simp <;> with_reducible rfl)
      simp only [Act.put, List.setIfInBounds_toArray, List.set_cons_zero, List.set_cons_succ]
      refine take_mid 10 34 (fuel := 6) _ lb (o + j * 256) nx rfl rfl (by kernel_rfl) (by kernel_rfl) (by kernel_rfl) (fun _ _ _ h => h) (by rfl) hHeld rfl rfl (fun _ h => h.1) LN.out ?_
      simp only [Act.put, List.setIfInBounds_toArray, List.set_cons_zero, List.set_cons_succ]
      refine take_at 11 35 (v := ?vm11) (fuel := 5) rfl rfl (by kernel_rfl) (by kernel_rfl) (by kernel_rfl) (fun _ _ _ h => h) (by rfl) hHeld ?hym11 ?restm11
      case hym11 => (intro w' hSw; (try dsimp only at hSw); go_simp <;> with_reducible rfl)
      simp only [Act.put, List.setIfInBounds_toArray, List.set_cons_zero, List.set_cons_succ]
      refine wpAnyH_ready (rs := [5]) (fuel := 4) (by kernel_rfl) (by simp) ?_
      refine AllReadyH.cons rfl (fun K hK => ?_) AllReadyH.nil
      go_simp
      refine (map_n nx X n xc xs ms _ GN.out hHeld.2.1 AX.out (by omega) EM.out).mono ?_
      rintro e w5 ⟨A1, c1, rfl, q1, n1, k1⟩
      have N1 := Lib.hid n1; clear n1
      go_simp
      refine hK.out _ _ (MapS.on hHeld k1) (fun hH1 => ?_)
      refine wpAnyH_more (S' := fun w' => MapS w lb (o + j * 256) nx X n xc xs w' ∧ Bytes w' A1 n c1 ms) (fun _ h => h.1) _ _ _ _ ?_
      have hH2 := (show MapS w lb (o + j * 256) nx X n xc xs w5 ∧ Bytes w5 A1 n c1 ms from ⟨hH1, q1⟩)
      clear hK K hHeld hH1 q1 k1
      (try simp only [Act.put, List.setIfInBounds_toArray, List.set_cons_zero, List.set_cons_succ])
      refine take_text 6 30 (fuel := 3) _ A1 n c1 ms rfl rfl (by kernel_rfl) (by kernel_rfl) (by kernel_rfl) (fun _ _ _ h => h) (by rfl) hH2 rfl rfl (fun _ h => h.2) N1.out ?_
      simp only [Act.put, List.setIfInBounds_toArray, List.set_cons_zero, List.set_cons_succ]
      refine wpAnyH_ready (rs := [12]) (fuel := 2) (by kernel_rfl) (by simp) ?_
      refine AllReadyH.cons rfl (fun K hK => ?_) AllReadyH.nil
      go_simp
      refine (rmap_n nx X n xc xs ms _ GN.out hH2.1.2.1 AX.out (by omega) EM.out).mono ?_
      rintro e w6 ⟨A2, c2, rfl, q1, n1, k1⟩
      have N2 := Lib.hid n1; clear n1
      go_simp
      refine hK.out _ _ ⟨MapS.on hH2.1 k1, hH2.2.on k1⟩ (fun hH3 => ?_)
      refine wpAnyH_more (S' := fun w' => (MapS w lb (o + j * 256) nx X n xc xs w' ∧ Bytes w' A1 n c1 ms) ∧ Bytes w' A2 n c2 ms) (fun _ h => h.1) _ _ _ _ ?_
      have hH4 := (show (MapS w lb (o + j * 256) nx X n xc xs w6 ∧ Bytes w6 A1 n c1 ms) ∧ Bytes w6 A2 n c2 ms from ⟨hH3, q1⟩)
      clear hK K hH2 hH3 q1 k1
      (try simp only [Act.put, List.setIfInBounds_toArray, List.set_cons_zero, List.set_cons_succ])
      refine take_text 13 37 (fuel := 1) _ A2 n c2 ms rfl rfl (by kernel_rfl) (by kernel_rfl) (by kernel_rfl) (fun _ _ _ h => h) (by rfl) hH4 rfl rfl (fun _ h => h.2) N2.out ?_
      simp only [Act.put, List.setIfInBounds_toArray, List.set_cons_zero, List.set_cons_succ]
      refine take_at 14 38 (v := ?vm14) (fuel := 0) rfl rfl (by kernel_rfl) (by kernel_rfl) (by kernel_rfl) (fun _ _ _ h => h) (by rfl) hH4 ?hym14 ?restm14
      case hym14 => (intro w' hSw; (try dsimp only at hSw); go_simp <;> with_reducible rfl)
      simp only [Act.put, List.setIfInBounds_toArray, List.set_cons_zero, List.set_cons_succ]
      refine wpAnyH_done (by kernel_rfl) ?_ _
      have HH := Lib.hid hH4.1.1
      clear hH4
      go_wp2_with (refine st_loadm rfl _ rfl lb (o + j * 256) rfl nx HH.out.1 LN.out ?_)
      refine (rmap_n nx X n xc xs ms _ GN.out HH.out.2.1 AX.out (by omega) EM.out).mono ?_
      rintro e w9 ⟨A3, c3, rfl, q1, n1, k1⟩
      have B3 := Lib.hid q1; have N3 := Lib.hid n1; have K3 := Lib.hid (below_next HH.out.2.2.2 k1)
      clear q1 n1 k1 HH
      go_wp2
      go_roundw
      case rel => exact ⟨j + 1, A3, c3, ms, by omega, by go_num, rfl, by unfold Hid; rw [ES.out, ← EX.out, EM.out], B3, N3, AM, K3⟩
      case measure => simp [intOf]; omega
    · have ET := Lib.hid (show mapL T ys = xs by rw [ET0.out, EX.out, List.take_of_length_le (by rw [HL.out]; omega)])
      clear ET0 EX
      go_wp2_with fail
      have hS : EndS w LA m L A n c ys X xc xs wr.drew := EndS.on ⟨HT.out.on K.out, HB.out.on K.out, BX.out, K.out⟩ (Below.refl _ _).drew
      refine wp_region_held_drew (S := fun w' => EndS w LA m L A n c ys X xc xs w') (by kernel_rfl) hS (fun hHeld => ?_)
      clear hS BX K
      show wpAnyH _ _ _ _ _ 12 _ _ _
      refine take_at 0 45 (v := ?ve0) (fuel := 11) rfl rfl (by kernel_rfl) (by kernel_rfl) (by kernel_rfl) (fun _ _ _ h => h) (by rfl) hHeld ?hye0 ?reste0
      case hye0 => (intro w' hSw; (try dsimp only at hSw); go_simp <;> with_reducible rfl)
      simp only [Act.put, List.setIfInBounds_toArray, List.set_cons_zero, List.set_cons_succ]
      refine take_at 2 47 (v := ?ve2) (fuel := 10) rfl rfl (by kernel_rfl) (by kernel_rfl) (by kernel_rfl) (fun _ _ _ h => h) (by rfl) hHeld ?hye2 ?reste2
      case hye2 => (intro w' hSw; (try dsimp only at hSw); go_simp <;> with_reducible rfl)
      simp only [Act.put, List.setIfInBounds_toArray, List.set_cons_zero, List.set_cons_succ]
      refine take_at 5 50 (v := ?ve5) (fuel := 9) rfl rfl (by kernel_rfl) (by kernel_rfl) (by kernel_rfl) (fun _ _ _ h => h) (by rfl) hHeld ?hye5 ?reste5
      case hye5 => (intro w' hSw; (try dsimp only at hSw); go_simp <;> with_reducible rfl)
      simp only [Act.put, List.setIfInBounds_toArray, List.set_cons_zero, List.set_cons_succ]
      refine take_text 6 51 (fuel := 8) _ X n xc xs rfl rfl (by kernel_rfl) (by kernel_rfl) (by kernel_rfl) (fun _ _ _ h => h) (by rfl) hHeld rfl rfl (fun _ h => h.2.2.1) NX.out ?_
      simp only [Act.put, List.setIfInBounds_toArray, List.set_cons_zero, List.set_cons_succ]
      refine wpAnyH_ready (rs := [1]) (fuel := 7) (by kernel_rfl) (by simp) ?_
      refine AllReadyH.cons rfl (fun K hK => ?_) AllReadyH.nil
      go_simp
      refine (CT.out LA m mc _ hHeld.1 (by omega)).mono ?_
      rintro e w7 ⟨rfl, k1⟩
      go_simp
      refine hK.out _ _ (EndS.on hHeld k1) (fun hH1 => ?_)
      clear hK K hHeld k1
      (try simp only [Act.put, List.setIfInBounds_toArray, List.set_cons_zero, List.set_cons_succ])
      refine wpAnyH_ready (rs := [3]) (fuel := 6) (by kernel_rfl) (by simp) ?_
      refine AllReadyH.cons rfl (fun K hK => ?_) AllReadyH.nil
      go_simp
      refine (map_n T A n c ys xs _ GT.out hH1.2.1 AR.out (by omega) ET.out).mono ?_
      rintro e w8 ⟨A1, c1, rfl, q1, n1, k1⟩
      have N1 := Lib.hid n1; clear n1
      go_simp
      refine hK.out _ _ (EndS.on hH1 k1) (fun hH2 => ?_)
      refine wpAnyH_more (S' := fun w' => EndS w LA m L A n c ys X xc xs w' ∧ Bytes w' A1 n c1 xs) (fun _ h => h.1) _ _ _ _ ?_
      have hH3 := (show EndS w LA m L A n c ys X xc xs w8 ∧ Bytes w8 A1 n c1 xs from ⟨hH2, q1⟩)
      clear hK K hH1 hH2 q1 k1
      (try simp only [Act.put, List.setIfInBounds_toArray, List.set_cons_zero, List.set_cons_succ])
      refine take_text 4 49 (fuel := 5) _ A1 n c1 xs rfl rfl (by kernel_rfl) (by kernel_rfl) (by kernel_rfl) (fun _ _ _ h => h) (by rfl) hH3 rfl rfl (fun _ h => h.2) N1.out ?_
      simp only [Act.put, List.setIfInBounds_toArray, List.set_cons_zero, List.set_cons_succ]
      refine take_at 7 52 (v := ?ve7) (fuel := 4) rfl rfl (by kernel_rfl) (by kernel_rfl) (by kernel_rfl) (fun _ _ _ h => h) (by rfl) hH3 ?hye7 ?reste7
      case hye7 => (intro w' hSw; (try dsimp only at hSw); go_simp <;> with_reducible rfl)
      simp only [Act.put, List.setIfInBounds_toArray, List.set_cons_zero, List.set_cons_succ]
      refine take_at 8 53 (v := ?ve8) (fuel := 3) rfl rfl (by kernel_rfl) (by kernel_rfl) (by kernel_rfl) (fun _ _ _ h => h) (by rfl) hH3 ?hye8 ?reste8
      case hye8 => (intro w' hSw; (try dsimp only at hSw); go_simp <;> with_reducible rfl)
      simp only [Act.put, List.setIfInBounds_toArray, List.set_cons_zero, List.set_cons_succ]
      refine wpAnyH_ready (rs := [9]) (fuel := 2) (by kernel_rfl) (by simp) ?_
      refine AllReadyH.cons rfl (fun K hK => ?_) AllReadyH.nil
      go_simp
      refine (CR.out _).mono ?_
      rintro e w9 ⟨rfl, k1⟩
      go_simp
      refine hK.out _ _ ⟨EndS.on hH3.1 k1, hH3.2.on k1⟩ (fun hH5 => ?_)
      clear hK K hH3 k1
      (try simp only [Act.put, List.setIfInBounds_toArray, List.set_cons_zero, List.set_cons_succ])
      refine take_at 10 55 (v := ?ve10) (fuel := 1) rfl rfl (by kernel_rfl) (by kernel_rfl) (by kernel_rfl) (fun _ _ _ h => h) (by rfl) hH5 ?hye10 ?reste10
      case hye10 => (intro w' hSw; (try dsimp only at hSw); go_simp <;> with_reducible rfl)
      simp only [Act.put, List.setIfInBounds_toArray, List.set_cons_zero, List.set_cons_succ]
      refine take_at 11 4 (v := ?ve11) (fuel := 0) rfl rfl (by kernel_rfl) (by kernel_rfl) (by kernel_rfl) (fun _ _ _ h => h) (by rfl) hH5 ?hye11 ?reste11
      case hye11 => (intro w' hSw; (try dsimp only at hSw); go_simp <;> with_reducible rfl)
      simp only [Act.put, List.setIfInBounds_toArray, List.set_cons_zero, List.set_cons_succ]
      refine wpAnyH_done (by kernel_rfl) ?_ _
      have KF := Lib.hid hH5.1.2.2.2
      clear hH5
      go_wp2
      go_ret
      exact ⟨rfl, KF.out⟩

theorem law_maps (LA : Option Addr) (m mc : Nat) (L : List (List Int)) (A : Option Addr) (n c : Nat) (zs : List Int) (w : World) (h1 : IsTabs w LA m L) (h2 : IsRow .u8 w A n c zs) : Calls Try.prog 5 #[.slice LA m mc, .slice A n c] w fun e w' => e = .returned (.bool true) ∧ Below w.heap.size w w' := by
  have hb := h2.bytes
  by_cases h : 6 < m ∨ 1000 < n
  · exact maps_great LA m mc A n c w h1.1 (Nat.le_trans hb.1.2.1 hb.1.2.2.1) h
  · exact maps_small LA m mc L A n c _ w h1.2 hb.1 hb.2 h2.are (by omega) (by omega)

end Go.Proofs.Ytoccnhajfmkpoaa
