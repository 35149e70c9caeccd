/- Contracts of Put, of the reference's Put, and of slices.Clone. -/
import Derived.Test.YtbmcaldeiddgeaaWalksA
import Derived.WalkKit
import Derived.WalkSpells
import Derived.WalkLawsBesides
import Derived.Lib.Hide
import Derived.Lib.SliceRun
namespace Go.Proofs.Ytbmcaldeiddgeaa
open Go.RowKit

theorem put_step {w w1 : World} {b : Nat} {S : Nat → Prop} {k : Int} {zs ys : List Int} {A A' : Option Addr} {n c m c' : Nat} (h : Fi w b S k zs) (c1 : w.cell? ⟨b, 1, none⟩ = some (.slice A n c)) (hA : ∀ g o s, A = some ⟨g, o, s⟩ → S g ∧ g ≠ b)
    (q1 : Buf w1 A' m c' ys) (q2 : Only (fun d => ∃ o s, A = some ⟨d, o, s⟩) w w1) (q3 : A' = A ∨ A' = some ⟨w.heap.size, 0, none⟩) :
    w1.cell? ⟨b, 1, none⟩ = some (.slice A n c) ∧ w1.frozen? ⟨b, 1, none⟩ = false ∧
      ∃ S', Fi (w1.setCell ⟨b, 1, none⟩ (.slice A' m c')) b S' k ys ∧ Only S w (w1.setCell ⟨b, 1, none⟩ (.slice A' m c')) ∧ ∀ d, S' d → S d ∨ w.heap.size ≤ d := by
  have hb := h.lt b h.mine
  have hn : ¬ ∃ o s, A = some ⟨b, o, s⟩ := fun ⟨o, s, he⟩ => (hA b o s he).2 rfl
  have d1 := (q2.cell (p := ⟨b, 1, none⟩) hb hn).trans c1
  have d0 := (q2.cell (p := ⟨b, 0, none⟩) hb hn).trans h.size
  have df := (q2.frozen (p := ⟨b, 1, none⟩) hb hn).trans h.free
  refine ⟨d1, df, fun d => S d ∨ ∃ o s, A' = some ⟨d, o, s⟩, Fi.stored (.inl h.mine) ?_ d0 d1 df q1 ?_, ?_, ?_⟩
  · rintro d (hd | ⟨o, s, he⟩)
    · exact Nat.lt_of_lt_of_le (h.lt d hd) q2.size
    · obtain ⟨_, _, _, ⟨h4, _⟩ | ⟨g', o', he', hl, _⟩⟩ := q1
      · rw [h4] at he; cases he
      · rw [he'] at he; injection he with he; injection he with he; omega
  · intro g o s he
    refine ⟨.inr ⟨o, s, he⟩, ?_⟩
    rcases q3 with rfl | rfl
    · exact (hA g o s he).2
    · injection he with he; injection he with he; omega
  · exact (q2.mono (fun d ⟨o, s, he⟩ => (hA d o s he).1)).setCell ⟨b, 1, none⟩ (fun _ => h.mine) _
  · rintro d (hd | ⟨o, s, he⟩)
    · exact .inl hd
    · rcases q3 with rfl | rfl
      · exact .inl (hA d o s he).1
      · right; injection he with he; injection he with he; omega

def PutPost (b : Nat) (S : Nat → Prop) (k : Int) (zs : List Int) (w : World) (e : Ending) (w' : World) : Prop :=
  ∃ v S', e = .returned v ∧ Fi w' b S' k zs ∧ Only S w w' ∧ ∀ d, S' d → S d ∨ w.heap.size ≤ d

set_option maxHeartbeats 400000 in
theorem rput_any (b : Nat) (S : Nat → Prop) (k : Int) (zs : List Int) (A2 : Option Addr) (n2 c2 : Nat) (ys : List Int) (w : World) (h : Fi w b S k zs) (h2 : Bytes w A2 n2 c2 ys) (hA2 : A2 = none → n2 = 0 ∧ c2 = 0) (hl : zs.length + n2 ≤ 1000000) :
    Calls Try.prog 14 #[.pointer (some ⟨b, 0, none⟩), .slice A2 n2 c2] w (PutPost b S k (zs ++ ys) w) := by
  obtain ⟨A, n, c, c1, hb, hA⟩ := h.held
  have HB := Lib.hid hb; have HA := Lib.hid hA; have H2 := Lib.hid h2; have HA2 := Lib.hid hA2
  have hn : n + n2 ≤ 1000000 := by have := hb.1; omega
  clear hb hA h2 hA2 hl
  have H := Lib.hid h
  clear h
  go_enter Try.func14, Try.ntmps14
  go_wp2_with (at_builtin; refine append_buf rfl _ _ rfl HB.out rfl H2.out HA2.out rfl hn ?_; intro A' c' w1 q1 q2 q3; obtain ⟨d1, df, S', X, Y, Z⟩ := put_step H.out c1 HA.out q1 q2 q3; clear q1 q2 q3)
  go_end0
  exact ⟨_, S', rfl, X, Y, Z⟩

/-- A slice of lists of bytes, none of which lies in the blocks S. -/
structure ListsF (w : World) (S : Nat → Prop) (A : Option Addr) (m : Nat) (L : List El) : Prop where
  len : L.length = m
  cells : 0 < m → ∃ b o, A = some ⟨b, o, none⟩ ∧ b < w.heap.size ∧ ¬ S b ∧ ∀ k, k < m → w.cell? ⟨b, o + k, none⟩ = some (.slice (L.getD k default).a (L.getD k default).n (L.getD k default).c)
  bytes : ∀ k, k < m → Bytes w (L.getD k default).a (L.getD k default).n (L.getD k default).c (L.getD k default).zs
  nil : ∀ k, k < m → (L.getD k default).a = none → (L.getD k default).n = 0 ∧ (L.getD k default).c = 0
  free : ∀ k, k < m → ∀ g o, (L.getD k default).a = some ⟨g, o, none⟩ → 0 < (L.getD k default).n → ¬ S g

def cat (L : List El) : List Int := L.flatMap fun x => x.zs
theorem cat_snoc (L : List El) (k : Nat) (h : k < L.length) : cat (L.take (k + 1)) = cat (L.take k) ++ (L.getD k default).zs := by
  rw [List.take_add_one, cat, List.flatMap_append, List.getElem?_eq_getElem h, List.getD_eq_getElem?_getD, List.getElem?_eq_getElem h]
  simp [cat]
theorem cat_le (L : List El) (k : Nat) (h : k < L.length) : (cat (L.take k)).length + (L.getD k default).zs.length ≤ (cat L).length := by
  have h1 := cat_snoc L k h
  have h2 : cat L = cat (L.take (k + 1)) ++ cat (L.drop (k + 1)) := by rw [cat, cat, cat, ← List.flatMap_append, List.take_append_drop]
  rw [h2, h1]
  simp

set_option maxHeartbeats 800000 in
theorem put_any (b : Nat) (S : Nat → Prop) (k : Int) (zs : List Int) (A2 : Option Addr) (m c2 : Nat) (L : List El) (w : World) (h : Fi w b S k zs) (h2 : ListsF w S A2 m L) (hm : m ≤ 9223372036854775807) (hl : zs.length + (cat L).length ≤ 1000000) :
    Calls Try.prog 8 #[.pointer (some ⟨b, 0, none⟩), .slice A2 m c2] w (PutPost b S k (zs ++ cat L) w) := by
  have H := Lib.hid h; have H2 := Lib.hid h2
  clear h h2
  go_enter Try.func8, Try.ntmps8
  go_wp2
  go_loopw [8] (fun i wr => ∃ (j : Nat) (S' : Nat → Prop), j ≤ m ∧ i = .int .i64 j ∧ Hid (Fi wr b S' k (zs ++ cat (L.take j))) ∧ Hid (Only S w wr) ∧ Hid (∀ d, S' d → S d ∨ w.heap.size ≤ d)) (fun i _ => m - (intOf i).toNat)
  case atStart => exact ⟨0, S, Nat.zero_le _, rfl, by simpa [cat, Hid] using H.out, Only.refl _ _, fun d hd => .inl hd⟩
  case round =>
    obtain ⟨j, S', hj, rfl, HF, HO, HS⟩ := hrel
    by_cases hlt : j < m
    · obtain ⟨g, o, rfl, hg, hgS, hc⟩ := H2.out.cells (by omega)
      have c0 := (HO.out.cell (p := ⟨g, o + j, none⟩) hg hgS).trans (hc j hlt)
      have hjl : j < L.length := by have := H2.out.len; omega
      have hcl := cat_le L j hjl
      have HB := Lib.hid ((H2.out.bytes j hlt).only HO.out (H2.out.free j hlt))
      have HN := Lib.hid (H2.out.nil j hlt)
      have HC := Lib.hid (cat_snoc L j hjl)
      generalize L.getD j default = x at *
      obtain ⟨xa, xn, xc, xz⟩ := x
      simp only at c0 HB HN HC hcl
      obtain ⟨A, n, c, c1, hb, hA⟩ := HF.out.held
      have HB1 := Lib.hid hb; have HA := Lib.hid hA
      have hn : n + xn ≤ 1000000 := by
        have e1 := hb.1
        have e2 := HB.out.1
        rw [List.length_append] at e1
        omega
      clear hb hA hc hcl hg hgS
      go_wp2_with (at_builtin; refine append_buf rfl _ _ rfl HB1.out rfl HB.out HN.out rfl hn ?_; intro A' c' w1 q1 q2 q3; obtain ⟨d1, df, S2, X, Y, Z⟩ := put_step HF.out c1 HA.out q1 q2 q3; have X := Lib.hid X; have Y := Lib.hid Y; have Z := Lib.hid Z; clear q1 q2 q3)
      go_roundw
      case rel =>
        refine ⟨j + 1, S2, by omega, by go_num, ?_, ?_, ?_⟩
        · unfold Hid; rw [HC.out, ← List.append_assoc]; exact X.out
        · exact HO.out.trans Y.out (fun d hd hlt' => (HS.out d hd).elim id (fun h => by omega))
        · intro d hd
          rcases Z.out d hd with h1 | h1
          · exact HS.out d h1
          · right; have := HO.out.size; omega
      case measure => simp [intOf]; omega
    · have hjm : j = m := by omega
      have HL := Lib.hid (show L.take j = L by rw [hjm, ← H2.out.len]; exact List.take_length)
      go_wp2
      go_end0
      exact ⟨_, S', rfl, by have := HF.out; rwa [HL.out] at this, HO.out, HS.out⟩

theorem buf_empty {w : World} {g : Nat} (hg : g < w.heap.size) : Buf w (some ⟨g, 0, none⟩) 0 0 [] :=
  ⟨rfl, Nat.le_refl _, Nat.zero_le _, .inr ⟨g, 0, rfl, hg, fun k h => absurd h (by omega), fun k h => absurd h (by omega), fun k h => absurd h (by omega)⟩⟩

def ClonePost (zs : List Int) (w : World) (e : Ending) (w' : World) : Prop :=
  ∃ A c, e = .returned (.slice A zs.length c) ∧ Buf w' A zs.length c zs ∧ (∀ g o s, A = some ⟨g, o, s⟩ → w.heap.size ≤ g) ∧ Below w.heap.size w w'

set_option maxHeartbeats 400000 in
theorem clone_any (g o n c : Nat) (zs : List Int) (w : World) (h : Bytes w (some ⟨g, o, none⟩) n c zs) (hn : n ≤ 1000000) : Calls Try.prog 17 #[.slice (some ⟨g, o, none⟩) n c] w (ClonePost zs w) := by
  have H := Lib.hid h
  have hz := Lib.hid h.1
  clear h
  have hn0 : 0 + n ≤ 1000000 := by omega
  have HE := Lib.hid (H.out.on ((Below.refl w.heap.size w).alloc (Nat.le_refl _) (.cells #[] 5)))
  have hnil : ∀ w' : World, (binOp .eql 25 (.slice (some ⟨g, o, none⟩) n c) (.slice none 0 0)).run Try.prog w' = .ok (.bool false) w' := fun w' => Lib.run_eql_slice_nil w' 25 5 (some ⟨g, o, none⟩) n c 0 0 Try.underlying25
  go_enter Try.func17, Try.ntmps17
  go_wp2_with (at_builtin; refine append_buf rfl _ _ rfl (buf_empty (g := w.heap.size) (by simp)) rfl HE.out (fun h => by cases h) rfl hn0 ?_; intro A' c' w1 q1 q2 q3; have Q1 := Lib.hid q1; have Q2 := Lib.hid q2; have Q3 := Lib.hid q3; clear q1 q2 q3)
  go_ret
  refine ⟨A', c', ?_, ?_, ?_, ?_⟩
  · rw [hz.out, ← Nat.zero_add n]; rfl
  · have := Q1.out; rw [hz.out]; simpa using this
  · intro g o s he
    rcases Q3.out with rfl | rfl
    · injection he with he; injection he with he; omega
    · injection he with he; injection he with he; simp at he; omega
  · exact ((Below.refl w.heap.size w).alloc (Nat.le_refl _) _).trans (Q2.out.below (by simp) (fun d ⟨o, s, he⟩ => by injection he with he; injection he with he; omega))

end Go.Proofs.Ytbmcaldeiddgeaa
