/- Bytes of constants and of texts; texts that are put together. -/
import Derived.Test.YtghihmmapignmaaFixG
import Derived.Test.YtghihmmapignmaaReadR
import Derived.WalkKit
import Derived.Lib.SlBytesConst
import Derived.Laws.Concat
import Derived.Lib.Bytes
namespace Go.Proofs.Ytghihmmapignmaa
open Go.RowKit

/-- Bytes of a text that was just written out. -/
theorem const_bytes (w : World) (C : Array Value) (cs : List Int) (n : Nat) (ha : C.toList = cs.map (Value.int .u8)) (hn : cs.length = n) (hm : n ≤ maxLen) :
    ∃ W, (convert 24 24 (.slice (some ⟨w.heap.size, 0, none⟩) n n)).run Try.prog (w.alloc (.cells C 5)) = .ok (.slice (some ⟨w.heap.size, 0, none⟩) n n) W ∧ Bytes W (some ⟨w.heap.size, 0, none⟩) n n cs ∧ Below w.heap.size w W := by
  subst hn
  refine ⟨_, Lib.run_convert_bytes_const (P := Try.prog) w 24 5 C cs.length cs.length Try.underlying24 Try.underlying5, ⟨rfl, Nat.le_refl _, hm, fun _ => ⟨_, _, rfl, by simp, fun k hk => ?_⟩⟩, (Below.refl _ _).alloc (Nat.le_refl _) _⟩
  rw [cell_of_row _ _ _ _ 5 (C.size, C.size + 1) (heap_alloc_new w _), Nat.zero_add, ← Array.getElem?_toList, ha, List.getElem?_map, List.getD_eq_getElem?_getD, List.getElem?_eq_getElem hk]
  rfl
/-- What came out stays when an object changes in whose blocks it does not lie; and it lies in none of its new ones. -/
theorem Buf.pass {w w' : World} {A : Option Addr} {n c : Nat} {zs : List Int} {T T' : Nat → Prop} (h : Buf w A n c zs) (hn : ∀ d, At A d → ¬ T d) (o : Only T w w') (g : ∀ d, T' d → T d ∨ w.heap.size ≤ d) : Buf w' A n c zs ∧ ∀ d, At A d → ¬ T' d := by
  refine ⟨h.only o (fun g' o' s he => hn g' ⟨o', s, he⟩), fun d hd ht => ?_⟩
  rcases g d ht with h1 | h1
  · exact hn d hd h1
  · obtain ⟨o', s, he⟩ := hd
    have := h.at d o' s he
    omega
theorem are_of {l : List Int} (h : l.all (fun z => decide (0 ≤ z ∧ z < 256)) = true) : Are l := by
  intro z hz
  have := List.all_eq_true.1 h z hz
  simpa using this
theorem str_append (a b : List Int) : strOfNums a ++ strOfNums b = strOfNums (a ++ b) := by
  apply ByteArray.ext
  simp [strOfNums, ByteArray.data_append]
theorem str_size (a : List Int) : (strOfNums a).size = a.length := by simp [strOfNums, ByteArray.size]
theorem str_add (a b c : List Int) (h : a ++ b = c) (hl : c.length ≤ 1000000) (w : World) : (Op.stringOp .add (strOfNums a) (strOfNums b)).run Try.prog w = .ok (.string (strOfNums c)) w := by
  rw [run_string_add_sum w _ _ (by rw [str_size, str_size]; have : c.length = a.length + b.length := by rw [← h]; simp
                                   omega), str_append, h]
/-- A list that was there lies in none of an object's blocks. -/
theorem El_away {W w : World} {P : World → (Nat → Prop) → Prop} {S : Nat → Prop} (h : Mine W w P S) {x : El} (hx : ElOk W x) : ElOk w x ∧ ∀ g o, x.a = some ⟨g, o, none⟩ → 0 < x.n → ¬ S g := by
  refine ⟨hx.on h.below, fun g o he hn hs => ?_⟩
  have h1 := hx.bytes.at g o he hn
  have := h.new g hs
  omega
/-- All of it, packed: the records, and how many were cut. -/
def pAll (K : Nat) (zs : List Int) : List Int := pOut K [] zs ++ pEnd K (pLine [] zs)
def uAll (K : Nat) (zs : List Int) : List Int := uOut K [] zs ++ uEnd (uRest K [] zs)
theorem str_at (zs : List Int) (h : Are zs) (k : Nat) (hk : k < (strOfNums zs).size) : (((strOfNums zs)[k]'hk).toNat : Int) = zs.getD k 0 := by
  have hl : k < zs.length := by rwa [str_size] at hk
  have hb := h.at k
  rw [List.getD_eq_getElem?_getD, List.getElem?_eq_getElem hl] at hb ⊢
  simp only [Option.getD_some] at hb ⊢
  have he : (strOfNums zs)[k]'hk = UInt8.ofNat (zs[k]).toNat := by
    show (strOfNums zs).data[k] = _
    simp [strOfNums]
  rw [he]
  simp
  omega
/-- Text as bytes. -/
theorem str_bytes (zs : List Int) (h : Are zs) (n : Nat) (hn : zs.length = n) (hm : n ≤ 1000000) (w : World) :
    ∃ A c w', (convert 9 24 (.string (strOfNums zs))).run Try.prog w = .ok (.slice A n c) w' ∧ ElOk w' ⟨A, n, c, zs⟩ ∧ Below w.heap.size w w' := by
  subst hn
  have hr := run_bytes_of_string (P := Try.prog) w 9 24 5 (strOfNums zs) Try.underlying9 Try.underlying24 Try.underlying5
  rw [str_size] at hr
  have hgc := grownCap_ge w zs.length 0 5
  have hgm := grownCap_le_maxLen w zs.length 0 5 (by unfold maxLen; omega)
  refine ⟨_, _, _, hr, ⟨⟨rfl, hgc, hgm, fun _ => ⟨w.heap.size, 0, rfl, by simp, fun k hk => ?_⟩⟩, (fun h => by cases h), h⟩, ((Below.refl _ w).drew).alloc (Nat.le_refl _) _⟩
  have hk : k < zs.length := hk
  have hks : k < (strOfNums zs).size := by rw [str_size]; exact hk
  have hb := heap_alloc_new w.drew (.cells (bytesRow (strOfNums zs) (grownCap w zs.length 0 5)) 5 ((bytesRow (strOfNums zs) (grownCap w zs.length 0 5)).size, (bytesRow (strOfNums zs) (grownCap w zs.length 0 5)).size + 1))
  rw [show w.drew.heap.size = w.heap.size from rfl] at hb
  rw [cell_of_row _ _ _ _ 5 _ hb]
  have hz := str_at zs h k hks
  rw [← hz, Nat.zero_add, bytesRow, Array.getElem?_append_left (by simp [Array.size_map]; exact hks), Array.getElem?_map]
  rw [Array.getElem?_eq_getElem (by exact hks)]
  rfl
theorem text_one (w : World) (z : Int) (g : Nat) (hg : g = w.heap.size) : (convert 24 9 (.slice (some ⟨g, 0, none⟩) 1 1)).run Try.prog (w.alloc (.cells #[.int .u8 z] 5)) = .ok (.string (strOfNums [z])) (w.alloc (.cells #[.int .u8 z] 5)) := by
  subst hg
  exact text_of (one_new w z) (fun h => by cases h)
theorem str_add_lit (a b c : List Int) (B : ByteArray) (hB : strOfNums b = B) (h : a ++ b = c) (hl : c.length ≤ 1000000) (w : World) : (Op.stringOp .add (strOfNums a) B).run Try.prog w = .ok (.string (strOfNums c)) w := by
  subst hB; exact str_add a b c h hl w
theorem IsRow.are {w : World} {a : Option Addr} {len cap : Nat} {zs : List Int} (h : IsRow .u8 w a len cap zs) : Are (zs.take len) := by
  rcases h with ⟨rfl, rfl, rfl, rfl⟩ | ⟨x, rfl, hl, hm, hz, hc, hw⟩
  · exact fun z hz => by simp at hz
  · exact fun z hz => byte_of (hw z (List.mem_of_mem_take hz))

end Go.Proofs.Ytghihmmapignmaa
