/- Contract of the law FifoRuns itself, which the other laws call. -/
import Derived.Test.YtbmcaldeiddgeaaWalksC
import Derived.Test.YtbmcaldeiddgeaaWalksE
import Derived.WalkKit
import Derived.WalkSpells
import Derived.WalkLawsBesides
import Derived.Lib.Hide
namespace Go.Proofs.Ytbmcaldeiddgeaa
open Go.RowKit

/-- Bytes that were just written out. -/
theorem bytes_new (w : World) (arr : Array Value) (cs : List Int) (t : TypeId) (s n : Nat) (hs : s = w.heap.size) (ha : arr.toList = cs.map (Value.int .u8)) (hn : cs.length = n) (hm : n ≤ maxLen) :
    Bytes (w.alloc (.cells arr t)) (some ⟨s, 0, none⟩) n n cs := by
  subst hs hn
  refine ⟨rfl, Nat.le_refl _, hm, fun _ => ⟨_, _, rfl, by simp, fun k hk => ?_⟩⟩
  have hb := World.news_of_block (w := w.alloc (.cells arr t)) (heap_alloc_new w (.cells arr t)) k (.int .u8 (cs.getD k 0)) (by rw [ha, List.getElem?_map, List.getD_eq_getElem?_getD, List.getElem?_eq_getElem hk]; rfl)
  by_cases h0 : k = 0
  · subst h0; simpa [Addr.add] using hb
  · simpa [Addr.add, h0] using hb

/-- Nothing of the list lies in S. -/
def Away (S : Nat → Prop) (x : El) : Prop := ∀ g o, x.a = some ⟨g, o, none⟩ → 0 < x.n → ¬ S g

/-- Lists just written out side by side. -/
theorem lists_new (w : World) (S : Nat → Prop) (L : List El) (arr : Array Value) (t : TypeId) (s m : Nat) (hs : s = w.heap.size) (hm : L.length = m) (ha : arr.toList = L.map fun x => .slice x.a x.n x.c) (hL : ∀ x ∈ L, ElOk w x ∧ Away S x) (hS : ∀ d, S d → d < w.heap.size) :
    ListsF (w.alloc (.cells arr t)) S (some ⟨s, 0, none⟩) m L := by
  subst hs hm
  have hk : Below w.heap.size w (w.alloc (.cells arr t)) := (Below.refl _ _).alloc (Nat.le_refl _) _
  have hg : ∀ k, k < L.length → L.getD k default ∈ L := fun k hk => by rw [List.getD_eq_getElem?_getD, List.getElem?_eq_getElem hk]; exact List.getElem_mem hk
  refine ⟨rfl, fun _ => ⟨_, _, rfl, by simp, fun hs => absurd (hS _ hs) (by omega), fun k hk => ?_⟩, fun k hk' => ((hL _ (hg k hk')).1.on hk).bytes, fun k hk' => (hL _ (hg k hk')).1.nil, fun k hk' => (hL _ (hg k hk')).2⟩
  have hb := World.news_of_block (w := w.alloc (.cells arr t)) (heap_alloc_new w (.cells arr t)) k (.slice (L.getD k default).a (L.getD k default).n (L.getD k default).c) (by rw [ha, List.getElem?_map, List.getD_eq_getElem?_getD, List.getElem?_eq_getElem hk]; rfl)
  by_cases h0 : k = 0
  · subst h0; simpa [Addr.add] using hb
  · simpa [Addr.add, h0] using hb

theorem take_yes_at (b : Nat) (S : Nat → Prop) (k : Nat) (zs ts ds : List Int) (w : World) (h : Fi w b S k zs) (ht : zs.take k = ts) (hd : zs.drop k = ds) (hk : k ≤ zs.length) (h1 : 1 ≤ k) (hm : k ≤ 4096) :
    Calls Try.prog 9 #[.pointer (some ⟨b, 0, none⟩)] w fun e w' => ∃ A c S', e = .returned (.tuple #[.slice A k c, .bool true]) ∧ Buf w' A k c ts ∧ (∀ g o s, A = some ⟨g, o, s⟩ → w.heap.size ≤ g ∧ ¬ S' g) ∧
      Fi w' b S' k ds ∧ Only S w w' ∧ ∀ d, S' d → S d ∨ w.heap.size ≤ d := by
  subst ht hd
  exact take_yes b S k zs w h hk h1 hm

/-- A Fifo that was made behind W; what was there in W is as it was. -/
structure Mine (W w : World) (b : Nat) (S : Nat → Prop) (k : Int) (zs : List Int) : Prop where
  fi : Fi w b S k zs
  new : ∀ d, S d → W.heap.size ≤ d
  below : Below W.heap.size W w
theorem Mine.next {W w w' : World} {b : Nat} {S S' : Nat → Prop} {k k' : Int} {zs zs' : List Int} (h : Mine W w b S k zs) (f : Fi w' b S' k' zs') (o : Only S w w') (hs : ∀ d, S' d → S d ∨ w.heap.size ≤ d) : Mine W w' b S' k' zs' :=
  ⟨f, fun d hd => (hs d hd).elim (h.new d) (fun hl => Nat.le_trans h.below.size hl), h.below.trans (o.below h.below.size h.new)⟩
theorem Mine.on {W w w' : World} {b : Nat} {S : Nat → Prop} {k : Int} {zs : List Int} (h : Mine W w b S k zs) (o : Below w.heap.size w w') : Mine W w' b S k zs :=
  ⟨h.fi.on o, h.new, h.below.trans (o.mono h.below.size)⟩
theorem Mine.lt {W w : World} {b : Nat} {S : Nat → Prop} {k : Int} {zs : List Int} (h : Mine W w b S k zs) : ∀ d, S d → d < w.heap.size := h.fi.lt

set_option maxHeartbeats 2000000 in
theorem law_runs (w : World) : Calls Try.prog 3 #[] w fun e w' => e = .returned (.bool true) ∧ Below w.heap.size w w' := by
  go_enter Try.func3, Try.ntmps3
  go_wp2_with fail
  refine (new_any 3 _ (by omega) (by omega)).mono ?_
  rintro e w1 ⟨b, S, rfl, F1, s1, k1⟩
  rw [show sizeOfBlocks 3 = 3 from rfl] at F1
  have M1 := Lib.hid (show Mine w w1 b S (3 : Nat) [] from ⟨F1, s1, k1⟩)
  clear k1 F1 s1
  go_wp2_with fail
  have x1 : ElOk ((w1.alloc (.cells #[.int .u8 1, .int .u8 2] 5)).alloc (.cells #[.int .u8 3, .int .u8 4] 5)) ⟨some ⟨w1.heap.size, 0, none⟩, 2, 2, [1, 2]⟩ := ⟨(bytes_new w1 #[.int .u8 1, .int .u8 2] [1, 2] 5 _ 2 rfl rfl rfl (by decide)).on ((Below.refl _ _).alloc (Nat.le_refl _) _), fun h => by cases h⟩
  have x2 : ElOk ((w1.alloc (.cells #[.int .u8 1, .int .u8 2] 5)).alloc (.cells #[.int .u8 3, .int .u8 4] 5)) ⟨some ⟨w1.heap.size + 1, 0, none⟩, 2, 2, [3, 4]⟩ := ⟨bytes_new (w1.alloc (.cells #[.int .u8 1, .int .u8 2] 5)) #[.int .u8 3, .int .u8 4] [3, 4] 5 _ 2 (by simp) rfl rfl (by decide), fun h => by cases h⟩
  have B2 : Below w1.heap.size w1 ((w1.alloc (.cells #[.int .u8 1, .int .u8 2] 5)).alloc (.cells #[.int .u8 3, .int .u8 4] 5)) := ((Below.refl _ _).alloc (Nat.le_refl _) _).alloc (by simp) _
  have M2 := Lib.hid (M1.out.on (B2.alloc (by simp; omega) (.cells #[.slice (some ⟨w1.heap.size, 0, none⟩) 2 2, .slice (some ⟨w1.heap.size + 1, 0, none⟩) 2 2] 25)))
  refine (put_any b S (3 : Nat) [] _ 2 2 [⟨some ⟨w1.heap.size, 0, none⟩, 2, 2, [1, 2]⟩, ⟨some ⟨w1.heap.size + 1, 0, none⟩, 2, 2, [3, 4]⟩] _ M2.out.fi (lists_new _ S _ _ _ _ _ (by simp) rfl rfl ?hL (fun d hd => Nat.lt_of_lt_of_le (M1.out.lt d hd) B2.size)) (by omega) (by simp [cat])).mono ?_
  case hL =>
    intro x hx
    simp at hx
    rcases hx with rfl | rfl
    · exact ⟨x1, fun g o he _ hs => by injection he with he; injection he with he; have := M1.out.lt g hs; omega⟩
    · exact ⟨x2, fun g o he _ hs => by injection he with he; injection he with he; have := M1.out.lt g hs; omega⟩
  rintro e w2 ⟨v, S2, rfl, F2, O2, s2⟩
  have M3 := Lib.hid (M2.out.next F2 O2 s2)
  clear F2 O2 s2 M1 M2 x1 x2 B2
  rw [show ([] ++ cat [⟨some ⟨w1.heap.size, 0, none⟩, 2, 2, [1, 2]⟩, ⟨some ⟨w1.heap.size + 1, 0, none⟩, 2, 2, [3, 4]⟩] : List Int) = [1, 2, 3, 4] from rfl] at M3
  go_wp2_with fail
  refine (take_yes_at b S2 3 [1, 2, 3, 4] [1, 2, 3] [4] w2 M3.out.fi rfl rfl (by decide) (by decide) (by decide)).mono ?_
  rintro e w3 ⟨A, c, S3, rfl, u3, a3, F3, O3, s3⟩
  have M4 := Lib.hid (M3.out.next F3 O3 s3); have U3 := Lib.hid u3
  clear F3 O3 s3 M3 u3 a3
  go_wp2_with fail
  refine (take_no b S3 3 [4] w3 M4.out.fi (by decide)).mono ?_
  rintro e w4 ⟨rfl, F4, k4⟩
  have M5 := Lib.hid (M4.out.on k4)
  have t1 : (convert 25 9 (.slice A 3 c)).run Try.prog w4 = .ok (.string ⟨#[1, 2, 3]⟩) w4 := text_of (U3.out.bytes.1.on k4) U3.out.bytes.2
  clear F4 k4 M4 U3
  go_wp2_with fail
  refine (len_any b S3 (3 : Nat) [4] w4 M5.out.fi).mono ?_
  rintro e w5 ⟨rfl, rfl⟩
  go_wp2_with fail
  refine (rest_any b S3 (3 : Nat) [4] w4 M5.out.fi).mono ?_
  rintro e w6 ⟨A6, c6, rfl, u6, n6, a6, F6, O6⟩
  have M6 := Lib.hid (M5.out.next F6 (O6.mono (fun d hd => by rw [hd]; exact M5.out.fi.mine)) (fun d hd => .inl (by rw [hd]; exact M5.out.fi.mine)))
  have t2 : (convert 25 9 (.slice A6 1 c6)).run Try.prog w6 = .ok (.string ⟨#[4]⟩) w6 := text_of u6 n6
  clear t1 u6 n6 a6 F6 O6
  rw [show ([4] : List Int).length = 1 from rfl]
  go_wp2_with fail
  refine (len_any b _ (3 : Nat) [] w6 M6.out.fi).mono ?_
  rintro e w7 ⟨rfl, rfl⟩
  go_wp2
  go_ret
  exact ⟨by first | rfl | decide | simp, M6.out.below⟩

end Go.Proofs.Ytbmcaldeiddgeaa
