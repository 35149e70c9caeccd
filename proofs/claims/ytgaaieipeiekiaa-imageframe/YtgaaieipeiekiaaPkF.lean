/- All files at once, without any Go: names, numbers, changes. / Which images may be, by what program and reference ask; changes keep that. No Go. / Names, files and images in memory: read, and of one's own. / Rows of structs of one's own: joined, made, copied, cleared, cut; of any kind of elements. -/
import Derived.Test.YtgaaieipeiekiaaPkE
import Derived.Lib.BytesEntry
import Derived.Maps.AppendAt
import Derived.Lib.AppendZerosOnto
import Derived.Lib.Overlaps
import Derived.Laws.CopyRow
import Derived.Laws.CopyOwn
import Derived.OwnWalk
import Derived.WalkKit
import Derived.Lib.Hide
namespace Go.Proofs.Ytgaaieipeiekiaa
open Go.RowKit

/-- A name and its number. -/
structure Nm where
  name : ByteArray
  ino : Int
deriving Inhabited
/-- A file: its number, size, blocks. -/
structure Nd where
  ino : Int
  s : Int
  L : List Ex
deriving Inhabited
structure Ig where
  N : List Nm
  D : List Nd
/-- A change. -/
structure Opv where
  kind : Int
  ino : Int
  pos : Int
  size : Int
  keep : Bool
  name : ByteArray
  to : ByteArray
  bs : List Int

theorem bl_irr : ∀ l : List UInt8, Op.bytesLess l l = false
  | [] => rfl
  | a :: l => by simp [Op.bytesLess, bl_irr l]
theorem bl_tr : ∀ a b c : List UInt8, Op.bytesLess a b = true → Op.bytesLess b c = true → Op.bytesLess a c = true
  | _, [], _, h, _ => by simp [Op.bytesLess] at h
  | _, _ :: _, [], _, h => by simp [Op.bytesLess] at h
  | [], _ :: _, _ :: _, _, _ => rfl
  | a :: x, b :: y, c :: z, h1, h2 => by
    simp only [Op.bytesLess, Bool.or_eq_true, Bool.and_eq_true, decide_eq_true_eq, beq_iff_eq, UInt8.lt_iff_toNat_lt] at h1 h2 ⊢
    rcases h1 with h1 | ⟨rfl, h1⟩
    · rcases h2 with h2 | ⟨rfl, h2⟩
      · exact .inl (by omega)
      · exact .inl h1
    · rcases h2 with h2 | ⟨rfl, h2⟩
      · exact .inl h2
      · exact .inr ⟨rfl, bl_tr x y z h1 h2⟩
theorem bl_tot : ∀ a b : List UInt8, Op.bytesLess a b = false → Op.bytesLess b a = false → a = b
  | [], [], _, _ => rfl
  | [], _ :: _, h, _ => by simp [Op.bytesLess] at h
  | _ :: _, [], _, h => by simp [Op.bytesLess] at h
  | a :: x, b :: y, h1, h2 => by
    simp only [Op.bytesLess, Bool.or_eq_false_iff, Bool.and_eq_false_iff, decide_eq_false_iff_not, UInt8.lt_iff_toNat_lt] at h1 h2
    have e : a = b := UInt8.toNat_inj.1 (by omega)
    subst e
    have e1 : Op.bytesLess x y = false := by rcases h1.2 with h | h <;> simp_all
    have e2 : Op.bytesLess y x = false := by rcases h2.2 with h | h <;> simp_all
    rw [bl_tot x y e1 e2]
theorem toList_inj {a b : ByteArray} (h : a.toList = b.toList) : a = b := by
  rw [Lib.toList_data, Lib.toList_data] at h
  exact ByteArray.ext (Array.toList_inj.1 h)
def nlt (a b : ByteArray) : Bool := Op.bytesLess a.toList b.toList
def ordN : Ord ByteArray := ⟨nlt, fun _ => bl_irr _, fun _ _ _ => bl_tr _ _ _, fun _ _ h1 h2 => toList_inj (bl_tot _ _ h1 h2)⟩
def ordI : Ord Int := ⟨fun a b => decide (a < b), fun a => by simp, fun a b c h1 h2 => by simp only [decide_eq_true_eq] at *; omega, fun a b h1 h2 => by simp only [decide_eq_false_iff_not] at *; omega⟩

/-- May a byte be in a name? -/
def okB (c : UInt8) : Bool := (decide (97 ≤ (c.toNat : Int)) && decide ((c.toNat : Int) ≤ 122)) || (decide (48 ≤ (c.toNat : Int)) && decide ((c.toNat : Int) ≤ 57)) || decide ((c.toNat : Int) = 46) || decide ((c.toNat : Int) = 95) || decide ((c.toNat : Int) = 45)
def okL (l : List UInt8) : Bool := decide (1 ≤ l.length) && decide (l.length ≤ 20) && decide (((l.getD 0 0).toNat : Int) ≠ 45) && l.all okB
def okName (s : ByteArray) : Bool := okL s.data.toList
def okIno (n : Int) : Bool := decide (1 ≤ n) && decide (n ≤ 4611686018427387904)

structure GoodI (I : Ig) : Prop where
  len : I.N.length ≤ 16
  name : ∀ x ∈ I.N, okName x.name = true
  ino : ∀ x ∈ I.N, okIno x.ino = true
  rise : Rise ordN Nm.name I.N
  up : Rise ordI Nd.ino I.D
  perm : (I.N.map Nm.ino).Perm (I.D.map Nd.ino)
  cont : ∀ d ∈ I.D, may d.s d.L = true

/-- What is written, as a list. -/
def wrl (L : List Ex) (p : Int) (bs : List Int) : List Ex := if bs = [] then L else (alo L p bs.length).map fun e => ⟨e.no, if p / 8 ≤ e.no ∧ e.no ≤ (p + (bs.length : Int) - 1) / 8 then wbytes L p bs e.no else e.bs⟩
theorem look_map (g : Int → List Int → List Int) : ∀ (L : List Ex) (k : Int), look (L.map fun e => (⟨e.no, g e.no e.bs⟩ : Ex)) k = (look L k).map (g k)
  | [], _ => rfl
  | e :: r, k => by
    simp only [List.map_cons, look]
    by_cases h : e.no = k
    · subst h; simp
    · simp [h, look_map g r k]
theorem wr_none {L M : List Ex} {p : Int} {s : Int} (gm : may s L = true) (h : WR L p [] M) : M = L :=
  look_ext h.1 ((may_iff _ _).1 gm).up (fun k => by rw [h.2, if_pos rfl])
theorem wr_is {s : Int} {L M : List Ex} {p : Int} {bs : List Int} (gm : may s L = true) (h : WR L p bs M) : M = wrl L p bs := by
  unfold wrl
  by_cases hb : bs = []
  · subst hb
    rw [if_pos rfl]
    exact wr_none gm h
  · rw [if_neg hb]
    have hl : bs.length ≠ 0 := fun x => hb (List.eq_nil_of_length_eq_zero x)
    have hg := (may_iff _ _).1 gm
    have hup : Up (alo L p bs.length) := up_fil hg.up (by omega) (by omega)
    refine look_ext h.1 ?_ (fun k => ?_)
    · exact List.Pairwise.map _ (fun _ _ x => x) hup
    · rw [h.2 k, if_neg hb, look_map (fun k b => if p / 8 ≤ k ∧ k ≤ (p + (bs.length : Int) - 1) / 8 then wbytes L p bs k else b)]
      rw [show look (alo L p bs.length) k = flook L (p / 8) ((p + (bs.length : Int) - 1) / 8) k from fil_look hg.up (by omega) (by omega) k]
      unfold wlook flook
      by_cases g : p / 8 ≤ k ∧ k ≤ (p + (bs.length : Int) - 1) / 8
      · simp [g]
      · simp [g]
theorem wr_look {s : Int} {L : List Ex} {p : Int} {bs : List Int} (gm : may s L = true) : WR L p bs (wrl L p bs) := by
  unfold wrl
  have hg := (may_iff _ _).1 gm
  by_cases hb : bs = []
  · subst hb
    rw [if_pos rfl]
    exact ⟨hg.up, fun k => by rw [if_pos rfl]⟩
  · rw [if_neg hb]
    have hl : bs.length ≠ 0 := fun x => hb (List.eq_nil_of_length_eq_zero x)
    have hup : Up (alo L p bs.length) := up_fil hg.up (by omega) (by omega)
    refine ⟨List.Pairwise.map _ (fun _ _ x => x) hup, fun k => ?_⟩
    rw [if_neg hb, look_map (fun k b => if p / 8 ≤ k ∧ k ≤ (p + (bs.length : Int) - 1) / 8 then wbytes L p bs k else b)]
    rw [show look (alo L p bs.length) k = flook L (p / 8) ((p + (bs.length : Int) - 1) / 8) k from fil_look hg.up (by omega) (by omega) k]
    unfold wlook flook
    by_cases g : p / 8 ≤ k ∧ k ≤ (p + (bs.length : Int) - 1) / 8
    · simp [g]
    · simp [g]

/-- What a change makes of what is in a file. -/
def chg (o : Opv) (s : Int) (L : List Ex) : Option (Int × List Ex) :=
  if o.kind = 2 then (if ((eo o.pos (o.bs.length : Int)).isSome && decide (o.bs.length ≤ 4096) && may s L) = true then some (wsz s o.pos o.bs.length, wrl L o.pos o.bs) else none)
  else if o.kind = 3 then (if (decide (0 ≤ o.size) && decide (o.size ≤ 1099511627776) && may s L) = true then some (o.size, wo L o.size 1099511627776) else none)
  else if o.kind = 4 then (if ((eo o.pos o.size).isSome && decide (1 ≤ o.size) && decide (o.size ≤ 32768) && may s L) = true then some (asz s o.pos o.size o.keep, alo L o.pos o.size) else none)
  else if o.kind = 5 then (if ((eo o.pos o.size).isSome && decide (1 ≤ o.size) && may s L) = true then some (s, wo L o.pos (o.pos + o.size)) else none)
  else none
def applyS (I : Ig) (o : Opv) : Ig :=
  if o.kind = 1 then (if okName o.name = true ∧ fnd Nm.name I.N o.name = none ∧ okIno o.ino = true ∧ fnd Nd.ino I.D o.ino = none ∧ I.N.length < 16 then ⟨ins ordN Nm.name I.N ⟨o.name, o.ino⟩, ins ordI Nd.ino I.D ⟨o.ino, 0, []⟩⟩ else I)
  else if o.kind = 6 then (match fnd Nm.name I.N o.name with
    | none => I
    | some x => if okName o.to = true ∧ o.to ≠ o.name then (match fnd Nm.name I.N o.to with
        | none => ⟨ins ordN Nm.name (del Nm.name I.N o.name) ⟨o.to, x.ino⟩, I.D⟩
        | some y => ⟨ins ordN Nm.name (del Nm.name (del Nm.name I.N o.name) o.to) ⟨o.to, x.ino⟩, del Nd.ino I.D y.ino⟩) else I)
  else if o.kind = 7 then (match fnd Nm.name I.N o.name with
    | none => I
    | some x => ⟨del Nm.name I.N o.name, del Nd.ino I.D x.ino⟩)
  else (match fnd Nd.ino I.D o.ino with
    | none => I
    | some d => match chg o d.s d.L with
      | none => I
      | some r => ⟨I.N, updk Nd.ino I.D o.ino ⟨o.ino, r.1, r.2⟩⟩)

theorem eo_is {p n : Int} (h : (eo p n).isSome = true) : 0 ≤ p ∧ 0 ≤ n ∧ p + n ≤ 1099511627776 := by
  cases he : eo p n with
  | none => rw [he] at h; cases h
  | some t => have := eo_some he; omega
theorem chg_good {o : Opv} {s : Int} {L : List Ex} {r : Int × List Ex} (gm : may s L = true) (h : chg o s L = some r) : may r.1 r.2 = true := by
  have hg := (may_iff _ _).1 gm
  have h0 := hg.s0
  have h1 := hg.s1
  unfold chg at h
  split at h
  · split at h
    · rename_i hc
      injection h with h
      subst h
      simp only [Bool.and_eq_true, decide_eq_true_eq] at hc
      have he := eo_is hc.1.1
      have hw := wr_look (p := o.pos) (bs := o.bs) gm
      by_cases hb : o.bs = []
      · have : wrl L o.pos o.bs = L := by unfold wrl; rw [if_pos hb]
        show may (wsz s o.pos o.bs.length) (wrl L o.pos o.bs) = true
        rw [this]
        have : wsz s o.pos o.bs.length = s := by unfold wsz; rw [if_pos (by rw [hb]; rfl)]
        rw [this]; exact gm
      · have hl : o.bs.length ≠ 0 := fun x => hb (List.eq_nil_of_length_eq_zero x)
        refine (may_iff _ _).2 (good_wlook hg hw.1 (fun k => by rw [hw.2 k, if_neg hb]) ?_ ?_ he.1 ?_) <;> (unfold wsz; rw [if_neg hl]; omega)
    · cases h
  · split at h
    · split at h
      · rename_i hc
        injection h with h
        subst h
        simp only [Bool.and_eq_true, decide_eq_true_eq] at hc
        exact (may_iff _ _).2 (good_wo hg _ _ hc.1.1 hc.1.2 (fun t h1 h2 => .inr ⟨h1, h2⟩))
      · cases h
    · split at h
      · split at h
        · rename_i hc
          injection h with h
          subst h
          simp only [Bool.and_eq_true, decide_eq_true_eq] at hc
          have he := eo_is hc.1.1.1
          have hs : s ≤ asz s o.pos o.size o.keep ∧ asz s o.pos o.size o.keep ≤ 1099511627776 := by unfold asz; split <;> omega
          exact (may_iff _ _).2 (good_flook hg (up_fil hg.up (by omega) (by omega)) (fun k => fil_look hg.up (by omega) (by omega) k) hs.1 hs.2 (by omega) (by omega))
        · cases h
      · split at h
        · split at h
          · rename_i hc
            injection h with h
            subst h
            exact (may_iff _ _).2 (good_wo hg _ _ h0 h1 (fun t h1 h2 => .inl h1))
          · cases h
        · cases h
/-- Not too much of a change. -/
def Small (o : Opv) : Prop := o.bs.length ≤ 100 ∧ (o.size ≤ 400 ∨ 32768 < o.size)
theorem alo_le {L : List Ex} (hu : Up L) (p k : Int) (hk : 0 ≤ k) : (alo L p k).length ≤ L.length + ((p + k - 1) / 8 - p / 8 + 1).toNat := by
  have h1 := idx_mono hu (k := p / 8) (m := (p + k - 1) / 8 + 1) (by omega)
  have h2 := idx_le L ((p + k - 1) / 8 + 1)
  unfold alo fil
  rw [List.length_append, List.length_append, blk_len, List.length_take, List.length_drop]
  omega
theorem chg_len {o : Opv} {s : Int} {L : List Ex} {r : Int × List Ex} (hu : Up L) (hs : Small o) (h : chg o s L = some r) : r.2.length ≤ L.length + 60 := by
  unfold Small at hs
  unfold chg at h
  split at h
  · split at h
    · injection h with h
      subst h
      show (wrl L o.pos o.bs).length ≤ _
      unfold wrl
      split
      · omega
      · rw [List.length_map]
        have := alo_le hu o.pos o.bs.length (by omega)
        omega
    · cases h
  · split at h
    · split at h
      · injection h with h
        subst h
        show (wo L _ _).length ≤ _
        unfold wo
        have := List.length_filter_le (fun e : Ex => !whole e.no o.size 1099511627776) L
        rw [List.length_map]; omega
      · cases h
    · split at h
      · split at h
        · rename_i hc
          injection h with h
          subst h
          simp only [Bool.and_eq_true, decide_eq_true_eq] at hc
          show (alo L _ _).length ≤ _
          have := alo_le hu o.pos o.size (by omega)
          omega
        · cases h
      · split at h
        · split at h
          · injection h with h
            subst h
            show (wo L _ _).length ≤ _
            unfold wo
            have := List.length_filter_le (fun e : Ex => !whole e.no o.pos (o.pos + o.size)) L
            rw [List.length_map]; omega
          · cases h
        · cases h
end Go.Proofs.Ytgaaieipeiekiaa

namespace Go.Proofs.Ytgaaieipeiekiaa

theorem getD_take {α : Type} [Inhabited α] (L : List α) (k : Nat) (hk : k < L.length) : L.take (k + 1) = L.take k ++ [L.getD k default] := by
  rw [List.take_add_one, List.getD_eq_getElem?_getD, List.getElem?_eq_getElem hk]; rfl
theorem mem_take_succ {α : Type} [Inhabited α] {L : List α} {k : Nat} (hk : k < L.length) {x : α} (h : x ∈ L.take (k + 1)) : x ∈ L.take k ∨ x = L.getD k default := by
  rw [getD_take L k hk, List.mem_append, List.mem_singleton] at h
  exact h
theorem getD_mem' {α : Type} [Inhabited α] {L : List α} {k : Nat} (hk : k < L.length) : L.getD k default ∈ L := by
  rw [List.getD_eq_getElem?_getD, List.getElem?_eq_getElem hk]; exact List.getElem_mem hk
theorem take_getD {α : Type} [Inhabited α] {L : List α} {k j : Nat} (h : j < k) : (L.take k).getD j default = L.getD j default := by
  rw [List.getD_eq_getElem?_getD, List.getD_eq_getElem?_getD, List.getElem?_take_of_lt h]
theorem pw_getD {α : Type} [Inhabited α] {R : α → α → Prop} {L : List α} (h : L.Pairwise R) {i j : Nat} (hij : i < j) (hj : j < L.length) : R (L.getD i default) (L.getD j default) := by
  have := List.pairwise_iff_getElem.1 h i j (by omega) hj hij
  rw [List.getD_eq_getElem?_getD, List.getD_eq_getElem?_getD, List.getElem?_eq_getElem (by omega), List.getElem?_eq_getElem hj]
  exact this
section
variable {α K : Type} [Inhabited α] {O : Ord K} {key : α → K} {L : List α}
theorem rise_adj (h : Rise O key L) {k : Nat} (h0 : 0 < k) (hk : k < L.length) : O.lt (key (L.getD (k - 1) default)) (key (L.getD k default)) = true := pw_getD h (by omega) hk
theorem rise_succ {k : Nat} (hk : k < L.length) (h : Rise O key (L.take k)) (ha : 0 < k → O.lt (key (L.getD (k - 1) default)) (key (L.getD k default)) = true) : Rise O key (L.take (k + 1)) := by
  rw [getD_take L k hk]
  unfold Rise at h ⊢
  rw [List.pairwise_append]
  refine ⟨h, List.pairwise_singleton _ _, fun a ha' b hb => ?_⟩
  rw [List.mem_singleton] at hb
  subst hb
  obtain ⟨j, hj, rfl⟩ := List.mem_iff_getElem.1 ha'
  have hj2 : j < k := by rw [List.length_take] at hj; omega
  have hlast := ha (by omega)
  have e : (L.take k)[j] = L.getD j default := by
    rw [List.getElem_take, List.getD_eq_getElem?_getD, List.getElem?_eq_getElem (by omega)]; rfl
  rw [e]
  by_cases h1 : j = k - 1
  · rw [h1]; exact hlast
  · have := pw_getD h (i := j) (j := k - 1) (by omega) (by rw [List.length_take]; omega)
    rw [take_getD hj2, take_getD (by omega)] at this
    exact O.tr _ _ _ this hlast
end
theorem perm_of_sub : ∀ (l m : List Int), l.Nodup → (∀ x ∈ l, x ∈ m) → l.length = m.length → l.Perm m
  | [], m, _, _, h => by
    have : m = [] := List.eq_nil_of_length_eq_zero (by simpa using h.symm)
    rw [this]
  | a :: l, m, hn, hs, h => by
    have ha := hs a (by simp)
    have hp := List.perm_cons_erase ha
    have hl := hp.length_eq
    simp only [List.length_cons] at hl h
    have ih := perm_of_sub l (m.erase a) (List.nodup_cons.1 hn).2 (fun x hx => (List.mem_erase_of_ne (fun he => (List.nodup_cons.1 hn).1 (by rw [← he]; exact hx))).2 (hs x (by simp [hx]))) (by omega)
    exact (ih.cons a).trans hp.symm

structure NamesOk (N : List Nm) : Prop where
  len : N.length ≤ 16
  name : ∀ x ∈ N, okName x.name = true
  ino : ∀ x ∈ N, okIno x.ino = true
  rise : Rise ordN Nm.name N
structure PairOk (N : List Nm) (D : List Nd) : Prop where
  up : Rise ordI Nd.ino D
  perm : (N.map Nm.ino).Perm (D.map Nd.ino)
theorem good_iff (I : Ig) : GoodI I ↔ NamesOk I.N ∧ PairOk I.N I.D ∧ ∀ d ∈ I.D, may d.s d.L = true :=
  ⟨fun h => ⟨⟨h.len, h.name, h.ino, h.rise⟩, ⟨h.up, h.perm⟩, h.cont⟩, fun ⟨a, b, c⟩ => ⟨a.len, a.name, a.ino, a.rise, b.up, b.perm, c⟩⟩
theorem up_iff (D : List Nd) : Rise ordI Nd.ino D ↔ (D.map Nd.ino).Pairwise (· < ·) := by
  unfold Rise
  rw [List.pairwise_map]
  constructor <;> intro h <;> refine h.imp fun {a b} x => ?_
  · exact of_decide_eq_true x
  · exact decide_eq_true x
/-- What paired asks: the numbers, sorted, differ, and are the nodes'. -/
theorem pair_iff {N : List Nm} {D : List Nd} {S : List Int} (hp : S.Perm (N.map Nm.ino)) (hs : S.Pairwise (· ≤ ·)) : (S.Pairwise (· < ·) ∧ S = D.map Nd.ino) ↔ PairOk N D := by
  constructor
  · rintro ⟨h1, rfl⟩
    exact ⟨(up_iff D).2 h1, hp.symm⟩
  · rintro ⟨h1, h2⟩
    have h3 := (up_iff D).1 h1
    have : S = D.map Nd.ino := List.Perm.eq_of_pairwise (le := (· ≤ ·)) (fun a b _ _ x y => Int.le_antisymm x y) hs (h3.imp fun h => Int.le_of_lt h) (hp.trans h2)
    exact ⟨by rw [this]; exact h3, this⟩

theorem GoodI.nodup {I : Ig} (h : GoodI I) : (I.N.map Nm.ino).Nodup := by
  refine h.perm.nodup_iff.2 ?_
  have := (up_iff I.D).1 h.up
  exact this.imp fun {a b} x => by omega
theorem GoodI.leq {I : Ig} (h : GoodI I) : I.N.length = I.D.length := by
  have := h.perm.length_eq
  simpa using this
theorem GoodI.node {I : Ig} (h : GoodI I) {x : Nm} (hx : x ∈ I.N) : ∃ d, fnd Nd.ino I.D x.ino = some d := by
  have : x.ino ∈ I.D.map Nd.ino := (h.perm.mem_iff).1 (List.mem_map_of_mem hx)
  obtain ⟨d, hd, he⟩ := List.mem_map.1 this
  exact ⟨d, by rw [← he]; exact fnd_of_mem h.up hd⟩
theorem GoodI.apart {I : Ig} (h : GoodI I) {i j : Nat} (hij : i < j) (hj : j < I.N.length) : (I.N.getD i default).ino ≠ (I.N.getD j default).ino := by
  have := h.nodup
  unfold List.Nodup at this
  rw [List.pairwise_map] at this
  exact pw_getD this hij hj
/-- What the reference asks. -/
theorem good_ref {I : Ig} (h1 : I.N.length ≤ 16) (h2 : I.N.length = I.D.length) (h3 : ∀ x ∈ I.N, okName x.name = true ∧ okIno x.ino = true ∧ (fnd Nd.ino I.D x.ino).isSome = true) (h4 : Rise ordN Nm.name I.N) (h5 : (I.N.map Nm.ino).Nodup) (h6 : Rise ordI Nd.ino I.D) (h7 : ∀ d ∈ I.D, may d.s d.L = true) : GoodI I := by
  refine ⟨h1, fun x hx => (h3 x hx).1, fun x hx => (h3 x hx).2.1, h4, h6, perm_of_sub _ _ h5 (fun k hk => ?_) (by simpa using h2), h7⟩
  obtain ⟨x, hx, rfl⟩ := List.mem_map.1 hk
  obtain ⟨d, hd⟩ := Option.isSome_iff_exists.1 (h3 x hx).2.2
  have := fnd_mem hd
  exact List.mem_map.2 ⟨d, this.1, this.2⟩

theorem good_nil : GoodI ⟨[], []⟩ := ⟨by simp, by simp, by simp, List.Pairwise.nil, List.Pairwise.nil, List.Perm.refl _, by simp⟩
theorem good_updk {I : Ig} (h : GoodI I) {k : Int} {s : Int} {L : List Ex} (hm : may s L = true) : GoodI ⟨I.N, updk Nd.ino I.D k ⟨k, s, L⟩⟩ :=
  ⟨h.len, h.name, h.ino, h.rise, rise_updk h.up rfl, by show (I.N.map Nm.ino).Perm ((updk Nd.ino I.D k ⟨k, s, L⟩).map Nd.ino); rw [key_updk (key := Nd.ino) (y := ⟨k, s, L⟩) I.D rfl]; exact h.perm, fun d hd => (mem_updk hd).elim (fun e => by rw [e]; exact hm) (h.cont d)⟩
theorem may_zero : may 0 [] = true := by decide
theorem perm_ins_map (N : List Nm) (x : Nm) : ((ins ordN Nm.name N x).map Nm.ino).Perm (x.ino :: N.map Nm.ino) := (ins_perm Nm.name N x).map Nm.ino
theorem good_create {I : Ig} (h : GoodI I) {name : ByteArray} {k : Int} (h1 : okName name = true) (h2 : fnd Nm.name I.N name = none) (h3 : okIno k = true) (h4 : fnd Nd.ino I.D k = none) (h5 : I.N.length < 16) : GoodI ⟨ins ordN Nm.name I.N ⟨name, k⟩, ins ordI Nd.ino I.D ⟨k, 0, []⟩⟩ := by
  refine ⟨?_, fun x hx => ?_, fun x hx => ?_, rise_ins h.rise h2, rise_ins h.up h4, ?_, fun d hd => ?_⟩
  · have := (ins_perm (O := ordN) Nm.name I.N ⟨name, k⟩).length_eq
    simp only [List.length_cons] at this
    show (ins ordN Nm.name I.N ⟨name, k⟩).length ≤ 16
    omega
  · rcases mem_ins.1 hx with rfl | hx
    · exact h1
    · exact h.name x hx
  · rcases mem_ins.1 hx with rfl | hx
    · exact h3
    · exact h.ino x hx
  · exact ((perm_ins_map _ _).trans (h.perm.cons k)).trans ((ins_perm (O := ordI) Nd.ino I.D ⟨k, 0, []⟩).map Nd.ino).symm
  · rcases mem_ins.1 hd with rfl | hd
    · exact may_zero
    · exact h.cont d hd
theorem len_del {α K : Type} [DecidableEq K] (key : α → K) (L : List α) (k : K) : (del key L k).length ≤ L.length := List.length_filter_le _ _
theorem perm_del_nodes {I : Ig} (h : GoodI I) {x : Nm} (hx : x ∈ I.N) : (I.D.map Nd.ino).Perm (x.ino :: (del Nd.ino I.D x.ino).map Nd.ino) := by
  obtain ⟨d, hd⟩ := h.node hx
  have := (del_perm h.up hd).map Nd.ino
  rwa [List.map_cons, (fnd_mem hd).2] at this
theorem good_remove {I : Ig} (h : GoodI I) {name : ByteArray} {x : Nm} (hx : fnd Nm.name I.N name = some x) : GoodI ⟨del Nm.name I.N name, del Nd.ino I.D x.ino⟩ := by
  have hp := (del_perm h.rise hx).map Nm.ino
  rw [List.map_cons] at hp
  refine ⟨Nat.le_trans (len_del _ _ _) h.len, fun y hy => h.name y (mem_del.1 hy).1, fun y hy => h.ino y (mem_del.1 hy).1, rise_del h.rise _, rise_del h.up _, ?_, fun d hd => h.cont d (mem_del.1 hd).1⟩
  exact List.Perm.cons_inv ((hp.symm.trans h.perm).trans (perm_del_nodes h (fnd_mem hx).1))
theorem good_rename0 {I : Ig} (h : GoodI I) {name to : ByteArray} {x : Nm} (hx : fnd Nm.name I.N name = some x) (h1 : okName to = true) (hy : fnd Nm.name I.N to = none) : GoodI ⟨ins ordN Nm.name (del Nm.name I.N name) ⟨to, x.ino⟩, I.D⟩ := by
  have hp := (del_perm h.rise hx).map Nm.ino
  rw [List.map_cons] at hp
  have hf : fnd Nm.name (del Nm.name I.N name) to = none := by rw [fnd_del]; split; rfl; exact hy
  refine ⟨?_, fun y hy => ?_, fun y hy => ?_, rise_ins (rise_del h.rise _) hf, h.up, ?_, h.cont⟩
  · have h3 := (ins_perm (O := ordN) Nm.name (del Nm.name I.N name) ⟨to, x.ino⟩).length_eq
    have h2 := (del_perm h.rise hx).length_eq
    have := h.len
    simp only [List.length_cons] at h2 h3
    show (ins ordN Nm.name _ _).length ≤ 16
    omega
  · rcases mem_ins.1 hy with rfl | hy
    · exact h1
    · exact h.name y (mem_del.1 hy).1
  · rcases mem_ins.1 hy with rfl | hy
    · exact h.ino x (fnd_mem hx).1
    · exact h.ino y (mem_del.1 hy).1
  · exact ((perm_ins_map (del Nm.name I.N name) ⟨to, x.ino⟩).trans hp.symm).trans h.perm
theorem good_rename1 {I : Ig} (h : GoodI I) {name to : ByteArray} {x y : Nm} (hx : fnd Nm.name I.N name = some x) (h1 : okName to = true) (hn : to ≠ name) (hy : fnd Nm.name I.N to = some y) :
    GoodI ⟨ins ordN Nm.name (del Nm.name (del Nm.name I.N name) to) ⟨to, x.ino⟩, del Nd.ino I.D y.ino⟩ := by
  have hr := good_remove h hy
  have hx' : fnd Nm.name (del Nm.name I.N to) name = some x := by rw [fnd_del, if_neg (fun e => hn e.symm)]; exact hx
  have hy' : fnd Nm.name (del Nm.name I.N to) to = none := by rw [fnd_del, if_pos rfl]
  have := good_rename0 hr hx' h1 hy'
  rw [del_comm]
  exact this
theorem good_apply {I : Ig} (h : GoodI I) (o : Opv) : GoodI (applyS I o) := by
  unfold applyS
  split
  · split
    · rename_i hc
      exact good_create h hc.1 hc.2.1 hc.2.2.1 hc.2.2.2.1 hc.2.2.2.2
    · exact h
  · split
    · split
      · exact h
      · rename_i x hx
        split
        · rename_i hc
          split
          · rename_i hy; exact good_rename0 h hx hc.1 hy
          · rename_i y hy; exact good_rename1 h hx hc.1 hc.2 hy
        · exact h
    · split
      · split
        · exact h
        · rename_i x hx; exact good_remove h hx
      · split
        · exact h
        · rename_i d hd
          split
          · exact h
          · rename_i r hr
            exact good_updk h (chg_good (h.cont d (fnd_mem hd).1) hr)
def Lens (K : Nat) (I : Ig) : Prop := ∀ d ∈ I.D, d.L.length ≤ K
theorem lens_apply {I : Ig} {K : Nat} (h : GoodI I) (hl : Lens K I) {o : Opv} (hs : Small o) : Lens (K + 60) (applyS I o) := by
  have hl' : Lens (K + 60) I := fun d hd => Nat.le_trans (hl d hd) (by omega)
  have hdel : ∀ N k, Lens (K + 60) ⟨N, del Nd.ino I.D k⟩ := fun N k d hd => hl' d (mem_del.1 hd).1
  unfold applyS
  split
  · split
    · intro d hd
      rcases mem_ins.1 hd with rfl | hd
      · exact Nat.zero_le _
      · exact hl' d hd
    · exact hl'
  · split
    · split
      · exact hl'
      · split
        · split
          · exact hl'
          · exact hdel _ _
        · exact hl'
    · split
      · split
        · exact hl'
        · exact hdel _ _
      · split
        · exact hl'
        · rename_i d hd
          split
          · exact hl'
          · rename_i r hr
            intro e he
            rcases mem_updk he with rfl | he
            · have hm := (fnd_mem hd).1
              have := chg_len ((may_iff _ _).1 (h.cont d hm)).up hs hr
              have := hl d hm
              show r.2.length ≤ _
              omega
            · exact hl' e he
end Go.Proofs.Ytgaaieipeiekiaa

namespace Go.Proofs.Ytgaaieipeiekiaa
open Go.RowKit
set_option maxRecDepth 100000

def ncl (x : Nm) : List Value := [.string x.name, .int .i64 x.ino]
/-- A file as it lies: its cells, and what its blocks are. -/
structure Nz where
  ino : Int
  s : Int
  A : Option Addr
  n : Nat
  c : Nat
  L : List Ex
deriving Inhabited
def Nz.d (z : Nz) : Nd := ⟨z.ino, z.s, z.L⟩
def zcl (z : Nz) : List Value := [.int .i64 z.ino, .int .i64 z.s, .slice z.A z.n z.c]
def elN : El Nm := ⟨48, 2, ncl, fun _ => rfl, fun x v h => by simp [ncl] at h; rcases h with rfl | rfl <;> rfl, by decide⟩
def elZ : El Nz := ⟨60, 3, zcl, fun _ => rfl, fun x v h => by simp [zcl] at h; rcases h with rfl | rfl | rfl <;> rfl, by decide⟩
abbrev Nms := Sl elN
abbrev Nds := Sl elZ
theorem Nms.at {w : World} {b o n c : Nat} {N : List Nm} (h : Nms w (some ⟨b, o, none⟩) n c N) (j : Nat) (hj : j < n) : w.cell? ⟨b, o + j * 2, none⟩ = some (.string (N.getD j default).name) ∧ w.cell? ⟨b, o + j * 2 + 1, none⟩ = some (.int .i64 (N.getD j default).ino) := by
  obtain ⟨b', o', he, _, hc⟩ := h.cells (by omega)
  injection he with he; injection he with e1 e2; subst e1 e2
  exact ⟨hc j hj 0 _ rfl, hc j hj 1 _ rfl⟩
theorem Nds.at {w : World} {b o n c : Nat} {Z : List Nz} (h : Nds w (some ⟨b, o, none⟩) n c Z) (j : Nat) (hj : j < n) : w.cell? ⟨b, o + j * 3, none⟩ = some (.int .i64 (Z.getD j default).ino) ∧ w.cell? ⟨b, o + j * 3 + 1, none⟩ = some (.int .i64 (Z.getD j default).s) ∧ w.cell? ⟨b, o + j * 3 + 2, none⟩ = some (.slice (Z.getD j default).A (Z.getD j default).n (Z.getD j default).c) := by
  obtain ⟨b', o', he, _, hc⟩ := h.cells (by omega)
  injection he with he; injection he with e1 e2; subst e1 e2
  exact ⟨hc j hj 0 _ rfl, hc j hj 1 _ rfl, hc j hj 2 _ rfl⟩
/-- A name's, a file's, an image's variable. -/
def NBox (w : World) (b : Nat) (s : ByteArray) (k : Int) : Prop := Row w b 48 #[.string s, .int .i64 k]
def ZBox (w : World) (b : Nat) (k s : Int) (A : Option Addr) (n c : Nat) : Prop := Row w b 60 #[.int .i64 k, .int .i64 s, .slice A n c]
def iv (A : Option Addr) (n c : Nat) (A' : Option Addr) (n' c' : Nat) : Value := .agg #[.slice A n c, .slice A' n' c']
def IBox (w : World) (b : Nat) (A : Option Addr) (n c : Nat) (A' : Option Addr) (n' c' : Nat) : Prop := Row w b 25 #[.slice A n c, .slice A' n' c']
theorem NBox.on {w w' : World} {b : Nat} {s : ByteArray} {k : Int} (h : NBox w b s k) (hb : Below w.heap.size w w') : NBox w' b s k := Row.on h hb
theorem NBox.c0 {w : World} {b : Nat} {s : ByteArray} {k : Int} (h : NBox w b s k) : w.cell? ⟨b, 0, none⟩ = some (.string s) := by rw [Row.at h]; rfl
theorem NBox.c1 {w : World} {b : Nat} {s : ByteArray} {k : Int} (h : NBox w b s k) : w.cell? ⟨b, 1, none⟩ = some (.int .i64 k) := by rw [Row.at h]; rfl
theorem ZBox.on {w w' : World} {b : Nat} {k s : Int} {A : Option Addr} {n c : Nat} (h : ZBox w b k s A n c) (hb : Below w.heap.size w w') : ZBox w' b k s A n c := Row.on h hb
theorem ZBox.c0 {w : World} {b : Nat} {k s : Int} {A : Option Addr} {n c : Nat} (h : ZBox w b k s A n c) : w.cell? ⟨b, 0, none⟩ = some (.int .i64 k) := by rw [Row.at h]; rfl
theorem ZBox.c1 {w : World} {b : Nat} {k s : Int} {A : Option Addr} {n c : Nat} (h : ZBox w b k s A n c) : w.cell? ⟨b, 1, none⟩ = some (.int .i64 s) := by rw [Row.at h]; rfl
theorem ZBox.c2 {w : World} {b : Nat} {k s : Int} {A : Option Addr} {n c : Nat} (h : ZBox w b k s A n c) : w.cell? ⟨b, 2, none⟩ = some (.slice A n c) := by rw [Row.at h]; rfl
theorem IBox.on {w w' : World} {b : Nat} {A : Option Addr} {n c : Nat} {A' : Option Addr} {n' c' : Nat} (h : IBox w b A n c A' n' c') (hb : Below w.heap.size w w') : IBox w' b A n c A' n' c' := Row.on h hb
theorem IBox.c0 {w : World} {b : Nat} {A : Option Addr} {n c : Nat} {A' : Option Addr} {n' c' : Nat} (h : IBox w b A n c A' n' c') : w.cell? ⟨b, 0, none⟩ = some (.slice A n c) := by rw [Row.at h]; rfl
theorem IBox.c1 {w : World} {b : Nat} {A : Option Addr} {n c : Nat} {A' : Option Addr} {n' c' : Nat} (h : IBox w b A n c A' n' c') : w.cell? ⟨b, 1, none⟩ = some (.slice A' n' c') := by rw [Row.at h]; rfl
theorem IBox.f0 {w : World} {b : Nat} {A : Option Addr} {n c : Nat} {A' : Option Addr} {n' c' : Nat} (h : IBox w b A n c A' n' c') : w.frozen? ⟨b, 0, none⟩ = false := Row.free h 0
theorem IBox.f1 {w : World} {b : Nat} {A : Option Addr} {n c : Nat} {A' : Option Addr} {n' c' : Nat} (h : IBox w b A n c A' n' c') : w.frozen? ⟨b, 1, none⟩ = false := Row.free h 1
theorem IBox.lt {w : World} {b : Nat} {A : Option Addr} {n c : Nat} {A' : Option Addr} {n' c' : Nat} (h : IBox w b A n c A' n' c') : b < w.heap.size := Row.lt h
theorem nbox_new (w : World) (s : ByteArray) (k : Int) : NBox (w.alloc (.cells #[.string s, .int .i64 k] 48)) w.heap.size s k := Row.new w 48 _
theorem zbox_new (w : World) (k s : Int) (A : Option Addr) (n c : Nat) : ZBox (w.alloc (.cells #[.int .i64 k, .int .i64 s, .slice A n c] 60)) w.heap.size k s A n c := Row.new w 60 _
theorem ibox_new (w : World) (A : Option Addr) (n c : Nat) (A' : Option Addr) (n' c' : Nat) : IBox (w.alloc (.cells #[.slice A n c, .slice A' n' c'] 25)) w.heap.size A n c A' n' c' := Row.new w 25 _
theorem IBox.put {w : World} {b : Nat} {A : Option Addr} {n c : Nat} {A' : Option Addr} {n' c' : Nat} (h : IBox w b A n c A' n' c') (B : Option Addr) (m d : Nat) (B' : Option Addr) (m' d' : Nat) : IBox ((w.setCell ⟨b, 0, none⟩ (.slice B m d)).setCell ⟨b, 1, none⟩ (.slice B' m' d')) b B m d B' m' d' := by
  have := (Row.setv h 0 (.slice B m d)).setv 1 (.slice B' m' d')
  exact this

/-- An image that is read. -/
structure Im (w : World) (A : Option Addr) (n c : Nat) (A' : Option Addr) (n' c' : Nat) (N : List Nm) (Z : List Nz) : Prop where
  names : Nms w A n c N
  nodes : Nds w A' n' c' Z
  exts : ∀ z ∈ Z, Exts w z.A z.n z.c z.L
  str : ∀ x ∈ N, x.name.size ≤ maxLen
theorem Im.on {w w' : World} {A : Option Addr} {n c : Nat} {A' : Option Addr} {n' c' : Nat} {N : List Nm} {Z : List Nz} (h : Im w A n c A' n' c' N Z) (hb : Below w.heap.size w w') : Im w' A n c A' n' c' N Z :=
  ⟨h.names.on hb, h.nodes.on hb, fun z hz => (h.exts z hz).on hb, h.str⟩
theorem im_nil (w : World) : Im w none 0 0 none 0 0 [] [] := ⟨sl_nil w, sl_nil w, by simp, by simp⟩
def ig (N : List Nm) (Z : List Nz) : Ig := ⟨N, Z.map Nz.d⟩
theorem map_d_get (Z : List Nz) (j : Nat) (hj : j < Z.length) : (Z.map Nz.d).getD j default = (Z.getD j default).d := by
  rw [List.getD_eq_getElem?_getD, List.getD_eq_getElem?_getD, List.getElem?_map, List.getElem?_eq_getElem hj]; rfl
/-- The blocks that may change: the rows of names and of files. -/
def S2 (A A' : Option Addr) (d : Nat) : Prop := A = some ⟨d, 0, none⟩ ∨ A' = some ⟨d, 0, none⟩
/-- An image of one's own. -/
structure Img (B : Nat) (w : World) (A : Option Addr) (c : Nat) (A' : Option Addr) (c' : Nat) (N : List Nm) (Z : List Nz) : Prop where
  names : OwnS elN B w (.slice A N.length c) N
  nodes : OwnS elZ B w (.slice A' Z.length c') Z
  exts : ∀ z ∈ Z, Exts w z.A z.n z.c z.L
  apart : ∀ z ∈ Z, 0 < z.n → ∀ g o, z.A = some ⟨g, o, none⟩ → ¬ S2 A A' g
  str : ∀ x ∈ N, x.name.size ≤ maxLen
theorem OwnS.addr {α : Type} {E : El α} {B : Nat} {w : World} {A : Option Addr} {n c : Nat} {L : List α} (h : OwnS E B w (.slice A n c) L) : A = none ∨ ∃ g, A = some ⟨g, 0, none⟩ ∧ B ≤ g ∧ g < w.heap.size := by
  obtain ⟨_, ⟨h0, _⟩ | ⟨g, cur, he, hB, hg, _⟩⟩ := h.open
  · exact .inl h0
  · exact .inr ⟨g, he, hB, hg.lt⟩
theorem OwnS.sl' {α : Type} [Inhabited α] {E : El α} {B : Nat} {w : World} {A : Option Addr} {n c : Nat} {L : List α} (h : OwnS E B w (.slice A n c) L) : Sl E w A n c L := by
  obtain ⟨A2, c2, he, hs, _⟩ := h.sl
  injection he with e1 e2 e3
  subst e1 e2 e3
  exact hs
theorem Img.im {B : Nat} {w : World} {A : Option Addr} {c : Nat} {A' : Option Addr} {c' : Nat} {N : List Nm} {Z : List Nz} (h : Img B w A c A' c' N Z) : Im w A N.length c A' Z.length c' N Z :=
  ⟨h.names.sl', h.nodes.sl', h.exts, h.str⟩
theorem Img.on {B : Nat} {w w' : World} {A : Option Addr} {c : Nat} {A' : Option Addr} {c' : Nat} {N : List Nm} {Z : List Nz} (h : Img B w A c A' c' N Z) (hb : Below w.heap.size w w') : Img B w' A c A' c' N Z :=
  ⟨h.names.on hb, h.nodes.on hb, fun z hz => (h.exts z hz).on hb, h.apart, h.str⟩
theorem Img.mono {B B' : Nat} {w : World} {A : Option Addr} {c : Nat} {A' : Option Addr} {c' : Nat} {N : List Nm} {Z : List Nz} (h : Img B w A c A' c' N Z) (hB : B' ≤ B) : Img B' w A c A' c' N Z :=
  ⟨h.names.mono hB, h.nodes.mono hB, h.exts, h.apart, h.str⟩
theorem Img.lt {B : Nat} {w : World} {A : Option Addr} {c : Nat} {A' : Option Addr} {c' : Nat} {N : List Nm} {Z : List Nz} (h : Img B w A c A' c' N Z) {d : Nat} (hd : S2 A A' d) : B ≤ d ∧ d < w.heap.size := by
  rcases hd with hd | hd
  · rcases h.names.addr with h0 | ⟨g, he, h1, h2⟩
    · rw [h0] at hd; cases hd
    · rw [he] at hd; injection hd with hd; injection hd with hd; subst hd; exact ⟨h1, h2⟩
  · rcases h.nodes.addr with h0 | ⟨g, he, h1, h2⟩
    · rw [h0] at hd; cases hd
    · rw [he] at hd; injection hd with hd; injection hd with hd; subst hd; exact ⟨h1, h2⟩
/-- The rows lie apart from a block of another type. -/
theorem Img.ne {B : Nat} {w : World} {A : Option Addr} {c : Nat} {A' : Option Addr} {c' : Nat} {N : List Nm} {Z : List Nz} (h : Img B w A c A' c' N Z) {b : Nat} {t : TypeId} {cs : Array Value} (hr : Row w b t cs) (h1 : t ≠ 48) (h2 : t ≠ 60) : ¬ S2 A A' b := by
  rintro (hd | hd)
  · exact h.names.ne hr h1 b 0 hd rfl
  · exact h.nodes.ne hr h2 b 0 hd rfl
/-- .. names apart from files. -/
theorem Img.two {B : Nat} {w : World} {A : Option Addr} {c : Nat} {A' : Option Addr} {c' : Nat} {N : List Nm} {Z : List Nz} (h : Img B w A c A' c' N Z) {g : Nat} (h1 : A = some ⟨g, 0, none⟩) : A' ≠ some ⟨g, 0, none⟩ := by
  intro h2
  subst h1
  obtain ⟨_, ⟨h0, _⟩ | ⟨g', cur, he, _, hg, _⟩⟩ := h.names.open
  · cases h0
  · injection he with he; injection he with he; subst he
    exact h.nodes.ne hg (by decide) g 0 h2 rfl
/-- Another image of one's own is made of one: which blocks changed, which are new. -/
structure Next (B : Nat) (w w' : World) (A A' : Option Addr) (D : Option Addr) (d : Nat) (D' : Option Addr) (d' : Nat) (N : List Nm) (Z : List Nz) : Prop where
  img : Img B w' D d D' d' N Z
  only : Only (S2 A A') w w'
  src : ∀ g, S2 D D' g → S2 A A' g ∨ w.heap.size ≤ g
theorem Next.self {B : Nat} {w w' : World} {A : Option Addr} {c : Nat} {A' : Option Addr} {c' : Nat} {N : List Nm} {Z : List Nz} (h : Img B w A c A' c' N Z) (hb : Below w.heap.size w w') : Next B w w' A A' A c A' c' N Z :=
  ⟨h.on hb, Only.of_below hb, fun _ hg => .inl hg⟩
theorem Next.pre {B : Nat} {v w w' : World} {A A' D : Option Addr} {d : Nat} {D' : Option Addr} {d' : Nat} {N : List Nm} {Z : List Nz} (h : Next B w w' A A' D d D' d' N Z) (hb : Below v.heap.size v w) : Next B v w' A A' D d D' d' N Z :=
  ⟨h.img, (Only.of_below (S := S2 A A') hb).trans h.only (fun _ h _ => h), fun g hg => (h.src g hg).imp id (fun h => Nat.le_trans hb.size h)⟩
theorem Next.post {B : Nat} {w w' v : World} {A A' D : Option Addr} {d : Nat} {D' : Option Addr} {d' : Nat} {N : List Nm} {Z : List Nz} (h : Next B w w' A A' D d D' d' N Z) (hb : Below w'.heap.size w' v) : Next B w v A A' D d D' d' N Z :=
  ⟨h.img.on hb, h.only.trans (Only.of_below (S := fun _ => False) hb) (fun _ h => h.elim), h.src⟩
theorem Next.trans {B : Nat} {w w' w2 : World} {A A' D : Option Addr} {d : Nat} {D' : Option Addr} {d' : Nat} {N : List Nm} {Z : List Nz} {F : Option Addr} {f : Nat} {F' : Option Addr} {f' : Nat} {M : List Nm} {Y : List Nz} (h : Next B w w' A A' D d D' d' N Z) (k : Next B w' w2 D D' F f F' f' M Y) : Next B w w2 A A' F f F' f' M Y :=
  ⟨k.img, h.only.trans k.only (fun g hg hl => (h.src g hg).elim id (fun h => absurd hl (by omega))), fun g hg => (k.src g hg).elim (h.src g) (fun hl => .inr (Nat.le_trans h.only.size hl))⟩
theorem Next.below {B : Nat} {w w' : World} {A : Option Addr} {c : Nat} {A' : Option Addr} {c' : Nat} {N0 : List Nm} {Z0 : List Nz} {D : Option Addr} {d : Nat} {D' : Option Addr} {d' : Nat} {N : List Nm} {Z : List Nz} (h : Next B w w' A A' D d D' d' N Z) (h0 : Img B w A c A' c' N0 Z0) (hB : B ≤ w.heap.size) : Below B w w' :=
  h.only.below hB (fun _ hd => (h0.lt hd).1)
theorem Row.only {S : Nat → Prop} {w w' : World} {b : Nat} {t : TypeId} {cs : Array Value} (h : Row w b t cs) (o : Only S w w') (hn : ¬ S b) : Row w' b t cs := (o.block b h.lt hn).trans h
theorem Exts.lt {w : World} {g o n c : Nat} {L : List Ex} (h : Exts w (some ⟨g, o, none⟩) n c L) (hn : 0 < n) : g < w.heap.size := by
  obtain ⟨b, p, he, hl, _⟩ := h.cells hn
  injection he with he; injection he with e1 e2; subst e1; exact hl
/-- Other names. -/
theorem Img.setN {B : Nat} {w w' : World} {A : Option Addr} {c : Nat} {A' : Option Addr} {c' : Nat} {N : List Nm} {Z : List Nz} (h : Img B w A c A' c' N Z) {D : Option Addr} {m d : Nat} {R : List Nm} (q : OwnS elN B w' (.slice D m d) R) (hm : R.length = m) (o : Only (fun d => A = some ⟨d, 0, none⟩) w w') (s : ∀ g, D = some ⟨g, 0, none⟩ → A = some ⟨g, 0, none⟩ ∨ w.heap.size ≤ g) (hs : ∀ x ∈ R, x.name.size ≤ maxLen) : Next B w w' A A' D d A' c' R Z := by
  refine ⟨⟨by rw [hm]; exact q, h.nodes.only o (fun g hg hA => h.two hA hg), fun z hz => (h.exts z hz).only o (fun g p he hn hA => h.apart z hz hn g p he (.inl hA)), fun z hz hn g p he hS => ?_, hs⟩, o.mono (fun d hd => .inl hd), fun g hg => ?_⟩
  · rcases hS with hS | hS
    · rcases s g hS with h1 | h1
      · exact h.apart z hz hn g p he (.inl h1)
      · have := h.exts z hz; rw [he] at this; have := this.lt hn; omega
    · exact h.apart z hz hn g p he (.inr hS)
  · rcases hg with hg | hg
    · exact (s g hg).imp .inl id
    · exact .inl (.inr hg)
/-- Other files. -/
theorem Img.setZ {B : Nat} {w w' : World} {A : Option Addr} {c : Nat} {A' : Option Addr} {c' : Nat} {N : List Nm} {Z : List Nz} (h : Img B w A c A' c' N Z) {D : Option Addr} {m d : Nat} {R : List Nz} (q : OwnS elZ B w' (.slice D m d) R) (hm : R.length = m) (o : Only (fun d => A' = some ⟨d, 0, none⟩) w w') (s : ∀ g, D = some ⟨g, 0, none⟩ → A' = some ⟨g, 0, none⟩ ∨ w.heap.size ≤ g) (hR : ∀ z ∈ R, z ∈ Z ∨ (z.n = 0 ∧ Exts w' z.A z.n z.c z.L)) : Next B w w' A A' A c D d N R := by
  refine ⟨⟨h.names.only o (fun g hg hA => h.two hg hA), by rw [hm]; exact q, fun z hz => ?_, fun z hz hn g p he hS => ?_, h.str⟩, o.mono (fun d hd => .inr hd), fun g hg => ?_⟩
  · rcases hR z hz with hz | hz
    · exact (h.exts z hz).only o (fun g p he hn hA => h.apart z hz hn g p he (.inr hA))
    · exact hz.2
  · rcases hR z hz with hz | hz
    · rcases hS with hS | hS
      · exact h.apart z hz hn g p he (.inl hS)
      · rcases s g hS with h1 | h1
        · exact h.apart z hz hn g p he (.inr h1)
        · have := h.exts z hz; rw [he] at this; have := this.lt hn; omega
    · omega
  · rcases hg with hg | hg
    · exact .inl (.inl hg)
    · exact (s g hg).imp .inr id
end Go.Proofs.Ytgaaieipeiekiaa

namespace Go.Proofs.Ytgaaieipeiekiaa
open Go.RowKit
set_option maxRecDepth 100000

/-- What the program tells of a kind of elements. -/
structure Ty {α : Type} (E : El α) (ts : TypeId) (z0 : α) (by_ : Nat) : Prop where
  sl : Try.prog.underlying ts = some (.slice E.t)
  info : (Try.prog.info? E.t).map (fun i => (i.zero, i.size, i.bytes)) = some (some (.agg (E.enc z0).toArray), E.k, by_)
  elem : Try.prog.elem ts = E.t
  le : by_ ≤ 1000
  kl : E.k ≤ 1000
def nm0 : Nm := ⟨⟨#[]⟩, 0⟩
def nz0 : Nz := ⟨0, 0, none, 0, 0, []⟩
theorem tyN : Ty elN 22 nm0 24 := ⟨Try.underlying22, by kernel_rfl, by kernel_rfl, by decide, by decide⟩
theorem tyZ : Ty elZ 23 nz0 40 := ⟨Try.underlying23, by kernel_rfl, by kernel_rfl, by decide, by decide⟩

def nv {α : Type} (E : El α) (e : α) : Value := .agg (E.enc e).toArray
section
variable {α : Type} {E : El α} {ts : TypeId} {z0 : α} {by_ : Nat}
theorem El.size (E : El α) (e : α) : (E.enc e).toArray.size = E.k := by rw [List.size_toArray, E.len]
theorem sl_one [Inhabited α] {w : World} {b : Nat} {e : α} (h : Row w b E.t (E.enc e).toArray) : Sl E w (some ⟨b, 0, none⟩) 1 1 [e] := by
  refine ⟨rfl, Nat.le_refl _, by unfold maxLen; omega, (fun h => by cases h), fun _ => ⟨b, 0, rfl, h.lt, fun j hj q v hv => ?_⟩⟩
  obtain rfl : j = 0 := by omega
  rw [show 0 + 0 * E.k + q = q by omega, h.at]
  simpa using hv
/-- append onto a row of one's own. -/
theorem run_joinE [Inhabited α] (T : Ty E ts z0 by_) {w : World} {B : Nat} {v : Value} {L : List α} (hown : OwnS E B w v L) {A : Option Addr} {n c : Nat} {M : List α} (hr : Sl E w A n c M) (hl : L.length + n ≤ 1000000) (hB : B ≤ w.heap.size) (ty : TypeId) :
    ∃ v' w', (Builtin.append_ #[ts, ts] ty #[v, .slice A n c]).run Try.prog w = .ok v' w' ∧ OwnS E B w' v' (L ++ M) ∧ Only (fun d => v.ownBlock = some d) w w' ∧ (∀ d, v'.ownBlock = some d → v.ownBlock = some d ∨ w.heap.size ≤ d) := by
  obtain ⟨i0, hi, hz0, hz1, hz2⟩ := info_parts T.info
  cases A with
  | none =>
    obtain ⟨rfl, rfl⟩ := hr.nil rfl
    obtain rfl : M = [] := List.eq_nil_of_length_eq_zero hr.len
    exact ⟨v, w, run_append_owned_none (P := Try.prog) (w := w) B ts ty E.t i0 E.k T.sl hi v L.length (E.cells L) hown.row, by rw [List.append_nil]; exact hown, Only.refl _ _, fun d hd => .inl hd⟩
  | some ad =>
    have hby := T.le
    obtain ⟨v', w', hrun, h1, h2, _, h4⟩ := run_append_own_at (P := Try.prog) (w := w) B ts ty E.t i0 _ E.k by_ T.sl hi hz0 hz1 hz2 (by show (E.enc z0).toArray.size = _; rw [E.size]) E.pos v L.length (E.cells L) hown.row ad n c (E.cells M) (by rw [E.cells_len M, hr.len]) (hr.src ad rfl) (E.cells_ones M) (by unfold maxLen; omega)
      (by have := Nat.mul_le_mul hl hby; omega) hB
    refine ⟨v', w', hrun, ⟨by rw [List.length_append, E.cells_append, hr.len]; exact h1⟩, ⟨h2.os, h2.tape, h2.output, h2.size, fun k hk hn => h2.block k hk (fun he => hn he.symm)⟩, fun d hd => ?_⟩
    rcases h4 with h4 | h4
    · rw [h4] at hd; exact .inl hd
    · rw [h4] at hd; injection hd with hd; exact .inr (Nat.le_of_eq hd)
variable {w : World} {ops : Array Oper} {rest : List Oper} {o : Oper} {a : Act} {Q : Exit → Act → World → Prop}
theorem st_catE [Inhabited α] (T : Ty E ts z0 by_) (hgd : o.guard = none) (s x : Operand) (ho : o.op = .call { callee := .builtin .append, args := #[s, x], argTypes := #[ts, ts] }) (B : Nat) (v : Value) (L : List α) (hs : a.eval s = v) (hown : OwnS E B w v L) (A : Option Addr) (n c : Nat) (M : List α) (hx : a.eval x = .slice A n c) (hr : Sl E w A n c M) (hl : L.length + n ≤ 1000000) (hB : B ≤ w.heap.size) (R : List α) (m : Nat) (hR : L ++ M = R) (hm : R.length = m)
    (h : ∀ A' c' w', OwnS E B w' (.slice A' m c') R → Only (fun d => v.ownBlock = some d) w w' → (∀ d, A' = some ⟨d, 0, none⟩ → v.ownBlock = some d ∨ w.heap.size ≤ d) → wpList Try.prog ops Q rest (a.put o.dst (.slice A' m c')) w') : wpList Try.prog ops Q (o :: rest) a w := by
  refine wpList_plain hgd fun K hK => ?_
  obtain ⟨v', w', hrun, q1, q2, q3⟩ := run_joinE T hown hr hl hB o.type
  rw [hR] at q1
  obtain ⟨A', c', hv, _⟩ := q1.sl
  rw [hm] at hv
  subst hv
  unfold Oper.wp
  simp [execOp, ho, resolve, invoke, builtin, hs, hx, hrun, Result.andThen]
  exact hK _ _ (h A' c' w' q1 q2 (fun d hd => q3 d (by rw [hd]; rfl)))
/-- []T{e}. -/
theorem fill_one (e : α) : Instr.fill (fun i => some (i * E.k, E.k)) ((Array.range (1 * E.k)).map ((Value.agg (E.enc z0).toArray).cells[· % (Value.agg (E.enc z0).toArray).cells.size]!)) [(0, nv E e)] = some (E.enc e).toArray := by
  simp only [Instr.fill]
  have hc : (nv E e).cells = (E.enc e).toArray := rfl
  rw [hc]
  have hs := E.size e
  rw [if_neg (by simp only [hs, Array.size_map, Array.size_range]; simp)]
  congr 1
  apply Array.ext_getElem?
  intro i
  rw [fold_set', hs]
  simp only [Array.size_map, Array.size_range]
  by_cases h : i < E.k
  · rw [if_pos (by omega)]; simp
  · rw [if_neg (by omega), Array.getElem?_eq_none (by simp; omega), Array.getElem?_eq_none (by rw [hs]; omega)]
theorem st_oneE (T : Ty E ts z0 by_) (hgd : o.guard = none) (x : Operand) (ho : o.op = .buildSlice ts 1 #[(0, x)]) (e : α) (hx : a.eval x = nv E e)
    (h : ∀ (b : Nat) (w1 : World), b = w.heap.size → Row w1 b E.t (E.enc e).toArray → Below w.heap.size w w1 → wpList Try.prog ops Q rest (a.put o.dst (.slice (some ⟨b, 0, none⟩) 1 1)) w1) :
    wpList Try.prog ops Q (o :: rest) a w := by
  obtain ⟨i0, hi, hz0, hz1, hz2⟩ := info_parts T.info
  have hby := T.le
  refine wpList_plain hgd fun K hK => ?_
  unfold Oper.wp execOp
  have hrun : (Instr.buildSlice ts 1 #[(0, nv E e)]).run Try.prog w = .ok (.slice (some ⟨w.heap.size, 0, none⟩) 1 1) (w.alloc (.cells (E.enc e).toArray E.t)) := by
    refine run_buildSlice w ts E.t 1 #[(0, nv E e)] (E.enc e).toArray i0 _ T.sl hi hz0 (by have := T.kl; rw [hz1]; omega) (by have := E.pos; rw [hz1]; omega) ?_
    rw [hz1]
    exact fill_one e
  simp [ho, hx, hrun, Result.andThen]
  exact hK _ _ (h _ _ rfl (Row.new w E.t _) ((Below.refl _ _).alloc (Nat.le_refl _) _))

/-- copy into a row that is known whole. -/
theorem run_copyE (T : Ty E ts z0 by_) (ty : TypeId) (g off dLen dCap : Nat) (ad : Addr) (sLen sCap : Nat) (cur : Array Value) (hg : Row w g E.t cur) (M : List α) (hM : Nat.min sLen dLen = M.length) (hsrc : ∀ j v, (E.cells M)[j]? = some v → w.cell? (ad.add j) = some v) (hfit : off + M.length * E.k ≤ cur.size) :
    ∃ w1, (Builtin.copy_ #[ts, ts] ty #[.slice (some ⟨g, off, none⟩) dLen dCap, .slice (some ad) sLen sCap]).run Try.prog w = .ok (goInt M.length) w1 ∧ Row w1 g E.t (splice cur.toList off (E.cells M)).toArray ∧ Only (fun d => d = g) w w1 := by
  obtain ⟨i0, hi, hz0, hz1, hz2⟩ := info_parts T.info
  have hln := E.cells_len M
  have hl := run_loadCells_list (P := Try.prog) w ad (E.cells M) hsrc
  have hst := run_storeCells_at Try.prog g off E.t (E.cells M) 0 cur w hg (by rw [hln]; simpa using hfit) (E.cells_ones M)
  rw [hln] at hl
  refine ⟨_, ?_, setRow_heap w g cur _ E.t (0, 0) hg, ⟨rfl, rfl, rfl, by simp [World.setRow], fun k _ hn => setRow_other w g k _ hn⟩⟩
  simp only [Nat.add_zero] at hst
  simp [Builtin.copy_, run_underlying T.sl, Builtin.lenOf, Builtin.firstCells, sizeOf, typeInfo, hi, hz1, hM, hl, hst, splice]
theorem st_copyE (T : Ty E ts z0 by_) (hgd : o.guard = none) (d s : Operand) (ho : o.op = .call { callee := .builtin .copy, args := #[d, s], argTypes := #[ts, ts] }) (g off dLen dCap : Nat) (ad : Addr) (sLen sCap : Nat) (hd : a.eval d = .slice (some ⟨g, off, none⟩) dLen dCap) (hs : a.eval s = .slice (some ad) sLen sCap) (cur : Array Value) (hg : Row w g E.t cur) (M : List α) (hM : Nat.min sLen dLen = M.length) (hsrc : ∀ j v, (E.cells M)[j]? = some v → w.cell? (ad.add j) = some v) (hfit : off + M.length * E.k ≤ cur.size)
    (h : ∀ w1, Row w1 g E.t (splice cur.toList off (E.cells M)).toArray → Only (fun d => d = g) w w1 → wpList Try.prog ops Q rest (a.put o.dst (goInt M.length)) w1) : wpList Try.prog ops Q (o :: rest) a w := by
  refine wpList_plain hgd fun K hK => ?_
  obtain ⟨w1, hrun, h1, h2⟩ := run_copyE T o.type g off dLen dCap ad sLen sCap cur hg M hM hsrc hfit
  unfold Oper.wp
  simp [execOp, ho, resolve, invoke, builtin, hd, hs, hrun, Result.andThen]
  exact hK _ _ (h w1 h1 h2)
theorem step_copyE {K : Act → World → Prop} {X : Prop} (T : Ty E ts z0 by_) (hgd : o.guard = none) (d s : Operand) (ho : o.op = .call { callee := .builtin .copy, args := #[d, s], argTypes := #[ts, ts] }) (g off dLen dCap : Nat) (ad : Addr) (sLen sCap : Nat) (hd : a.eval d = .slice (some ⟨g, off, none⟩) dLen dCap) (hs : a.eval s = .slice (some ad) sLen sCap) (cur : Array Value) (hg : Row w g E.t cur) (M : List α) (hM : Nat.min sLen dLen = M.length) (hsrc : ∀ j v, (E.cells M)[j]? = some v → w.cell? (ad.add j) = some v) (hfit : off + M.length * E.k ≤ cur.size)
    (h : ∀ w1, Row w1 g E.t (splice cur.toList off (E.cells M)).toArray → Only (fun d => d = g) w w1 → K (a.put o.dst (goInt M.length)) w1) : if Region.wanted o (yielded ops a.tmps) = true then Oper.wp Try.prog o a w K Q else X := by
  have hw : Region.wanted o (yielded ops a.tmps) = true := by simp [Region.wanted, hgd]
  rw [if_pos hw]
  obtain ⟨w1, hrun, h1, h2⟩ := run_copyE T o.type g off dLen dCap ad sLen sCap cur hg M hM hsrc hfit
  unfold Oper.wp
  simp [execOp, ho, resolve, invoke, builtin, hd, hs, hrun, Result.andThen]
  exact h w1 h1 h2
/-- append within the room of a row that is known whole, of a piece of it, too. -/
theorem st_fitE (T : Ty E ts z0 by_) (hgd : o.guard = none) (s x : Operand) (ho : o.op = .call { callee := .builtin .append, args := #[s, x], argTypes := #[ts, ts] }) (g i c : Nat) (hs : a.eval s = .slice (some ⟨g, 0, none⟩) i c) (A : Option Addr) (n c' : Nat) (hx : a.eval x = .slice A n c') (cur : Array Value) (hg : Row w g E.t cur) (M : List α) (hM : M.length = n) (hA : 0 < n → ∃ ad, A = some ad ∧ ∀ j v, (E.cells M)[j]? = some v → w.cell? (ad.add j) = some v) (hroom : i + n ≤ c) (hfit : c * E.k ≤ cur.size) (q : Nat) (hq : i + n = q)
    (h : ∀ w1, Row w1 g E.t (splice cur.toList (i * E.k) (E.cells M)).toArray → Only (fun d => d = g) w w1 → wpList Try.prog ops Q rest (a.put o.dst (.slice (some ⟨g, 0, none⟩) q c)) w1) : wpList Try.prog ops Q (o :: rest) a w := by
  obtain ⟨i0, hi, hz0, hz1, hz2⟩ := info_parts T.info
  refine wpList_plain hgd fun K hK => ?_
  subst hq
  have hln := E.cells_len M
  have hk : (i + n) * E.k ≤ c * E.k := Nat.mul_le_mul_right _ hroom
  rw [Nat.add_mul] at hk
  have hst := run_storeCells_at Try.prog g (i * E.k) E.t (E.cells M) 0 cur w hg (by rw [hln, hM]; omega) (E.cells_ones M)
  simp only [Nat.add_zero] at hst
  have hf : (Builtin.firstCells E.k n (.slice A n c')).run Try.prog w = .ok (E.cells M).toArray w := by
    rcases Nat.eq_zero_or_pos n with h0 | h0
    · subst h0
      obtain rfl : M = [] := List.eq_nil_of_length_eq_zero hM
      cases A with
      | none => exact run_firstCells_none w E.k 0 0 c'
      | some ad => exact run_firstCells_some w E.k 0 ad 0 c' [] (by simp) (fun j v h => by cases h)
    · obtain ⟨ad, rfl, hsrc⟩ := hA h0
      exact run_firstCells_some w E.k n ad n c' (E.cells M) (by rw [hln, hM]) hsrc
  have hrun : (Builtin.append_ #[ts, ts] o.type #[.slice (some ⟨g, 0, none⟩) i c, .slice A n c']).run Try.prog w = .ok (.slice (some ⟨g, 0, none⟩) (i + n) c) (w.setRow g (splice cur.toList (i * E.k) (E.cells M)).toArray) := by
    simp [Builtin.append_, run_underlying T.sl, Builtin.lenOf, sizeOf, typeInfo, hi, hz1, hroom, hf, Addr.add_lit, hst, splice]
  unfold Oper.wp
  simp [execOp, ho, resolve, invoke, builtin, hs, hx, hrun, Result.andThen]
  exact hK _ _ (h _ (setRow_heap w g cur _ E.t (0, 0) hg) ⟨rfl, rfl, rfl, by simp [World.setRow], fun k _ hn => setRow_other w g k _ hn⟩)
/-- clear of a piece of such a row. -/
theorem st_clearE (T : Ty E ts z0 by_) (hgd : o.guard = none) (x : Operand) (ho : o.op = .call { callee := .builtin .clear, args := #[x], argTypes := #[ts] }) (g off n c : Nat) (hx : a.eval x = .slice (some ⟨g, off, none⟩) n c) (hn : 0 < n) (cur : Array Value) (hg : Row w g E.t cur) (hfit : off + n * E.k ≤ cur.size)
    (h : ∀ w1, Row w1 g E.t (splice cur.toList off (E.cells (List.replicate n z0))).toArray → Only (fun d => d = g) w w1 → wpList Try.prog ops Q rest (a.put o.dst (.tuple #[])) w1) : wpList Try.prog ops Q (o :: rest) a w := by
  obtain ⟨i0, hi, hz0, hz1, hz2⟩ := info_parts T.info
  refine wpList_plain hgd fun K hK => ?_
  have hln := E.cells_len (List.replicate n z0)
  rw [List.length_replicate] at hln
  have hzc : (Builtin.zeroCells (E.enc z0).toArray n).toList = E.cells (List.replicate n z0) := by
    apply List.ext_getElem?
    intro i
    have hp := E.pos
    have hsz := E.size z0
    by_cases hi : i < n * E.k
    · have h1 : i / E.k < n := Nat.div_lt_of_lt_mul (by rw [Nat.mul_comm]; exact hi)
      have h2 := Nat.div_add_mod i E.k
      rw [Nat.mul_comm] at h2
      have h3 := Nat.mod_lt i hp
      have h4 : (E.cells (List.replicate n z0))[i]? = (E.enc z0)[i % E.k]? := by
        have := congrArg (fun L : List Value => L[i]?) (rfl : E.cells (List.replicate n z0) = E.cells (List.replicate n z0))
        rw [← h2]
        clear this
        have : ∀ (m q r : Nat), q < m → r < E.k → (E.cells (List.replicate m z0))[q * E.k + r]? = (E.enc z0)[r]? := by
          intro m
          induction m with
          | zero => intro q r hq; omega
          | succ m ih =>
            intro q r hq hr
            rw [List.replicate_succ, E.cells_cons]
            cases q with
            | zero => rw [List.getElem?_append_left (by rw [E.len]; omega)]; simp
            | succ q => rw [List.getElem?_append_right (by rw [E.len, Nat.succ_mul]; omega), E.len, show (q + 1) * E.k + r - E.k = q * E.k + r by rw [Nat.succ_mul]; omega]; exact ih q r (by omega) hr
        have := this n (i / E.k) (i % E.k) h1 h3
        rw [h2] at this ⊢
        exact this
      rw [h4]
      have h5 : i % E.k < (E.enc z0).length := by rw [E.len]; exact h3
      simp [Builtin.zeroCells, E.len, hi, h3]
    · rw [List.getElem?_eq_none (by simp [Builtin.zeroCells, E.len]; omega), List.getElem?_eq_none (by omega)]
  have hst := run_storeCells_at Try.prog g off E.t (E.cells (List.replicate n z0)) 0 cur w hg (by rw [hln]; simpa using hfit) (E.cells_ones _)
  simp only [Nat.add_zero] at hst
  have hzv : ∀ w', (zeroValue E.t).run Try.prog w' = .ok (.agg (E.enc z0).toArray) w' := fun w' => by simp [zeroValue, typeInfo, hi, hz0]
  obtain ⟨m, rfl⟩ : ∃ m, n = m + 1 := ⟨n - 1, by omega⟩
  have hrun : (Builtin.clear_ #[ts] o.type #[.slice (some ⟨g, off, none⟩) (m + 1) c]).run Try.prog w = .ok (.tuple #[]) (w.setRow g (splice cur.toList off (E.cells (List.replicate (m + 1) z0))).toArray) := by
    simp [Builtin.clear_, run_underlying T.sl, hzv, Value.cells, hzc, hst, splice]
  unfold Oper.wp
  simp [execOp, ho, resolve, invoke, builtin, hx, hrun, Result.andThen]
  exact hK _ _ (h _ (setRow_heap w g cur _ E.t (0, 0) hg) ⟨rfl, rfl, rfl, by simp [World.setRow], fun k _ hn => setRow_other w g k _ hn⟩)
/-- append(s[:i], make([]T, m)...) without room: a new row. -/
theorem st_zerosE (T : Ty E ts z0 by_) (hgd : o.guard = none) (s x : Operand) (ho : o.op = .call { callee := .builtin .append, args := #[s, x], argTypes := #[ts, 3] }) (ad : Addr) (i c : Nat) (hs : a.eval s = .slice (some ad) i c) (m : Nat) (C : Int) (hx : a.eval x = .int .i64 C) (hC : C = (m : Int)) (hm : 0 < m) (M : List α) (hM : M.length = i) (hsrc : ∀ j v, (E.cells M)[j]? = some v → w.cell? (ad.add j) = some v) (hroom : c < i + m) (hsm : i + m ≤ 1000000) (q : Nat) (hq : i + m = q)
    (h : ∀ g G cur w1, g = w.heap.size → q ≤ G → G ≤ maxLen → cur.size = G * E.k → cur.toList.take (i * E.k) = E.cells M → Row w1 g E.t cur → Below w.heap.size w w1 → wpList Try.prog ops Q rest (a.put o.dst (.slice (some ⟨g, 0, none⟩) q G)) w1) : wpList Try.prog ops Q (o :: rest) a w := by
  obtain ⟨i0, hi, hz0, hz1, hz2⟩ := info_parts T.info
  have hby := T.le
  have hp := E.pos
  have hln := E.cells_len M
  subst hC
  subst hq
  have hb1 : (i + m) * by_ ≤ 1000000 * 1000 := Nat.mul_le_mul hsm hby
  have hb2 : m * by_ ≤ 1000000 * 1000 := Nat.mul_le_mul (by omega) hby
  refine Lib.wpList_append_run (P := Try.prog) w hgd s x ts 3 ho _ _ hs hx _ _ (Lib.run_append_grow_zeros (P := Try.prog) w ts 3 o.type E.t i0 _ .i64 .i64 T.sl Try.underlying3 hi hz0 (some ad) i c (E.cells M) ?_ m hm (by rw [hz1]; exact hp) hroom (by omega) (by rw [hz2]; omega) (by rw [hz2]; exact growslice_fits hroom (by omega))) ?_
  · rw [hz1]
    exact run_firstCells_some w.drew E.k i ad i c (E.cells M) (by rw [hln, hM]) (fun j v hj => hsrc j v hj)
  · have hge := grownCap_ge w (i + m) c E.t
    refine h w.heap.size _ _ _ rfl hge ?_ ?_ ?_ (heap_alloc_new w.drew _) ⟨rfl, rfl, rfl, by simp, fun k hk => heap_alloc_old w.drew _ hk⟩
    · exact grownCap_le_maxLen w (i + m) c E.t (by unfold maxLen; omega)
    · simp only [Array.size_append, List.size_toArray, size_zeroCells, hln, hM, Value.cells, E.size]
      rw [← Nat.add_mul, ← Nat.add_mul]
      congr 1
      omega
    · rw [Array.append_assoc, Array.toList_append, List.take_append_of_le_length (by simp [hln, hM])]
      rw [List.take_of_length_le (by simp [hln, hM])]
end
end Go.Proofs.Ytgaaieipeiekiaa
