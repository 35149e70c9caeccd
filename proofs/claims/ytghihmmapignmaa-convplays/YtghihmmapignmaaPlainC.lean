/- Conversions, one behind the other, as lists. No Go of the program. -/
import Derived.Test.YtghihmmapignmaaTabK
import Derived.Test.YtghihmmapignmaaPlainS
namespace Go.Proofs.Ytghihmmapignmaa
open Go.RowKit

/-- Which conversions. -/
structure Cf where
  sw : Bool
  bl : Bool
  ub : Bool
  lc : Bool
  uc : Bool
  ac : Bool
  eb : Bool
  ib : Bool
  cb : Int
deriving Inhabited

def Cf.cells (x : Cf) : Array Value := #[.bool x.sw, .bool x.bl, .bool x.ub, .bool x.lc, .bool x.uc, .bool x.ac, .bool x.eb, .bool x.ib, .int .i64 x.cb]
def Cf.val (x : Cf) : Value := .agg x.cells
def Cf.zero : Cf := ⟨false, false, false, false, false, false, false, false, 0⟩
def bit (b : Bool) : Nat := bif b then 1 else 0
theorem bit_le (b : Bool) : bit b ≤ 1 := by cases b <;> decide
def Cf.codes (x : Cf) : Nat := bit x.ac + bit x.eb + bit x.ib
def Cf.blocks (x : Cf) : Bool := x.bl || x.eb || x.ib
def Cf.unblocks (x : Cf) : Bool := x.ub || x.ac
def Cf.least (x : Cf) : Int := bif (x.blocks || x.unblocks) then 1 else 0
def Cf.may (x : Cf) : Bool := !(decide (1 < x.codes) || (x.lc && x.uc) || (x.blocks && x.unblocks)) && (decide (x.least ≤ x.cb) && decide (x.cb ≤ 4096))
/-- What may not be counts as none. -/
def Cf.eff (x : Cf) : Cf := bif x.may then x else Cf.zero
theorem zero_may : Cf.zero.may = true := by decide
theorem eff_may (x : Cf) : x.eff.may = true := by
  unfold Cf.eff
  cases h : x.may
  · exact zero_may
  · exact h
theorem eff_of {x : Cf} (h : x.may = true) : x.eff = x := by unfold Cf.eff; rw [h]; rfl
theorem eff_not {x : Cf} (h : x.may = false) : x.eff = Cf.zero := by unfold Cf.eff; rw [h]; rfl

/-- What it says when they may be. -/
structure Cf.Fit (x : Cf) : Prop where
  one : x.blocks = true → x.unblocks = false
  pos : x.blocks = true ∨ x.unblocks = true → 1 ≤ x.cb
  nn : 0 ≤ x.cb
  le : x.cb ≤ 4096
theorem Cf.fit {x : Cf} (h : x.may = true) : x.Fit := by
  unfold Cf.may at h
  simp only [Bool.and_eq_true, Bool.not_eq_true', Bool.or_eq_false_iff, decide_eq_true_eq, decide_eq_false_iff_not] at h
  obtain ⟨⟨_, h1⟩, h2, h3⟩ := h
  refine ⟨fun hb => ?_, fun hb => ?_, ?_, h3⟩
  · rw [hb] at h1; simpa using h1
  · unfold Cf.least at h2
    rcases hb with hb | hb <;> rw [hb] at h2 <;> simpa using h2
  · unfold Cf.least at h2
    cases hx : (x.blocks || x.unblocks) <;> rw [hx] at h2 <;> simp at h2 <;> omega

/-- The tables ahead of the records, and behind them. -/
def Cf.ah (x : Cf) : List (List Int) := (bif x.ac then [tbA] else []) ++ (bif x.lc then [lower] else []) ++ (bif x.uc then [upper] else [])
def Cf.be (x : Cf) : List (List Int) := (bif x.eb then [tbE] else []) ++ (bif x.ib then [tbI] else [])
def Cf.t1 (x : Cf) : List Int := thenL x.ah ids
def Cf.t2 (x : Cf) : List Int := thenL x.be ids
theorem good_then : ∀ (L : List (List Int)) (t : List Int), (∀ y ∈ L, Good y) → Good t → Good (thenL L t)
  | [], _, _, h => h
  | y :: L, t, hL, h => good_then L _ (fun z hz => hL z (by simp [hz])) (h.behind (hL y (by simp)))
theorem mem_bif {b : Bool} {t y : List Int} (h : y ∈ (bif b then [t] else [])) : y = t := by
  cases b
  · cases h
  · simpa using h
theorem good_ah (x : Cf) : ∀ y ∈ x.ah, Good y := by
  intro y hy
  unfold Cf.ah at hy
  rcases List.mem_append.1 hy with hy | hy
  · rcases List.mem_append.1 hy with hy | hy
    · rw [mem_bif hy]; exact good_asc
    · rw [mem_bif hy]; exact good_lower
  · rw [mem_bif hy]; exact good_upper
theorem good_be (x : Cf) : ∀ y ∈ x.be, Good y := by
  intro y hy
  unfold Cf.be at hy
  rcases List.mem_append.1 hy with hy | hy
  · rw [mem_bif hy]; exact good_tb false
  · rw [mem_bif hy]; exact good_tb true
theorem good_t1 (x : Cf) : Good x.t1 := good_then _ _ (good_ah x) good_ids
theorem good_t2 (x : Cf) : Good x.t2 := good_then _ _ (good_be x) good_ids

theorem map_behind {t nx zs : List Int} (ht : t.length = 256) (hz : Are zs) : mapL (behind t nx) zs = mapL nx (mapL t zs) := by
  rw [mapL, mapL, mapL, List.map_map]
  refine List.map_congr_left (fun z hm => ?_)
  have hb := hz z hm
  have hk : z.toNat < t.length := by omega
  simp only [Function.comp, behind, List.getD_eq_getElem?_getD, List.getElem?_map, List.getElem?_eq_getElem hk, Option.map_some, Option.getD_some]
/-- One table behind the other, byte by byte. -/
theorem map_then : ∀ (L : List (List Int)) (t zs : List Int), (∀ y ∈ L, Good y) → Good t → Are zs → mapL (thenL L t) zs = L.foldl (fun a y => mapL y a) (mapL t zs)
  | [], _, _, _, _, _ => rfl
  | y :: L, t, zs, hL, ht, hz => by
    show mapL (thenL L (behind t y)) zs = _
    rw [map_then L _ zs (fun z h => hL z (by simp [h])) (ht.behind (hL y (by simp))) hz, map_behind ht.1 hz]
    rfl
theorem map_t1 (x : Cf) {zs : List Int} (hz : Are zs) : mapL x.t1 zs = x.ah.foldl (fun a y => mapL y a) zs := by
  rw [Cf.t1, map_then _ _ _ (good_ah x) good_ids hz, map_ids hz]
theorem map_t2 (x : Cf) {zs : List Int} (hz : Are zs) : mapL x.t2 zs = x.be.foldl (fun a y => mapL y a) zs := by
  rw [Cf.t2, map_then _ _ _ (good_be x) good_ids hz, map_ids hz]
theorem map_app (t a b : List Int) : mapL t (a ++ b) = mapL t a ++ mapL t b := List.map_append
theorem map_len (t a : List Int) : (mapL t a).length = a.length := List.length_map _

/-- Records, or lines, or neither. -/
def Cf.K (x : Cf) : Nat := kOf x.cb
def Cf.rOut (x : Cf) (l zs : List Int) : List Int := bif x.blocks then pOut x.K l zs else bif x.unblocks then uOut x.K l zs else zs
def Cf.rRest (x : Cf) (l zs : List Int) : List Int := bif x.blocks then pLine l zs else bif x.unblocks then uRest x.K l zs else []
def Cf.rCut (x : Cf) (l zs : List Int) : Nat := bif x.blocks then pCut x.K l zs else 0
def Cf.rEnd (x : Cf) (l : List Int) : List Int := bif x.blocks then pEnd x.K l else bif x.unblocks then uEnd l else []
def Cf.rOver (x : Cf) (l : List Int) : Nat := bif x.blocks then over x.K l else 0
/-- What may be held. -/
def Cf.Ok (x : Cf) (l : List Int) : Prop := bif x.blocks then True else bif x.unblocks then l.length < x.K else l = []
theorem ok_nil (x : Cf) : x.Ok [] := by
  unfold Cf.Ok
  cases x.blocks <;> cases x.unblocks <;> simp
  have := (kOf_pos x.cb).1
  exact this
theorem ok_rest (x : Cf) {l : List Int} (zs : List Int) (h : x.Ok l) : x.Ok (x.rRest l zs) := by
  unfold Cf.Ok Cf.rRest at *
  cases hb : x.blocks <;> cases hu : x.unblocks <;> simp [hb, hu] at *
  exact uRest_lt x.K (kOf_pos x.cb).1 zs l h
theorem rOut_app (x : Cf) (l a b : List Int) : x.rOut l (a ++ b) = x.rOut l a ++ x.rOut (x.rRest l a) b := by
  unfold Cf.rOut Cf.rRest
  cases x.blocks <;> cases x.unblocks <;> simp [pOut_app, uOut_app]
theorem rRest_app (x : Cf) (l a b : List Int) : x.rRest l (a ++ b) = x.rRest (x.rRest l a) b := by
  unfold Cf.rRest
  cases x.blocks <;> cases x.unblocks <;> simp [pLine_app, uRest_app]
theorem rCut_app (x : Cf) (l a b : List Int) : x.rCut l (a ++ b) = x.rCut l a + x.rCut (x.rRest l a) b := by
  unfold Cf.rCut Cf.rRest
  cases x.blocks <;> cases x.unblocks <;> simp [pCut_app]

theorem are_rcd {K : Nat} {l : List Int} (h : Are l) : Are (rcd K l) := (h.take K).append (fun z hz => by rw [List.mem_replicate] at hz; omega)
theorem are_pOut (K : Nat) : ∀ (zs l : List Int), Are l → Are zs → Are (pOut K l zs)
  | [], l, _, _ => Are.nil
  | z :: r, l, hl, hz => by
    have hr : Are r := fun y hy => hz y (by simp [hy])
    simp only [pOut]
    split
    · exact (are_rcd hl).append (are_pOut K r [] Are.nil hr)
    · exact are_pOut K r _ (hl.append (fun y hy => by simp at hy; exact hz y (by simp [hy]))) hr
theorem are_pLine : ∀ (zs l : List Int), Are l → Are zs → Are (pLine l zs)
  | [], l, h, _ => h
  | z :: r, l, hl, hz => by
    have hr : Are r := fun y hy => hz y (by simp [hy])
    simp only [pLine]
    split
    · exact are_pLine r [] Are.nil hr
    · exact are_pLine r _ (hl.append (fun y hy => by simp at hy; exact hz y (by simp [hy]))) hr
theorem are_lin {l : List Int} (h : Are l) : Are (lin l) := (h.take _).append (fun z hz => by simp at hz; omega)
theorem are_uOut (K : Nat) : ∀ (zs l : List Int), Are l → Are zs → Are (uOut K l zs)
  | [], l, _, _ => Are.nil
  | z :: r, l, hl, hz => by
    have hr : Are r := fun y hy => hz y (by simp [hy])
    have h1 : Are (l ++ [z]) := hl.append (fun y hy => by simp at hy; exact hz y (by simp [hy]))
    simp only [uOut]
    split
    · exact (are_lin h1).append (are_uOut K r [] Are.nil hr)
    · exact are_uOut K r _ h1 hr
theorem are_uRest (K : Nat) : ∀ (zs l : List Int), Are l → Are zs → Are (uRest K l zs)
  | [], l, h, _ => h
  | z :: r, l, hl, hz => by
    have hr : Are r := fun y hy => hz y (by simp [hy])
    have h1 : Are (l ++ [z]) := hl.append (fun y hy => by simp at hy; exact hz y (by simp [hy]))
    simp only [uRest]
    split
    · exact are_uRest K r [] Are.nil hr
    · exact are_uRest K r _ h1 hr
theorem are_rOut (x : Cf) {l zs : List Int} (hl : Are l) (hz : Are zs) : Are (x.rOut l zs) := by
  unfold Cf.rOut
  cases x.blocks <;> cases x.unblocks <;> simp <;> first | exact hz | exact are_pOut _ _ _ hl hz | exact are_uOut _ _ _ hl hz
theorem are_rRest (x : Cf) {l zs : List Int} (hl : Are l) (hz : Are zs) : Are (x.rRest l zs) := by
  unfold Cf.rRest
  cases x.blocks <;> cases x.unblocks <;> simp <;> first | exact Are.nil | exact are_pLine _ _ hl hz | exact are_uRest _ _ _ hl hz
theorem are_rEnd (x : Cf) {l : List Int} (hl : Are l) : Are (x.rEnd l) := by
  unfold Cf.rEnd pEnd uEnd
  cases x.blocks <;> cases x.unblocks <;> simp <;> (try split) <;> first | exact Are.nil | exact are_rcd hl | exact are_lin hl
theorem odd_mem : ∀ (l : List Int) (z : Int), z ∈ odd l → z ∈ l
  | [], z, h => h
  | [a], z, h => h
  | a :: b :: r, z, h => by simp only [odd] at h; simp [odd_mem r z h]
theorem turn_mem : ∀ (l : List Int) (z : Int), z ∈ turn l → z ∈ l
  | [], z, h => by simp [turn] at h
  | [a], z, h => by simp [turn] at h
  | a :: b :: r, z, h => by
    simp only [turn, List.mem_cons] at h ⊢
    rcases h with h | h | h
    · exact .inr (.inl h)
    · exact .inl h
    · exact .inr (.inr (turn_mem r z h))
theorem are_tn (on : Bool) {l : List Int} (h : Are l) : Are (tn on l) := by
  cases on
  · exact h
  · exact fun z hz => h z (turn_mem l z hz)
theorem are_od (on : Bool) {l : List Int} (h : Are l) : Are (od on l) := by
  cases on
  · exact Are.nil
  · exact fun z hz => h z (odd_mem l z hz)
theorem are_sn (on : Bool) {l : List Int} (h : Are l) : Are (sn on l) := by
  cases on
  · exact h
  · exact h.sw

/-- A Put: what comes out, what is kept back, what is held, how many more were cut. -/
def Cf.a1 (x : Cf) (ks zs : List Int) : List Int := mapL x.t1 (tn x.sw (ks ++ zs))
def Cf.cO (x : Cf) (ks l zs : List Int) : List Int := mapL x.t2 (x.rOut l (x.a1 ks zs))
def Cf.cK (x : Cf) (ks zs : List Int) : List Int := od x.sw (ks ++ zs)
def Cf.cL (x : Cf) (ks l zs : List Int) : List Int := x.rRest l (x.a1 ks zs)
def Cf.cC (x : Cf) (ks l zs : List Int) : Nat := x.rCut l (x.a1 ks zs)
/-- The end. -/
def Cf.eA (x : Cf) (ks l : List Int) : List Int := mapL x.t2 (x.rOut l (mapL x.t1 ks))
def Cf.eL (x : Cf) (ks l : List Int) : List Int := x.rRest l (mapL x.t1 ks)
def Cf.eB (x : Cf) (ks l : List Int) : List Int := mapL x.t2 (x.rEnd (x.eL ks l))
def Cf.eO (x : Cf) (ks l : List Int) : List Int := x.eA ks l ++ x.eB ks l
def Cf.eC (x : Cf) (ks l : List Int) : Nat := x.rCut l (mapL x.t1 ks) + x.rOver (x.eL ks l)
/-- All of it. -/
def Cf.all (x : Cf) (zs : List Int) : List Int := mapL x.t2 (x.rOut [] (mapL x.t1 (sn x.sw zs)) ++ x.rEnd (x.rRest [] (mapL x.t1 (sn x.sw zs))))

/-- What came out, and what is held, behind all the bytes z. -/
def Cf.O (x : Cf) (z : List Int) : List Int := x.cO [] [] z
def Cf.KS (x : Cf) (z : List Int) : List Int := od x.sw z
def Cf.L (x : Cf) (z : List Int) : List Int := x.cL [] [] z
def Cf.C (x : Cf) (z : List Int) : Nat := x.cC [] [] z
theorem O_nil (x : Cf) : x.O [] = [] := by
  unfold Cf.O Cf.cO Cf.a1 Cf.rOut
  cases x.sw <;> cases x.blocks <;> cases x.unblocks <;> rfl
theorem L_nil (x : Cf) : x.L [] = [] := by
  unfold Cf.L Cf.cL Cf.a1 Cf.rRest
  cases x.sw <;> cases x.blocks <;> cases x.unblocks <;> rfl
theorem C_nil (x : Cf) : x.C [] = 0 := by
  unfold Cf.C Cf.cC Cf.a1 Cf.rCut
  cases x.sw <;> cases x.blocks <;> rfl
theorem KS_nil (x : Cf) : x.KS [] = [] := by unfold Cf.KS; cases x.sw <;> rfl
theorem a1_app (x : Cf) (z b : List Int) : x.a1 [] (z ++ b) = x.a1 [] z ++ x.a1 (x.KS z) b := by
  unfold Cf.a1 Cf.KS
  rw [List.nil_append, List.nil_append, tn_app, map_app]
theorem O_app (x : Cf) (z b : List Int) : x.O (z ++ b) = x.O z ++ x.cO (x.KS z) (x.L z) b := by
  unfold Cf.O Cf.cO Cf.L Cf.cL
  rw [a1_app, rOut_app, map_app]
theorem L_app (x : Cf) (z b : List Int) : x.L (z ++ b) = x.cL (x.KS z) (x.L z) b := by
  unfold Cf.L Cf.cL
  rw [a1_app, rRest_app]
theorem C_app (x : Cf) (z b : List Int) : x.C (z ++ b) = x.C z + x.cC (x.KS z) (x.L z) b := by
  unfold Cf.C Cf.cC Cf.L Cf.cL
  rw [a1_app, rCut_app]
theorem KS_app (x : Cf) (z b : List Int) : x.KS (z ++ b) = x.cK (x.KS z) b := by
  unfold Cf.KS Cf.cK
  rw [od_app]
theorem all_is (x : Cf) (z : List Int) : x.O z ++ x.eO (x.KS z) (x.L z) = x.all z := by
  have e : mapL x.t1 (sn x.sw z) = mapL x.t1 (tn x.sw z) ++ mapL x.t1 (od x.sw z) := by rw [← tn_od, map_app]
  unfold Cf.all Cf.O Cf.eO Cf.eA Cf.eB Cf.eL Cf.L Cf.cO Cf.cL Cf.KS Cf.a1
  rw [List.nil_append, e, rOut_app, rRest_app, map_app, map_app, List.append_assoc]

/-- How much it is, where records have at most 500 bytes. -/
theorem K_le {x : Cf} (h : x.cb ≤ 500) : x.K ≤ 500 := by unfold Cf.K kOf; split <;> (try split) <;> omega
theorem rOut_le {x : Cf} (h : x.cb ≤ 500) (l zs : List Int) (ho : x.Ok l) : (x.rOut l zs).length ≤ 500 * zs.length + 500 := by
  have hK := K_le h
  unfold Cf.rOut
  unfold Cf.Ok at ho
  cases hb : x.blocks <;> cases hu : x.unblocks <;> simp [hb, hu] at *
  · omega
  · have := u_le x.K zs l; omega
  · have h1 := pOut_le x.K zs l; have h2 := Nat.mul_le_mul_right zs.length hK; omega
  · have h1 := pOut_le x.K zs l; have h2 := Nat.mul_le_mul_right zs.length hK; omega
theorem rRest_le {x : Cf} (h : x.cb ≤ 500) (l zs : List Int) (ho : x.Ok l) : (x.rRest l zs).length ≤ l.length + zs.length + 500 := by
  have hK := K_le h
  have h2 := ok_rest x zs ho
  unfold Cf.rRest Cf.Ok at *
  cases hb : x.blocks <;> cases hu : x.unblocks <;> simp [hb, hu] at *
  · omega
  · have := pLine_le zs l; omega
  · have := pLine_le zs l; omega
theorem rCut_le (x : Cf) (l zs : List Int) : x.rCut l zs ≤ zs.length := by
  unfold Cf.rCut
  cases x.blocks <;> simp
  exact pCut_le _ _ _
theorem rOver_le (x : Cf) (l : List Int) : x.rOver l ≤ 1 := by
  unfold Cf.rOver
  cases x.blocks <;> simp
  exact over_le _ _
theorem rEnd_le {x : Cf} (h : x.cb ≤ 500) (l : List Int) (ho : x.Ok l) : (x.rEnd l).length ≤ 501 := by
  have hK := K_le h
  unfold Cf.rEnd
  unfold Cf.Ok at ho
  cases hb : x.blocks <;> cases hu : x.unblocks <;> simp [hb, hu] at *
  · have := uEnd_le l; omega
  · have := pEnd_le x.K l; omega
  · have := pEnd_le x.K l; omega
theorem a1_le (x : Cf) (ks zs : List Int) : (x.a1 ks zs).length ≤ ks.length + zs.length := by
  unfold Cf.a1
  rw [map_len]
  have := tn_le x.sw (ks ++ zs)
  simpa using this

end Go.Proofs.Ytghihmmapignmaa
