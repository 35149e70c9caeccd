/- A Device as a value, and as it lies in memory. -/
import Derived.Test.YtdfjhgibdabeeaaRead
namespace Go.Proofs.Ytdfjhgibdabeeaa
open Go.RowKit

/-- Where a Device's four slices lie. -/
structure Hd where
  da : Option Addr
  dn : Nat
  dc : Nat
  ba : Option Addr
  bn : Nat
  bc : Nat
  sa : Option Addr
  sn : Nat
  sc : Nat
  ha : Option Addr
  hn : Nat
  hc : Nat
def Hd.cells (x : Hd) : Array Value := #[.slice x.da x.dn x.dc, .slice x.ba x.bn x.bc, .slice x.sa x.sn x.sc, .slice x.ha x.hn x.hc]
def Hd.val (x : Hd) : Value := .agg x.cells
def Hd.none : Hd := ⟨.none, 0, 0, .none, 0, 0, .none, 0, 0, .none, 0, 0⟩

structure DevIn (w : World) (x : Hd) (D : Dev) : Prop where
  data : Nums .u8 w x.da x.dn x.dc D.data
  bad : Nums .i64 w x.ba x.bn x.bc D.bad
  soft : Pairs w x.sa x.sn D.soft
  shorts : Nums .i64 w x.ha x.hn x.hc D.shorts
theorem DevIn.on {w w' : World} {x : Hd} {D : Dev} (h : DevIn w x D) (k : Below w.heap.size w w') : DevIn w' x D := ⟨h.data.on k, h.bad.on k, h.soft.on k, h.shorts.on k⟩
theorem dev_none (w : World) : DevIn w Hd.none Dev.none := ⟨nums_nil _ w, nums_nil _ w, pairs_nil w, nums_nil _ w⟩

/-- The parameter's variable. -/
structure Box (w : World) (b : Nat) (x : Hd) : Prop where
  lt : b < w.heap.size
  c0 : w.cell? ⟨b, 0, none⟩ = some (.slice x.da x.dn x.dc)
  c1 : w.cell? ⟨b, 1, none⟩ = some (.slice x.ba x.bn x.bc)
  c2 : w.cell? ⟨b, 2, none⟩ = some (.slice x.sa x.sn x.sc)
  c3 : w.cell? ⟨b, 3, none⟩ = some (.slice x.ha x.hn x.hc)
theorem Box.on {w w' : World} {b : Nat} {x : Hd} (h : Box w b x) (k : Below w.heap.size w w') : Box w' b x :=
  ⟨Nat.lt_of_lt_of_le h.lt k.size, (k.cell (p := ⟨b, 0, none⟩) h.lt).trans h.c0, (k.cell (p := ⟨b, 1, none⟩) h.lt).trans h.c1, (k.cell (p := ⟨b, 2, none⟩) h.lt).trans h.c2, (k.cell (p := ⟨b, 3, none⟩) h.lt).trans h.c3⟩
theorem Box.only {S : Nat → Prop} {w w' : World} {b : Nat} {x : Hd} (h : Box w b x) (k : Only S w w') (hn : ¬ S b) : Box w' b x :=
  ⟨Nat.lt_of_lt_of_le h.lt k.size, (k.cell (p := ⟨b, 0, none⟩) h.lt hn).trans h.c0, (k.cell (p := ⟨b, 1, none⟩) h.lt hn).trans h.c1, (k.cell (p := ⟨b, 2, none⟩) h.lt hn).trans h.c2, (k.cell (p := ⟨b, 3, none⟩) h.lt hn).trans h.c3⟩
theorem box_of_row {w : World} {b : Nat} {x : Hd} {t : TypeId} (h : Row w b t x.cells) : Box w b x := by
  refine ⟨h.lt, ?_, ?_, ?_, ?_⟩ <;> (rw [h.at]; rfl)

end Go.Proofs.Ytdfjhgibdabeeaa
