/- The program's disk and the reference's as they lie in memory. -/
import Derived.Test.YtdfjhgibdabeeaaDevs
namespace Go.Proofs.Ytdfjhgibdabeeaa
open Go.RowKit

def At (A : Option Addr) (d : Nat) : Prop := ∃ o, A = some ⟨d, o, none⟩

/-- Where a disk's parts lie. -/
structure Pd where
  da : Option Addr
  dn : Nat
  dc : Nat
  sa : Option Addr
  m : Nat
  ha : Option Addr
  hn : Nat
  hc : Nat

/-- The program's disk at block b, over its blocks S: how often each sector failed, how many calls there were. -/
structure Dk (b : Nat) (y : Pd) (D : Dev) (G : Nat → Int) (cl : Nat) (w : World) (S : Nat → Prop) : Prop where
  mine : S b
  lt : ∀ d, S d → d < w.heap.size
  dat : ∀ d, At y.da d → 0 < y.dn → S d ∧ d ≠ b ∧ (∀ e, At y.sa e → 0 < y.m → d ≠ e)
  sec : ∀ d, At y.sa d → 0 < y.m → S d ∧ d ≠ b
  sho : ∀ d, At y.ha d → 0 < y.hn → S d ∧ d ≠ b ∧ (∀ e, At y.sa e → 0 < y.m → d ≠ e)
  m : y.m = D.m
  c0 : w.cell? ⟨b, 0, none⟩ = some (.slice y.da y.dn y.dc)
  c1 : w.cell? ⟨b, 1, none⟩ = some (.slice y.sa y.m y.m)
  c2 : w.cell? ⟨b, 2, none⟩ = some (.slice y.ha y.hn y.hc)
  c3 : w.cell? ⟨b, 3, none⟩ = some (.int .i64 (cl : Nat))
  f3 : w.frozen? ⟨b, 3, none⟩ = false
  data : Nums .u8 w y.da y.dn y.dc D.data
  secs : Secs w y.sa y.m (isBad D.bad) (leftOf D G)
  shorts : Nums .i64 w y.ha y.hn y.hc D.shorts
theorem Dk.keeps (b : Nat) (y : Pd) (D : Dev) (G : Nat → Int) (cl : Nat) : Keeps (Dk b y D G cl) := by
  refine ⟨fun h => h.lt, fun {w w' S T} h k hS => ?_⟩
  have hb := h.lt b h.mine
  have hn := hS b h.mine
  exact ⟨h.mine, fun d hd => Nat.lt_of_lt_of_le (h.lt d hd) k.size, h.dat, h.sec, h.sho, h.m, (k.cell (p := ⟨b, 0, none⟩) hb hn).trans h.c0, (k.cell (p := ⟨b, 1, none⟩) hb hn).trans h.c1, (k.cell (p := ⟨b, 2, none⟩) hb hn).trans h.c2, (k.cell (p := ⟨b, 3, none⟩) hb hn).trans h.c3,
    (k.frozen (p := ⟨b, 3, none⟩) hb hn).trans h.f3, h.data.only k (fun g o he hp => hS g (h.dat g ⟨o, he⟩ hp).1), h.secs.only k (fun g o he hp => hS g (h.sec g ⟨o, he⟩ hp).1), h.shorts.only k (fun g o he hp => hS g (h.sho g ⟨o, he⟩ hp).1)⟩
theorem Dk.on {b : Nat} {y : Pd} {D : Dev} {G : Nat → Int} {cl : Nat} {w w' : World} {S : Nat → Prop} (h : Dk b y D G cl w S) (k : Below w.heap.size w w') : Dk b y D G cl w' S := (Dk.keeps b y D G cl).on h k
theorem Dk.sector {b : Nat} {y : Pd} {D : Dev} {G : Nat → Int} {cl : Nat} {w : World} {S : Nat → Prop} {g : Nat} (h : Dk b y D G cl w S) (hg : y.sa = some ⟨g, 0, none⟩) (k : Nat) (hk : k < y.m) :
    w.cell? ⟨g, k * 2, none⟩ = some (.bool (isBad D.bad k)) ∧ w.cell? ⟨g, k * 2 + 1, none⟩ = some (.int .i64 (leftOf D G k)) ∧ w.frozen? ⟨g, k * 2 + 1, none⟩ = false := by
  obtain ⟨g', he, _, hc⟩ := h.secs.cells (by omega)
  rw [hg] at he
  injection he with he; injection he with he
  subst he
  obtain ⟨h1, h2, _, h4⟩ := hc k hk
  exact ⟨h1, h2, h4⟩
/-- The counter stored anew. -/
theorem Dk.setCalls {b : Nat} {y : Pd} {D : Dev} {G : Nat → Int} {cl : Nat} {w : World} {S : Nat → Prop} (h : Dk b y D G cl w S) (cl' : Nat) :
    Dk b y D G cl' (w.setCell ⟨b, 3, none⟩ (.int .i64 (cl' : Nat))) S ∧ Only S w (w.setCell ⟨b, 3, none⟩ (.int .i64 (cl' : Nat))) := by
  have ho : Only (fun d => d = b) w (w.setCell ⟨b, 3, none⟩ (.int .i64 (cl' : Nat))) := (Only.refl (fun d => d = b) w).setCell ⟨b, 3, none⟩ (fun _ => rfl) _
  refine ⟨⟨h.mine, fun d hd => Nat.lt_of_lt_of_le (h.lt d hd) ho.size, h.dat, h.sec, h.sho, h.m, ?_, ?_, ?_, World.cell?_setCell_same _ _ _ h.c3, by simpa using h.f3, ?_, ?_, ?_⟩, ho.mono (fun d hd => by rw [show d = b from hd]; exact h.mine)⟩
  · rw [World.cell?_setCell_other _ _ _ _ (by simp)]; exact h.c0
  · rw [World.cell?_setCell_other _ _ _ _ (by simp)]; exact h.c1
  · rw [World.cell?_setCell_other _ _ _ _ (by simp)]; exact h.c2
  · exact h.data.only ho (fun g o he hp => (h.dat g ⟨o, he⟩ hp).2.1)
  · exact h.secs.only ho (fun g o he hp => (h.sec g ⟨o, he⟩ hp).2)
  · exact h.shorts.only ho (fun g o he hp => (h.sho g ⟨o, he⟩ hp).2.1)
/-- How often a sector still fails, stored anew. -/
theorem Dk.setLeft {b : Nat} {y : Pd} {D : Dev} {G G' : Nat → Int} {cl : Nat} {w : World} {S : Nat → Prop} {g : Nat} (h : Dk b y D G cl w S) (hg : y.sa = some ⟨g, 0, none⟩) (k : Nat) (hk : k < y.m) (v : Int) (hG : ∀ j, j < y.m → leftOf D G' j = upd (leftOf D G) k v j) :
    Dk b y D G' cl (w.setCell ⟨g, k * 2 + 1, none⟩ (.int .i64 v)) S ∧ Only S w (w.setCell ⟨g, k * 2 + 1, none⟩ (.int .i64 v)) := by
  have hs := h.secs
  rw [hg] at hs
  obtain ⟨h1, ho⟩ := hs.setL k hk v
  have hm : 0 < y.m := by omega
  obtain ⟨hgS, hgb⟩ := h.sec g ⟨0, hg⟩ hm
  have hb := h.lt b h.mine
  refine ⟨⟨h.mine, fun d hd => Nat.lt_of_lt_of_le (h.lt d hd) ho.size, h.dat, h.sec, h.sho, h.m, (ho.cell (p := ⟨b, 0, none⟩) hb (fun e => hgb e.symm)).trans h.c0, (ho.cell (p := ⟨b, 1, none⟩) hb (fun e => hgb e.symm)).trans h.c1, (ho.cell (p := ⟨b, 2, none⟩) hb (fun e => hgb e.symm)).trans h.c2, (ho.cell (p := ⟨b, 3, none⟩) hb (fun e => hgb e.symm)).trans h.c3,
    (ho.frozen (p := ⟨b, 3, none⟩) hb (fun e => hgb e.symm)).trans h.f3, ?_, ?_, ?_⟩, ho.mono (fun d hd => by rw [show d = g from hd]; exact hgS)⟩
  · exact h.data.only ho (fun g' o he hp => (h.dat g' ⟨o, he⟩ hp).2.2 g ⟨0, hg⟩ hm)
  · rw [hg]; exact h1.eqs (fun _ _ => rfl) hG
  · exact h.shorts.only ho (fun g' o he hp => (h.sho g' ⟨o, he⟩ hp).2.2 g ⟨0, hg⟩ hm)

/-- The reference's disk: the device as it was handed in, and its own counters. -/
structure Rd (b : Nat) (x : Hd) (ga : Option Addr) (m : Nat) (G : Nat → Int) (cl : Nat) (w : World) (S : Nat → Prop) : Prop where
  mine : S b
  lt : ∀ d, S d → d < w.heap.size
  gon : ∀ d, At ga d → 0 < m → S d ∧ d ≠ b
  c0 : w.cell? ⟨b, 0, none⟩ = some (.slice x.da x.dn x.dc)
  c1 : w.cell? ⟨b, 1, none⟩ = some (.slice x.ba x.bn x.bc)
  c2 : w.cell? ⟨b, 2, none⟩ = some (.slice x.sa x.sn x.sc)
  c3 : w.cell? ⟨b, 3, none⟩ = some (.slice x.ha x.hn x.hc)
  c4 : w.cell? ⟨b, 4, none⟩ = some (.slice ga m m)
  c5 : w.cell? ⟨b, 5, none⟩ = some (.int .i64 (cl : Nat))
  f5 : w.frozen? ⟨b, 5, none⟩ = false
  gone : Gone w ga m G
theorem Rd.keeps (b : Nat) (x : Hd) (ga : Option Addr) (m : Nat) (G : Nat → Int) (cl : Nat) : Keeps (Rd b x ga m G cl) := by
  refine ⟨fun h => h.lt, fun {w w' S T} h k hS => ?_⟩
  have hb := h.lt b h.mine
  have hn := hS b h.mine
  exact ⟨h.mine, fun d hd => Nat.lt_of_lt_of_le (h.lt d hd) k.size, h.gon, (k.cell (p := ⟨b, 0, none⟩) hb hn).trans h.c0, (k.cell (p := ⟨b, 1, none⟩) hb hn).trans h.c1, (k.cell (p := ⟨b, 2, none⟩) hb hn).trans h.c2, (k.cell (p := ⟨b, 3, none⟩) hb hn).trans h.c3,
    (k.cell (p := ⟨b, 4, none⟩) hb hn).trans h.c4, (k.cell (p := ⟨b, 5, none⟩) hb hn).trans h.c5, (k.frozen (p := ⟨b, 5, none⟩) hb hn).trans h.f5, h.gone.only k (fun g o he hp => hS g (h.gon g ⟨o, he⟩ hp).1)⟩
theorem Rd.on {b : Nat} {x : Hd} {ga : Option Addr} {m : Nat} {G : Nat → Int} {cl : Nat} {w w' : World} {S : Nat → Prop} (h : Rd b x ga m G cl w S) (k : Below w.heap.size w w') : Rd b x ga m G cl w' S := (Rd.keeps b x ga m G cl).on h k
theorem Rd.setCalls {b : Nat} {x : Hd} {ga : Option Addr} {m : Nat} {G : Nat → Int} {cl : Nat} {w : World} {S : Nat → Prop} (h : Rd b x ga m G cl w S) (cl' : Nat) :
    Rd b x ga m G cl' (w.setCell ⟨b, 5, none⟩ (.int .i64 (cl' : Nat))) S ∧ Only S w (w.setCell ⟨b, 5, none⟩ (.int .i64 (cl' : Nat))) := by
  have ho : Only (fun d => d = b) w (w.setCell ⟨b, 5, none⟩ (.int .i64 (cl' : Nat))) := (Only.refl (fun d => d = b) w).setCell ⟨b, 5, none⟩ (fun _ => rfl) _
  refine ⟨⟨h.mine, fun d hd => Nat.lt_of_lt_of_le (h.lt d hd) ho.size, h.gon, ?_, ?_, ?_, ?_, ?_, World.cell?_setCell_same _ _ _ h.c5, by simpa using h.f5, ?_⟩, ho.mono (fun d hd => by rw [show d = b from hd]; exact h.mine)⟩
  · rw [World.cell?_setCell_other _ _ _ _ (by simp)]; exact h.c0
  · rw [World.cell?_setCell_other _ _ _ _ (by simp)]; exact h.c1
  · rw [World.cell?_setCell_other _ _ _ _ (by simp)]; exact h.c2
  · rw [World.cell?_setCell_other _ _ _ _ (by simp)]; exact h.c3
  · rw [World.cell?_setCell_other _ _ _ _ (by simp)]; exact h.c4
  · exact h.gone.only ho (fun g o he hp => (h.gon g ⟨o, he⟩ hp).2)
theorem Rd.setGone {b : Nat} {x : Hd} {ga : Option Addr} {m : Nat} {G : Nat → Int} {cl : Nat} {w : World} {S : Nat → Prop} {g : Nat} (h : Rd b x ga m G cl w S) (hg : ga = some ⟨g, 0, none⟩) (k : Nat) (hk : k < m) (v : Int) :
    Rd b x ga m (upd G k v) cl (w.setCell ⟨g, k, none⟩ (.int .i64 v)) S ∧ Only S w (w.setCell ⟨g, k, none⟩ (.int .i64 v)) := by
  subst hg
  obtain ⟨h1, ho⟩ := h.gone.set k hk v
  obtain ⟨hgS, hgb⟩ := h.gon g ⟨0, rfl⟩ (by omega)
  have hb := h.lt b h.mine
  have hne : ¬ b = g := fun e => hgb e.symm
  exact ⟨⟨h.mine, fun d hd => Nat.lt_of_lt_of_le (h.lt d hd) ho.size, h.gon, (ho.cell (p := ⟨b, 0, none⟩) hb hne).trans h.c0, (ho.cell (p := ⟨b, 1, none⟩) hb hne).trans h.c1, (ho.cell (p := ⟨b, 2, none⟩) hb hne).trans h.c2, (ho.cell (p := ⟨b, 3, none⟩) hb hne).trans h.c3, (ho.cell (p := ⟨b, 4, none⟩) hb hne).trans h.c4, (ho.cell (p := ⟨b, 5, none⟩) hb hne).trans h.c5,
    (ho.frozen (p := ⟨b, 5, none⟩) hb hne).trans h.f5, h1⟩, ho.mono (fun d hd => by rw [show d = g from hd]; exact hgS)⟩

end Go.Proofs.Ytdfjhgibdabeeaa
