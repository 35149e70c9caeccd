/- Two Fifos side by side: the program's and the reference's. -/
import Derived.Test.YtbmcaldeiddgeaaWalksF
import Derived.Test.YtbmcaldeiddgeaaReadS
import Derived.Deep.QuietTactic
namespace Go.Proofs.Ytbmcaldeiddgeaa
open Go.RowKit

structure Both (W w : World) (b : Nat) (S : Nat → Prop) (r : Nat) (T : Nat → Prop) (k : Int) (zs ys : List Int) : Prop where
  f : Mine W w b S k zs
  r : Mine W w r T k ys
  apart : ∀ d, S d → ¬ T d

theorem Both.fst {W w w' : World} {b r : Nat} {S S' T : Nat → Prop} {k : Int} {zs zs' ys : List Int} (h : Both W w b S r T k zs ys) (f : Fi w' b S' k zs') (o : Only S w w') (hs : ∀ d, S' d → S d ∨ w.heap.size ≤ d) : Both W w' b S' r T k zs' ys :=
  ⟨h.f.next f o hs, h.r.on2 o h.apart h.f.new, fun d hd ht => (hs d hd).elim (fun h1 => h.apart d h1 ht) (fun h1 => by have := h.r.lt d ht; omega)⟩
theorem Both.snd {W w w' : World} {b r : Nat} {S T T' : Nat → Prop} {k : Int} {zs ys ys' : List Int} (h : Both W w b S r T k zs ys) (f : Fi w' r T' k ys') (o : Only T w w') (hs : ∀ d, T' d → T d ∨ w.heap.size ≤ d) : Both W w' b S r T' k zs ys' :=
  ⟨h.f.on2 o (fun d hd ht => h.apart d ht hd) h.r.new, h.r.next f o hs, fun d hd ht => (hs d ht).elim (fun h1 => h.apart d hd h1) (fun h1 => by have := h.f.lt d hd; omega)⟩
theorem Both.on {W w w' : World} {b r : Nat} {S T : Nat → Prop} {k : Int} {zs ys : List Int} (h : Both W w b S r T k zs ys) (o : Below w.heap.size w w') : Both W w' b S r T k zs ys := ⟨h.f.on o, h.r.on o, h.apart⟩

/-- What is in none of both stays. -/
theorem El_away {W w : World} {b : Nat} {S : Nat → Prop} {k : Int} {zs : List Int} (h : Mine W w b S k zs) {x : El} (hx : ElOk W x) : ElOk w x ∧ Away S x := by
  refine ⟨hx.on h.below, fun g o he hn hs => ?_⟩
  obtain ⟨b', o', he', hl, _⟩ := hx.bytes.2.2.2 hn
  rw [he] at he'
  injection he' with he'
  injection he' with e1
  have := h.new g hs
  omega

theorem quiet_same {P : Program} {f : FuncId} {args : Array Value} {v : Value} {w : World} {n : Nat} (h : Calls P f args (w.drewN n) fun e w' => e = .returned v ∧ w.drewN n = w') : Calls P f args (w.drewN n) fun e w' => e = .returned v ∧ ∃ m, w' = w.drewN m :=
  h.mono fun _ _ ⟨h1, h2⟩ => ⟨h1, n, h2.symm⟩

end Go.Proofs.Ytbmcaldeiddgeaa
