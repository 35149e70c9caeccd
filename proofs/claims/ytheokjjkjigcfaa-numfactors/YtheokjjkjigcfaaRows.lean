/-
  No cell of these rows narrows 'for every input' (looked for: loops, veiled, ifaces, maps, wideKeys, modest, calm, conditions, laid).
  DERIVED. THE GIVEN ROWS OF THIS SEAT. 6 by the template 'for every input the law returns true; each argument reads behind the call as it read before'; 0 by the template 'total and deterministic' (their statements: YtheokjjkjigcfaaTotals.lean).
  GIVEN WITH THE SEED: the statements are not yours to turn. If you find one false, say at which input.
  Laid BY PROGRAM, IN A SANDBOX (cutbox-rows.mjs): the forced cells as the released guide's own fill.sh prints them over the translation d18bc938f66a24e8… (all of the seat's roots in one cut). By AI agents, Wed Nov 11 2026. No macro, syntax, notation, axiom, sorry.
-/
import Derived.Test.YtheokjjkjigcfaaChecked
import GoSem.Claim
import GoSem.ClaimJoined
import GoSem.ClaimMapViews
import Derived.JoinedTies
import Derived.KernelRfl
namespace Go.Proofs.Ytheokjjkjigcfaa
/- THE CELL 'sum', in the pinned program and in every row, IS THE sha256 OF THE DUMP (.gsa) THAT YtheokjjkjigcfaaProg.lean LOADS. Nothing in Lean hashes anything: it is a label: what it is worth is what the hold of that sum in a sandbox is worth. -/
noncomputable def Try.pinned : Pinned := { name := "ytheokjjkjigcfaa", sum := "d18bc938f66a24e8b2d3f5d8a0548d2c9a4eb126ca88a6a6f3769ba8355c466c", checked := Try.checked }
namespace Rows
def none {H : Type} : Left H := { results := [], args := [] }

/-- 'salvorlaw2.NumRuns': WHATEVER THE INPUT: true; the input reads as it did. -/
def numRunsSpec : ChangeSpec := { name := "numRuns", fn := fun _ => fun
  | [] => { results := [.lit (.bool true)], args := [] }
  | _ => none }
def numRunsRow : OpenClaim := { program := "ytheokjjkjigcfaa", sum := "d18bc938f66a24e8b2d3f5d8a0548d2c9a4eb126ca88a6a6f3769ba8355c466c", func := "salvor/salvorlaw2.NumRuns", spec := "numRuns", apart := false }
def NumRunsSaid : Prop := numRunsRow.holds Try.pinned (OpenSpec.ofChange numRunsSpec)

/-- ITS FALSE NEIGHBOUR: 'it returns false'. Refute it at one input. -/
def numRunsWrong : ChangeSpec := { name := "numRuns", fn := fun _ => fun
  | [] => { results := [.lit (.bool false)], args := [] }
  | _ => none }
def NumRunsWrongFalsely : Prop := numRunsRow.holds Try.pinned (OpenSpec.ofChange numRunsWrong)

/-- 'salvorlaw2.NumTells': WHATEVER THE INPUT: true; the input reads as it did. -/
def numTellsSpec : ChangeSpec := { name := "numTells", fn := fun _ => fun
  | [d1, d2] => { results := [.lit (.bool true)], args := [d1, d2] }
  | _ => none }
def numTellsRow : OpenClaim := { program := "ytheokjjkjigcfaa", sum := "d18bc938f66a24e8b2d3f5d8a0548d2c9a4eb126ca88a6a6f3769ba8355c466c", func := "salvor/salvorlaw2.NumTells", spec := "numTells", apart := false }
def NumTellsSaid : Prop := numTellsRow.holds Try.pinned (OpenSpec.ofChange numTellsSpec)

/-- ITS FALSE NEIGHBOUR: 'it returns false'. Refute it at one input. -/
def numTellsWrong : ChangeSpec := { name := "numTells", fn := fun _ => fun
  | [d1, d2] => { results := [.lit (.bool false)], args := [d1, d2] }
  | _ => none }
def NumTellsWrongFalsely : Prop := numTellsRow.holds Try.pinned (OpenSpec.ofChange numTellsWrong)

/-- 'salvorlaw2.NumBack': WHATEVER THE INPUT: true; the input reads as it did. -/
def numBackSpec : ChangeSpec := { name := "numBack", fn := fun _ => fun
  | [d] => { results := [.lit (.bool true)], args := [d] }
  | _ => none }
def numBackRow : OpenClaim := { program := "ytheokjjkjigcfaa", sum := "d18bc938f66a24e8b2d3f5d8a0548d2c9a4eb126ca88a6a6f3769ba8355c466c", func := "salvor/salvorlaw2.NumBack", spec := "numBack", apart := false }
def NumBackSaid : Prop := numBackRow.holds Try.pinned (OpenSpec.ofChange numBackSpec)

/-- ITS FALSE NEIGHBOUR: 'it returns false'. Refute it at one input. -/
def numBackWrong : ChangeSpec := { name := "numBack", fn := fun _ => fun
  | [d] => { results := [.lit (.bool false)], args := [d] }
  | _ => none }
def NumBackWrongFalsely : Prop := numBackRow.holds Try.pinned (OpenSpec.ofChange numBackWrong)

/-- 'salvorlaw2.NumFactors': WHATEVER THE INPUT: true; the input reads as it did. -/
def numFactorsSpec : ChangeSpec := { name := "numFactors", fn := fun _ => fun
  | [d1, d2] => { results := [.lit (.bool true)], args := [d1, d2] }
  | _ => none }
def numFactorsRow : OpenClaim := { program := "ytheokjjkjigcfaa", sum := "d18bc938f66a24e8b2d3f5d8a0548d2c9a4eb126ca88a6a6f3769ba8355c466c", func := "salvor/salvorlaw2.NumFactors", spec := "numFactors", apart := false }
def NumFactorsSaid : Prop := numFactorsRow.holds Try.pinned (OpenSpec.ofChange numFactorsSpec)

/-- ITS FALSE NEIGHBOUR: 'it returns false'. Refute it at one input. -/
def numFactorsWrong : ChangeSpec := { name := "numFactors", fn := fun _ => fun
  | [d1, d2] => { results := [.lit (.bool false)], args := [d1, d2] }
  | _ => none }
def NumFactorsWrongFalsely : Prop := numFactorsRow.holds Try.pinned (OpenSpec.ofChange numFactorsWrong)

/-- 'salvorlaw2.NumZeros': WHATEVER THE INPUT: true; the input reads as it did. -/
def numZerosSpec : ChangeSpec := { name := "numZeros", fn := fun _ => fun
  | [d1, d2] => { results := [.lit (.bool true)], args := [d1, d2] }
  | _ => none }
def numZerosRow : OpenClaim := { program := "ytheokjjkjigcfaa", sum := "d18bc938f66a24e8b2d3f5d8a0548d2c9a4eb126ca88a6a6f3769ba8355c466c", func := "salvor/salvorlaw2.NumZeros", spec := "numZeros", apart := false }
def NumZerosSaid : Prop := numZerosRow.holds Try.pinned (OpenSpec.ofChange numZerosSpec)

/-- ITS FALSE NEIGHBOUR: 'it returns false'. Refute it at one input. -/
def numZerosWrong : ChangeSpec := { name := "numZeros", fn := fun _ => fun
  | [d1, d2] => { results := [.lit (.bool false)], args := [d1, d2] }
  | _ => none }
def NumZerosWrongFalsely : Prop := numZerosRow.holds Try.pinned (OpenSpec.ofChange numZerosWrong)

/-- 'salvorlaw2.NumEdge': WHATEVER THE INPUT: true; the input reads as it did. -/
def numEdgeSpec : ChangeSpec := { name := "numEdge", fn := fun _ => fun
  | [] => { results := [.lit (.bool true)], args := [] }
  | _ => none }
def numEdgeRow : OpenClaim := { program := "ytheokjjkjigcfaa", sum := "d18bc938f66a24e8b2d3f5d8a0548d2c9a4eb126ca88a6a6f3769ba8355c466c", func := "salvor/salvorlaw2.NumEdge", spec := "numEdge", apart := false }
def NumEdgeSaid : Prop := numEdgeRow.holds Try.pinned (OpenSpec.ofChange numEdgeSpec)

/-- ITS FALSE NEIGHBOUR: 'it returns false'. Refute it at one input. -/
def numEdgeWrong : ChangeSpec := { name := "numEdge", fn := fun _ => fun
  | [] => { results := [.lit (.bool false)], args := [] }
  | _ => none }
def NumEdgeWrongFalsely : Prop := numEdgeRow.holds Try.pinned (OpenSpec.ofChange numEdgeWrong)

/- THE SECOND FORM. 'bulk': how many values and letters a reading holds, each counted each time it is reached (what is shared counts as often as it is met; a slice's spare places count too). A statement '..UptoSaid' is the law's where the arguments, and the package variables that the reading takes, are together of bulk at most 1048576: NARROWER than '..Said'. Prove '..Said' where nothing that the law and all that it calls make is longer than what came in: it says more and counts as full. Else prove '..UptoSaid'. A law counts once. -/
mutual
def uptoBulk {H : Type} : DataW H → Nat
  | .lit (.string bytes) => bytes.length + 1
  | .lit _ => 1
  | .nil => 1
  | .ptr d => uptoBulk d + 1
  | .slice elems spare => uptoBulkAll elems + uptoBulkAll spare + 1
  | .agg parts => uptoBulkAll parts + 1
  | .iface _ d => uptoBulk d + 1
  | .map entries => uptoBulkEntries entries + 1
  | .held _ => 1
def uptoBulkAll {H : Type} : List (DataW H) → Nat
  | [] => 0
  | d :: r => uptoBulk d + uptoBulkAll r
def uptoBulkEntries {H : Type} : List (Lit × DataW H) → Nat
  | [] => 0
  | x :: r => uptoBulkEntry x + uptoBulkEntries r
def uptoBulkEntry {H : Type} : Lit × DataW H → Nat
  | (.string bytes, d) => bytes.length + uptoBulk d + 1
  | (_, d) => uptoBulk d + 1
 end
def uptoSmall : (H : Type) → List (DataW H) → Bool := fun _ ds => decide (uptoBulkAll ds ≤ 1048576)
def OpenSpec.upto (s : _root_.Go.ChangeSpec) : _root_.Go.OpenSpec := { _root_.Go.OpenSpec.ofChange s with cond := some uptoSmall }

/-- 'salvorlaw2.NumRuns', WHERE WHAT IT READS IS OF BULK AT MOST 1048576: true; the input reads as it did. -/
def numRunsUptoRow : OpenClaim := { program := "ytheokjjkjigcfaa", sum := "d18bc938f66a24e8b2d3f5d8a0548d2c9a4eb126ca88a6a6f3769ba8355c466c", func := "salvor/salvorlaw2.NumRuns", spec := "numRuns", apart := false, narrowed := true }
def NumRunsUptoSaid : Prop := numRunsUptoRow.holds Try.pinned (OpenSpec.upto numRunsSpec)

/-- 'salvorlaw2.NumTells', WHERE WHAT IT READS IS OF BULK AT MOST 1048576: true; the input reads as it did. -/
def numTellsUptoRow : OpenClaim := { program := "ytheokjjkjigcfaa", sum := "d18bc938f66a24e8b2d3f5d8a0548d2c9a4eb126ca88a6a6f3769ba8355c466c", func := "salvor/salvorlaw2.NumTells", spec := "numTells", apart := false, narrowed := true }
def NumTellsUptoSaid : Prop := numTellsUptoRow.holds Try.pinned (OpenSpec.upto numTellsSpec)

/-- 'salvorlaw2.NumBack', WHERE WHAT IT READS IS OF BULK AT MOST 1048576: true; the input reads as it did. -/
def numBackUptoRow : OpenClaim := { program := "ytheokjjkjigcfaa", sum := "d18bc938f66a24e8b2d3f5d8a0548d2c9a4eb126ca88a6a6f3769ba8355c466c", func := "salvor/salvorlaw2.NumBack", spec := "numBack", apart := false, narrowed := true }
def NumBackUptoSaid : Prop := numBackUptoRow.holds Try.pinned (OpenSpec.upto numBackSpec)

/-- 'salvorlaw2.NumFactors', WHERE WHAT IT READS IS OF BULK AT MOST 1048576: true; the input reads as it did. -/
def numFactorsUptoRow : OpenClaim := { program := "ytheokjjkjigcfaa", sum := "d18bc938f66a24e8b2d3f5d8a0548d2c9a4eb126ca88a6a6f3769ba8355c466c", func := "salvor/salvorlaw2.NumFactors", spec := "numFactors", apart := false, narrowed := true }
def NumFactorsUptoSaid : Prop := numFactorsUptoRow.holds Try.pinned (OpenSpec.upto numFactorsSpec)

/-- 'salvorlaw2.NumZeros', WHERE WHAT IT READS IS OF BULK AT MOST 1048576: true; the input reads as it did. -/
def numZerosUptoRow : OpenClaim := { program := "ytheokjjkjigcfaa", sum := "d18bc938f66a24e8b2d3f5d8a0548d2c9a4eb126ca88a6a6f3769ba8355c466c", func := "salvor/salvorlaw2.NumZeros", spec := "numZeros", apart := false, narrowed := true }
def NumZerosUptoSaid : Prop := numZerosUptoRow.holds Try.pinned (OpenSpec.upto numZerosSpec)

/-- 'salvorlaw2.NumEdge', WHERE WHAT IT READS IS OF BULK AT MOST 1048576: true; the input reads as it did. -/
def numEdgeUptoRow : OpenClaim := { program := "ytheokjjkjigcfaa", sum := "d18bc938f66a24e8b2d3f5d8a0548d2c9a4eb126ca88a6a6f3769ba8355c466c", func := "salvor/salvorlaw2.NumEdge", spec := "numEdge", apart := false, narrowed := true }
def NumEdgeUptoSaid : Prop := numEdgeUptoRow.holds Try.pinned (OpenSpec.upto numEdgeSpec)

end Rows
end Go.Proofs.Ytheokjjkjigcfaa
