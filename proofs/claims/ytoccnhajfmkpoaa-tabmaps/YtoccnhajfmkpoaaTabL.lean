/- Two tables of the two codes, written out as a slice. -/
import Derived.Test.YtoccnhajfmkpoaaWalksD
namespace Go.Proofs.Ytoccnhajfmkpoaa
open Go.RowKit

theorem built_EA : Try.prog.builtSlice 24 2 [(0, tv tbE), (1, tv tbA)] = some (cs (tbE ++ tbA)) := by kernel_rfl
theorem built_AE : Try.prog.builtSlice 24 2 [(0, tv tbA), (1, tv tbE)] = some (cs (tbA ++ tbE)) := by kernel_rfl

end Go.Proofs.Ytoccnhajfmkpoaa
