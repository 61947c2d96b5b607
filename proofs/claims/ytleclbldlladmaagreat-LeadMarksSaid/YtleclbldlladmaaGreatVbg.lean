/- Parts. -/
import Derived.Test.YtleclbldlladmaaGreatVac
import Derived.Test.YtleclbldlladmaaGreatVad
set_option linter.unusedVariables false
set_option linter.unusedSimpArgs false
set_option maxRecDepth 100000
set_option maxHeartbeats 12800000
namespace Go.Proofs.YtleclbldlladmaaGreat.Vw
open Go.RowKit Ar Mx
def Z9 (n:Nat) (c at_:Int):Bool:=decide (0<=at_) && decide (at_<=n - (7+3 * c))
theorem qds {n:Nat} {c a:Int} (h:Z9 n c a=true):0<=a/\a<=n - (7+3 * c):=by unfold Z9 at h;simpa using h
end Go.Proofs.YtleclbldlladmaaGreat.Vw
