/- Parts. -/
import Derived.Test.YtaccfepnhmgagaaGreatDoorVac
import Derived.Test.YtaccfepnhmgagaaGreatDoorVad
set_option linter.unusedVariables false
set_option linter.unusedSimpArgs false
set_option maxRecDepth 100000
set_option maxHeartbeats 12800000
namespace Go.Proofs.YtaccfepnhmgagaaGreatDoor.Vw
open Go.RowKit Ar Mx
def Za (n:Nat) (c at_:Int):Bool:=decide (0<=at_) && decide (at_<=n - (7+3 * c))
theorem qe6 {n:Nat} {c a:Int} (h:Za n c a=true):0<=a/\a<=n - (7+3 * c):=by unfold Za at h;simpa using h
end Go.Proofs.YtaccfepnhmgagaaGreatDoor.Vw
