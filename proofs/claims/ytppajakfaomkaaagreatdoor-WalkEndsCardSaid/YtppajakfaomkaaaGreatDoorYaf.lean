/- Parts. -/
import Derived.Test.YtppajakfaomkaaaGreatDoorYaa
import Derived.LaidEql
import Derived.Lib.IfaceEq
import Derived.RowKitTokens
import Derived.Stop.Asserts
import Derived.Stop.IfaceNil
set_option linter.unusedVariables false
set_option linter.unusedSimpArgs false
set_option maxRecDepth 100000
set_option maxHeartbeats 12800000
namespace Go.Proofs.YtppajakfaomkaaaGreatDoor.Er
open Go.RowKit Go.Extern.Stop Go.Stop Go.Extern Ar
theorem isE:Tryz.prog.isIface 107=true:=by kernel_rfl
end Go.Proofs.YtppajakfaomkaaaGreatDoor.Er
