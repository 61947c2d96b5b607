/- Texts that this proof leans on, one behind the other: Err. -/
import Derived.Test.YtmdplidjkkjmmaaDoorQaa
import Derived.LaidEql
import Derived.Lib.IfaceEq
import Derived.RowKitTokens
import Derived.Stop.Asserts
import Derived.Stop.IfaceNil
set_option linter.unusedVariables false
set_option linter.unusedSimpArgs false
set_option maxRecDepth 100000
set_option maxHeartbeats 12800000
namespace Go.Proofs.YtmdplidjkkjmmaaDoor.Er
open Go.RowKit Go.Extern.Stop Go.Stop Go.Extern Go.Proofs.YtmdplidjkkjmmaaDoor.Ar
theorem isE:Tryd.prog.isIface 29=true:=by kernel_rfl
end Go.Proofs.YtmdplidjkkjmmaaDoor.Er
