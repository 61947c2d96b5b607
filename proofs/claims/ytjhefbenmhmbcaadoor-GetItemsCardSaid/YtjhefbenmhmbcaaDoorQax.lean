/- Texts that this proof leans on, one behind the other: Kpure. -/
import Derived.Test.YtjhefbenmhmbcaaDoorQae
import Derived.Sort.LotA
import Derived.Sort.WalkA
set_option linter.unusedVariables false
set_option linter.unusedSimpArgs false
set_option maxRecDepth 100000
set_option maxHeartbeats 12800000
namespace Go.Proofs.YtjhefbenmhmbcaaDoor.Mx
open Go.Sort
instance:Inhabited It:=⟨⟨0,0,0⟩⟩
end Go.Proofs.YtjhefbenmhmbcaaDoor.Mx
