/- Texts that this proof leans on, one behind the other: Cmp2. -/
import Derived.Test.YtjhefbenmhmbcaaDoorQay
import Derived.Deep.RegionWith
set_option linter.unusedVariables false
set_option linter.unusedSimpArgs false
set_option maxRecDepth 100000
set_option maxHeartbeats 12800000
namespace Go.Proofs.YtjhefbenmhmbcaaDoor.Kp
open Go.RowKit Go.Proofs.YtjhefbenmhmbcaaDoor.Mx Go.Proofs.YtjhefbenmhmbcaaDoor.Dr
theorem cells3 {w:World} {b:Nat} {T:TypeId} {x0 x1 x2:Value} (h:w.heap[b]? = some (.cells #[x0,x1,x2] T (0,0))):w.cell? ⟨b,0,none⟩=some x0∧w.cell? ⟨b,1,none⟩=some x1∧w.cell? ⟨b,2,none⟩=some x2:=by
 refine ⟨?_,?_,?_⟩ <;> (unfold World.cell?;simp [h])
end Go.Proofs.YtjhefbenmhmbcaaDoor.Kp
