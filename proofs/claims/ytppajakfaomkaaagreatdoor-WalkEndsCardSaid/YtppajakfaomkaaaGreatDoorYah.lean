/- Parts. -/
import Derived.Test.YtppajakfaomkaaaGreatDoorYaa
import Derived.Test.YtppajakfaomkaaaGreatDoorYae
import Derived.WalkSpells
set_option linter.unusedVariables false
set_option linter.unusedSimpArgs false
set_option maxRecDepth 100000
set_option maxHeartbeats 12800000
namespace Go.Proofs.YtppajakfaomkaaaGreatDoor.Og
open Go.RowKit Go.Maps Ar
theorem c7 {w:World} {b:Nat} {t:TypeId} {x0 x1 x2 x3 x4 x5 x6:Value} (h:w.heap[b]? = some (.cells #[x0,x1,x2,x3,x4,x5,x6] t (0,0))) :
  w.cell? ⟨b,0,none⟩=some x0/\w.cell? ⟨b,1,none⟩=some x1/\w.cell? ⟨b,2,none⟩=some x2/\w.cell? ⟨b,3,none⟩=some x3/\w.cell? ⟨b,4,none⟩=some x4/\w.cell? ⟨b,5,none⟩=some x5/\w.cell? ⟨b,6,none⟩=some x6 :=
 ⟨by rw [cell_of_row _ _ _ _ _ _ h];rfl,by rw [cell_of_row _ _ _ _ _ _ h];rfl,by rw [cell_of_row _ _ _ _ _ _ h];rfl,by rw [cell_of_row _ _ _ _ _ _ h];rfl,by rw [cell_of_row _ _ _ _ _ _ h];rfl,by rw [cell_of_row _ _ _ _ _ _ h];rfl,by rw [cell_of_row _ _ _ _ _ _ h];rfl⟩
end Go.Proofs.YtppajakfaomkaaaGreatDoor.Og
namespace Go.Proofs.YtppajakfaomkaaaGreatDoor.Al
open Go.RowKit Ar
theorem q8p:Tryz.prog.eqGuardType Tryz.prog.depth 39=false:=by kernel_rfl
end Go.Proofs.YtppajakfaomkaaaGreatDoor.Al
