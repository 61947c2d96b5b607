/- Parts. -/
import Derived.Test.YtppajakfaomkaaaGreatDoorYbc
import Derived.Test.YtppajakfaomkaaaGreatDoorYbi
set_option linter.unusedVariables false
set_option linter.unusedSimpArgs false
set_option maxRecDepth 100000
set_option maxHeartbeats 12800000
namespace Go.Proofs.YtppajakfaomkaaaGreatDoor.Dw
open Go.ChangeShapes Go.WideShapes Go.ChangeAt Go.RowKit
theorem q54 : Tryz.prog.globalNamed "armillary/walk.fields" = some 0 := by kernel_rfl
theorem q0q:(Tryz.prog.globals[0]?).map (·.type)=some 115:=by kernel_rfl
theorem q6m:Tryz.prog.cellsOf 115=5:=by kernel_rfl
theorem fl_of {l : List (String × DataW Unit)} {W : World} (hm : ("armillary/walk.fields", Rows.laid_armillary_walk_fields) ∈ l) (h : laidMet Tryz.prog l W) : Fl W := by
 obtain ⟨ps,hv,-,-⟩:=h
 obtain ⟨g,t,cs,fuel,p,hg,ht,hvar,hd⟩:=Word.Yv hv hm
 obtain rfl:=qi (q54.symm.trans hg)
 obtain rfl:=qi (q0q.symm.trans ht)
 have e:cs.toList=[0,6,0,2,0].map fun z=>Value.int .i64 z:=Lib.cells_of_tab Tryz.underlying115 Tryz.underlying3 Word.q8a q6m hd
 have cell:∀ (i:Nat),W.cell? ⟨0,i,none⟩=cs.toList[i]?:=fun i=>by rw [World.var?_cell q54 hvar i];simp
 rw [e] at cell
 exact ⟨cell 0,cell 1,cell 2,cell 3,cell 4⟩
end Go.Proofs.YtppajakfaomkaaaGreatDoor.Dw
