/- Texts that this proof leans on, one behind the other: Flds. -/
import Derived.Test.YtjhefbenmhmbcaaDoorQan
import Derived.Test.YtjhefbenmhmbcaaDoorQbg
set_option linter.unusedVariables false
set_option linter.unusedSimpArgs false
set_option maxRecDepth 100000
set_option maxHeartbeats 12800000
namespace Go.Proofs.YtjhefbenmhmbcaaDoor.Dw
open Go.ChangeShapes Go.WideShapes Go.ChangeAt Go.RowKit
theorem gFields : Tryd.prog.globalNamed "armillary/walk.fields" = some 0 := by kernel_rfl
theorem gFieldsType:(Tryd.prog.globals[0]?).map (·.type)=some 55:=by kernel_rfl
theorem cellsFive:Tryd.prog.cellsOf 55=5:=by kernel_rfl
theorem fl_of {l : List (String × DataW Unit)} {W : World} (hm : ("armillary/walk.fields", Rows.laid_armillary_walk_fields) ∈ l) (h : laidMet Tryd.prog l W) : Fl W := by
 obtain ⟨ps,hv,-,-⟩:=h
 obtain ⟨g,t,cs,fuel,p,hg,ht,hvar,hd⟩:=Word.laidVars_mem hv hm
 obtain rfl:=Option.some.inj (gFields.symm.trans hg)
 obtain rfl:=Option.some.inj (gFieldsType.symm.trans ht)
 have e:cs.toList=[0,6,0,2,0].map fun z=>Value.int .i64 z:=Lib.cells_of_tab Tryd.underlying55 Tryd.underlying3 Word.cellsInt cellsFive hd
 have cell:∀ (i:Nat),W.cell? ⟨0,i,none⟩=cs.toList[i]?:=fun i=>by rw [World.var?_cell gFields hvar i];simp
 rw [e] at cell
 exact ⟨cell 0,cell 1,cell 2,cell 3,cell 4⟩
end Go.Proofs.YtjhefbenmhmbcaaDoor.Dw
