/- Parts. -/
import Derived.Test.YtbddhncgemeohaaGreatDoorYab
import Derived.Test.YtbddhncgemeohaaGreatDoorYbi
import Derived.LaidMore
import Derived.Lib.LaidTab
set_option linter.unusedVariables false
set_option linter.unusedSimpArgs false
set_option maxRecDepth 100000
set_option maxHeartbeats 12800000
namespace Go.Proofs.YtbddhncgemeohaaGreatDoor.Word
open Go.ChangeShapes Go.WideShapes Go.ChangeAt Go.RowKit
theorem Yw {P:Program} {w:World} {n:String} {d:DataW Unit}:∀ {l:List (String×DataW Unit)} {ps:List MemPlace},DataW.LaidVars P w l ps->(n,d)∈l ->
  ∃ g t cs fuel p,P.globalNamed n=some g/\(P.globals[g]?).map (·.type)=some t/\w.var? P n=some cs/\DataW.trod (fun _=>()) P w 0 (fun _=>true) false fuel t cs.toList=some (d,p)
 | [],_,_,h=>by cases h
 | (a,b) :: r,ps,h,hm=>by
  obtain ⟨g,t,cs,fuel,p,q,h1,h2,h3,h4,h5,h6⟩:=h;rcases List.mem_cons.1 hm with he | he
  ·cases he;exact ⟨g,t,cs,fuel,p,h1,h2,h3,h4⟩
  ·exact Yw h5 he
theorem q8n:Tryz.prog.cellsOf 3=1:=by kernel_rfl
end Go.Proofs.YtbddhncgemeohaaGreatDoor.Word
namespace Go.Proofs.YtbddhncgemeohaaGreatDoor.Dw
open Go.ChangeShapes Go.WideShapes Go.ChangeAt Go.RowKit
theorem q6l : Tryz.prog.globalNamed "armillary/walk.fields" = some 0 := by kernel_rfl
theorem q1p:(Tryz.prog.globals[0]?).map (·.type)=some 68:=by kernel_rfl
theorem q7a:Tryz.prog.cellsOf 68=5:=by kernel_rfl
theorem qdi {l : List (String × DataW Unit)} {W : World} (hm : ("armillary/walk.fields", Rows.laid_armillary_walk_fields) ∈ l) (h : laidMet Tryz.prog l W) : Fl W := by
 obtain ⟨ps,hv,-,-⟩:=h;obtain ⟨g,t,cs,fuel,p,hg,ht,hvar,hd⟩:=Word.Yw hv hm;obtain rfl:=qj (q6l.symm.trans hg);obtain rfl:=qj (q1p.symm.trans ht);have e:cs.toList=[0,6,0,2,0].map fun z=>Value.int .i64 z:=Lib.cells_of_tab Tryz.underlying68 Tryz.underlying3 Word.q8n q7a hd
 have cell:∀ (i:Nat),W.cell? ⟨0,i,none⟩=cs.toList[i]?:=fun i=>by rw [World.var?_cell q6l hvar i];simp
 rw [e] at cell;exact ⟨cell 0,cell 1,cell 2,cell 3,cell 4⟩
end Go.Proofs.YtbddhncgemeohaaGreatDoor.Dw
