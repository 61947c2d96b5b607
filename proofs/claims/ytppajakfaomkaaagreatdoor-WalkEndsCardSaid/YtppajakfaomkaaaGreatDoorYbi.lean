/- Parts. -/
import Derived.Test.YtppajakfaomkaaaGreatDoorYaa
import Derived.LaidMore
import Derived.Lib.LaidTab
import Derived.OpenShut
import Derived.ProofKit
set_option linter.unusedVariables false
set_option linter.unusedSimpArgs false
set_option maxRecDepth 100000
set_option maxHeartbeats 12800000
namespace Go.Proofs.YtppajakfaomkaaaGreatDoor.Word
open Go.ChangeShapes Go.WideShapes Go.ChangeAt Go.RowKit
theorem Yv {P:Program} {w:World} {n:String} {d:DataW Unit}:∀ {l:List (String×DataW Unit)} {ps:List MemPlace},DataW.LaidVars P w l ps->(n,d)∈l ->
  ∃ g t cs fuel p,P.globalNamed n=some g/\(P.globals[g]?).map (·.type)=some t/\w.var? P n=some cs/\DataW.trod (fun _=>()) P w 0 (fun _=>true) false fuel t cs.toList=some (d,p)
 | [],_,_,h=>by cases h
 | (a,b) :: r,ps,h,hm=>by
  obtain ⟨g,t,cs,fuel,p,q,h1,h2,h3,h4,h5,h6⟩:=h
  rcases List.mem_cons.1 hm with he | he
  ·cases he
   exact ⟨g,t,cs,fuel,p,h1,h2,h3,h4⟩
  ·exact Yv h5 he
theorem q8a:Tryz.prog.cellsOf 3=1:=by kernel_rfl
end Go.Proofs.YtppajakfaomkaaaGreatDoor.Word
