/- Parts. -/
import Derived.Test.YtaccfepnhmgagaaGreatDoorVaa
import Derived.LaidMore
import Derived.Lib.LaidTab
import Derived.OpenShut
import Derived.ProofKit
set_option linter.unusedVariables false
set_option linter.unusedSimpArgs false
set_option maxRecDepth 100000
set_option maxHeartbeats 12800000
namespace Go.Proofs.YtaccfepnhmgagaaGreatDoor.Word
open Go.ChangeShapes Go.WideShapes Go.ChangeAt Go.RowKit
theorem J2 {P:Program} {w:World} {n:String} {d:DataW Unit}:∀ {l:List (String×DataW Unit)} {ps:List MemPlace},DataW.LaidVars P w l ps->(n,d)∈l ->
  ∃ g t cs fuel p,P.globalNamed n=some g/\(P.globals[g]?).map (·.type)=some t/\w.var? P n=some cs/\DataW.trod (fun _=>()) P w 0 (fun _=>true) false fuel t cs.toList=some (d,p)
 | [],_,_,h=>by cases h
 | (a,b) :: r,ps,h,hm=>by
  obtain ⟨g,t,cs,fuel,p,q,h1,h2,h3,h4,h5,h6⟩:=h;rcases List.mem_cons.1 hm with he | he
  ·cases he;exact ⟨g,t,cs,fuel,p,h1,h2,h3,h4⟩
  ·exact J2 h5 he
theorem q6q : Tryz.prog.globalNamed "armillary/word.bounds" = some 1 := by kernel_rfl
theorem q1n:(Tryz.prog.globals[1]?).map (·.type)=some 185:=by kernel_rfl
theorem Rw:Tryz.prog.cellsOf 184=2:=by kernel_rfl
theorem q8k:Tryz.prog.cellsOf 3=1:=by kernel_rfl
theorem two {α:Type} {l:List α} {i:Nat} {x y:α} (h:(l.drop i).take 2=[x,y]):l[i]? = some x/\l[i+1]? = some y:=by
 have h0:((l.drop i).take 2)[0]? = some x:=by rw [h];rfl
 have h1:((l.drop i).take 2)[1]? = some y:=by rw [h];rfl
 rw [List.getElem?_take_of_lt Lp,List.getElem?_drop] at h0 h1;exact ⟨h0,h1⟩
theorem tab_of {l : List (String × DataW Unit)} {W : World} (hm : ("armillary/word.bounds", Rows.laid_armillary_word_bounds) ∈ l) (h : laidMet Tryz.prog l W) : Tab W := by
 obtain ⟨ps,hv,-,-⟩:=h;obtain ⟨g,t,cs,fuel,p,hg,ht,hvar,hd⟩:=J2 hv hm;obtain rfl:=qi (q6q.symm.trans hg);obtain rfl:=qi (q1n.symm.trans ht);obtain ⟨xs,m,-,ex,-,hl,hel⟩:=DataW.trod_array Tryz.underlying185 hd
 have e3:xs.map (·.1)=[Lib.tabData .i64 [0,1073741824],Lib.tabData .i64 [0,1073741824],Lib.tabData .i64 [0,16777212],Lib.tabData .i64 [0,16777212],Lib.tabData .i64 [0,1048576],Lib.tabData .i64 [-1,1048576]] :=
  (DataW.agg.inj (Prod.mk.inj ex).1).symm
 have row:∀ (i:Nat) (a b:Int),i<6->(xs.map (·.1))[i]? = some (Lib.tabData .i64 [a,b])->cs.toList[i * 2]? = some (.int .i64 a)/\cs.toList[i * 2+1]? = some (.int .i64 b):=by
  intro i a b hi hx;have hE:=hel i hi;rw [Rw] at hE;obtain ⟨y,hy⟩:∃ y,xs[i]? = some y:=⟨_,List.getElem?_eq_getElem Li⟩;rw [List.getElem?_map,hy] at hx;have hy1:y.1=Lib.tabData .i64 [a,b]:=by simpa using hx
  rw [hy,show y=(Lib.tabData .i64 [a,b],y.2) by rw [<- hy1]] at hE;exact two (Lib.cells_of_tab Tryz.underlying184 Tryz.underlying3 q8k Rw hE)
 have cell:∀ (i:Nat),W.cell? ⟨1,i,none⟩=cs.toList[i]?:=fun i=>by rw [World.var?_cell q6q hvar i];simp
 have r0:=row 0 0 1073741824 Lp O7;have r1:=row 1 0 1073741824 Lp O7;have r2:=row 2 0 16777212 Lp O7;have r3:=row 3 0 16777212 Lp O7;have r4:=row 4 0 1048576 Lp O7;have r5:=row 5 (-1) 1048576 Lp O7;exact ⟨(cell 0).trans r0.1,(cell 1).trans r0.2,(cell 2).trans r1.1,(cell 3).trans r1.2,(cell 4).trans r2.1,(cell 5).trans r2.2,(cell 6).trans r3.1,(cell 7).trans r3.2,(cell 8).trans r4.1,(cell 9).trans r4.2,(cell 10).trans r5.1,(cell 11).trans r5.2⟩
end Go.Proofs.YtaccfepnhmgagaaGreatDoor.Word
