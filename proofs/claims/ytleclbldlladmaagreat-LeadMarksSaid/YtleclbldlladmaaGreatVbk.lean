/- Parts. -/
import Derived.Test.YtleclbldlladmaaGreatVal
import Derived.Lib.SmallJoins
set_option linter.unusedVariables false
set_option linter.unusedSimpArgs false
set_option maxRecDepth 100000
set_option maxHeartbeats 12800000
namespace Go.Proofs.YtleclbldlladmaaGreat.Op4
open Go.ChangeShapes Go.WideShapes Go.ChangeAt Go.RowKit Go.Deep Og
section
variable {H:Type} {enc:TypeId×Value->H} {W:World}
theorem Yy {n:Nat} {v:Value} {x:DataW H×List MemPlace} (h:DataW.trod enc Tryz.prog W 0 (fun _=>true) true n 25 [v]=some x):∃ zs,Law.Ints W .i64 v zs:=by
 rcases open_ints Tryz.underlying25 Tryz.underlying3 Le h with ⟨hcs,hx⟩ | ⟨a,len',cap',zs,hcs,_,hl,hm,hz,hx,hcell,hwz⟩
 ·obtain rfl:v = .slice none 0 0:=by simpa using hcs
  exact Hm
 ·obtain rfl:v = .slice (some a) len' cap':=by simpa using hcs
  simp only [if_true] at hz;have hlen:(zs.take len').length=len':=by rw [List.length_take];omega
  refine ⟨zs.take len',some a,cap',by rw [hlen],by omega,fun n hn=>hwz n (List.mem_of_mem_take hn),?_⟩;by_cases h0:len'=0
  ·exact .inl Lb
  ·exact Bh
theorem opsOf:Tryz.prog.underlying 86=some (.struct (Tryz.prog.fieldsOf 86)):=by kernel_rfl
theorem q9u:oneCellFields Tryz.prog (Tryz.prog.fieldsOf 86)=true:=by kernel_rfl
theorem q6k:(Tryz.prog.fieldsOf 86).size=4:=by kernel_rfl
theorem q2b:Tryz.prog.cellsOf 86=(Tryz.prog.fieldsOf 86).size:=by kernel_rfl
theorem qay:((Tryz.prog.fieldsOf 86).all fun f=>f.type == 3)=true:=by kernel_rfl
theorem Uj {n:Nat} {v:Value} {x:DataW H×List MemPlace} (h:DataW.trod enc Tryz.prog W 0 (fun _=>true) true n 52 [v]=some x):∃ os,Uh W v os:=by
 rcases Law.Q7 Tryz.underlying52 opsOf q9u q2b h with ⟨hcs,hx⟩ | ⟨a,len,cap,m,D,Pl,hcs,_,hl,hm,hmm,hx,hi⟩
 ·obtain rfl:v = .slice none 0 0:=by simpa using hcs
  exact ⟨[],qb5 W⟩
 ·obtain rfl:v = .slice (some a) len cap:=by simpa using hcs
  simp only [if_true] at hmm;rw [q6k] at hi
  have key:∀ i,i<len->∀ j,j<4->∃ z:Int,W.cell? (a.add (i * 4+j))=some (.int .i64 z)/\(Lit.int .i64 z).wf=true:=by
   intro i hil j hj;obtain ⟨ys,n,_,_,_,hf'⟩:=hi i Lb;have hjs:j<(Tryz.prog.fieldsOf 86).size:=by rw [q6k];exact hj
   obtain ⟨u,y,h1,h2,h3⟩:=hf' j _ (Array.getElem?_eq_getElem hjs);rw [Law.q4q qay j _ (Array.getElem?_eq_getElem hjs)] at h3;obtain ⟨z,hz,-,hw⟩:=DataW.trod_int Tryz.underlying3 h3;obtain rfl:u = .int .i64 z:=by simpa using hz
   exact ⟨z,h1,hw⟩
  have at_:∀ i j,i<len->j<4->W.cell? (a.add (i * 4+j))=some (.int .i64 (intOf ((W.cell? (a.add (i * 4+j))).getD undef))):=by intro i j hi hj;obtain ⟨z,h1,-⟩:=key i hi j hj;rw [h1];rfl
  refine ⟨(List.range len).map fun i=>(intOf ((W.cell? (a.add (i * 4+0))).getD undef),intOf ((W.cell? (a.add (i * 4+1))).getD undef),intOf ((W.cell? (a.add (i * 4+2))).getD undef),intOf ((W.cell? (a.add (i * 4+3))).getD undef)),some a,cap,by simp,by simpa using (by omega:len<=maxLen),?_,?_⟩
  ·intro o ho;obtain ⟨i,hi,rfl⟩:=List.mem_map.1 ho;obtain ⟨z,h1,hw⟩:=key i (List.mem_range.1 hi) 0 Lg;unfold wfO;simp only;rw [h1];exact hw
  ·by_cases h0:len=0
   ·exact .inl Oy
   ·obtain ⟨b,off,spot⟩:=a;obtain ⟨z0,h00,-⟩:=key 0 Lb 0 Lg;have hspot:spot=none:=by simpa [Addr.add] using World.cell?_spot h00
    subst hspot;refine .inr ⟨b,off,rfl,?_,fun i hi=>?_⟩
    ·exact Gw
    ·have hi':i<len:=by simpa using hi
     have e:q2h ((List.range len).map fun i=>(intOf ((W.cell? ((⟨b,off,none⟩:Addr).add (i * 4+0))).getD undef),intOf ((W.cell? ((⟨b,off,none⟩:Addr).add (i * 4+1))).getD undef),intOf ((W.cell? ((⟨b,off,none⟩:Addr).add (i * 4+2))).getD undef),intOf ((W.cell? ((⟨b,off,none⟩:Addr).add (i * 4+3))).getD undef))) i=(intOf ((W.cell? ((⟨b,off,none⟩:Addr).add (i * 4+0))).getD undef),intOf ((W.cell? ((⟨b,off,none⟩:Addr).add (i * 4+1))).getD undef),intOf ((W.cell? ((⟨b,off,none⟩:Addr).add (i * 4+2))).getD undef),intOf ((W.cell? ((⟨b,off,none⟩:Addr).add (i * 4+3))).getD undef)):=by unfold q2h;simp [List.getD_eq_getElem?_getD,hi']
     rw [e];have a0:=at_ i 0 hi' Lg;have a1:=at_ i 1 hi' Lg;have a2:=at_ i 2 hi' Lg;have a3:=at_ i 3 hi' Lg;refine ⟨?_,?_,?_,?_⟩
     ·rw [<- a0,add_plain];rfl
     ·rw [<- a1,add_plain,Nat.add_assoc]
     ·rw [<- a2,add_plain,Nat.add_assoc]
     ·rw [<- a3,add_plain,Nat.add_assoc]
theorem q8t:Tryz.prog.cellsOf 52=1:=by kernel_rfl
end
end Go.Proofs.YtleclbldlladmaaGreat.Op4
