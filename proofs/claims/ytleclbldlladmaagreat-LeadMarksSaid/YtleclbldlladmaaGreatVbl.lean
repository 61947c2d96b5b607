/- Parts. -/
import Derived.Test.YtleclbldlladmaaGreatVav
import Derived.Test.YtleclbldlladmaaGreatVbk
set_option linter.unusedVariables false
set_option linter.unusedSimpArgs false
set_option maxRecDepth 100000
set_option maxHeartbeats 12800000
namespace Go.Proofs.YtleclbldlladmaaGreat.Op10
open Go.ChangeShapes Go.WideShapes Go.ChangeAt Go.RowKit Go.Deep Og Op4 Mx
def Fit (v:Value):Prop:=∀ a n c,v = .slice a n c->n<=c/\c<=maxLen
theorem q5p:Fit (.slice none 0 0):=by rintro a n c e;cases e;simp [maxLen]
theorem flat_get {α:Type} {f:α->List Value} {sz:Nat} (hL:Lays f sz) {xs:List α} {j:Nat} {u:Value} (h:(xs.flatMap f)[j]? = some u):∃ x,xs[j / sz]? = some x/\(f x)[j % sz]? = some u:=by have hj:=(List.getElem?_eq_some_iff.1 h).1;rw [hL.flat] at hj;have hp:=hL.pos;have hi:j / sz<xs.length:=(Nat.div_lt_iff_lt_mul hp).2 hj;refine ⟨xs[j / sz],List.getElem?_eq_getElem hi,?_⟩;have e:=hL.at (xs:=xs) (i:=j / sz) (j:=j % sz) (List.getElem?_eq_getElem hi) (Nat.mod_lt _ hp);rw [Nat.div_add_mod'] at e;rw [<- e];exact h
theorem qcb {W:World} {v:Value} {os:List O} (h:Uh W v os) (hf:Fit v):Sq fO W v os:=by
 obtain ⟨a,cap,rfl,hl,hw,hc⟩:=h;obtain ⟨h1,h2⟩:=hf _ _ _ rfl;refine ⟨a,cap,rfl,h1,h2,?_⟩;rcases hc with h0 | ⟨b,off,rfl,hb,hcell⟩
 ·exact .inl h0
 ·refine .inr ⟨b,off,rfl,hb,fun j u hu=>?_⟩;obtain ⟨o,ho,hu⟩:=flat_get q73 hu;have hi:=(List.getElem?_eq_some_iff.1 ho).1;obtain ⟨k0,k1,k2,k3⟩:=hcell (j / 4) hi;have e:q2h os (j / 4)=o:=by unfold q2h;rw [List.getD_eq_getElem?_getD,ho];rfl
  rw [e] at k0 k1 k2 k3;have ej:off+j=off+j / 4 * 4+j % 4:=by omega
  have h4:j % 4<4:=Nat.mod_lt _ Lg;rw [ej];generalize j % 4=r at *;match r,h4 with
  | 0,_=>simp [fO] at hu;rw [<- hu];exact k0
  | 1,_=>simp [fO] at hu;rw [<- hu];exact k1
  | 2,_=>simp [fO] at hu;rw [<- hu];exact k2
  | 3,_=>simp [fO] at hu;rw [<- hu];exact k3
theorem q7e {W:World} {v:Value} {zs:List Int} (h:Law.Ints W .i64 v zs) (hf:Fit v):Sq fI W v zs:=by
 obtain ⟨a,cap,rfl,hl,hw,hc⟩:=h;obtain ⟨h1,h2⟩:=hf _ _ _ rfl;refine ⟨a,cap,rfl,h1,h2,?_⟩;rcases hc with h0 | ⟨b,off,rfl,hb,hcell⟩
 ·exact .inl h0
 ·refine .inr ⟨b,off,rfl,hb,fun j u hu=>?_⟩;obtain ⟨o,ho,hu⟩:=flat_get yj hu;rw [Nat.div_one] at ho;have hi:=(List.getElem?_eq_some_iff.1 ho).1;have k0:=hcell j hi;rw [List.getD_eq_getElem?_getD,ho] at k0;rw [Nat.mod_one] at hu;simp [fI] at hu;rw [<- hu];exact k0
section
variable {H:Type} {enc:TypeId×Value->H} {W:World}
theorem q21 {n:Nat} {v:Value} {x:DataW H×List MemPlace} (h:DataW.trod enc Tryz.prog W 0 (fun _=>true) true n 25 [v]=some x):Fit v:=by
 rcases open_ints Tryz.underlying25 Tryz.underlying3 Le h with ⟨hcs,hx⟩ | ⟨a,len',cap',zs,hcs,_,hl,hm,hz,hx,hcell,hwz⟩
 ·exact Hb
 ·obtain rfl:v = .slice (some a) len' cap':=by simpa using hcs
  rintro a n c e;cases e;exact ⟨hl,hm⟩
theorem qb4 {n:Nat} {v:Value} {x:DataW H×List MemPlace} (h:DataW.trod enc Tryz.prog W 0 (fun _=>true) true n 52 [v]=some x):Fit v:=by
 rcases Law.Q7 Tryz.underlying52 opsOf q9u q2b h with ⟨hcs,hx⟩ | ⟨a,len,cap,m,D,Pl,hcs,_,hl,hm,hmm,hx,hi⟩
 ·exact Hb
 ·obtain rfl:v = .slice (some a) len cap:=by simpa using hcs
  rintro a n c e;cases e;exact ⟨hl,hm⟩
structure Rws (W:World) (v:Value) (rs:List (List O)) (ss:List Sv):Prop where
 r:U5 W v rs
 sq:Sq fS W v ss
 len:ss.length=rs.length
 row:∀ (i:Nat) (s:Sv) (r:List O),ss[i]? = some s->rs[i]? = some r->Sq fO W s.v r
theorem Tz {n:Nat} {v:Value} {x:DataW H×List MemPlace} (h:DataW.trod enc Tryz.prog W 0 (fun _=>true) true n 24 [v]=some x):∃ rs ss,Rws W v rs ss:=by
 rcases open_slice Tryz.underlying24 h with ⟨hcs,hx⟩ | ⟨a,len,cap,m,n',D,Pl,hcs,_,hl,hm,hmm,hx,hi⟩
 ·obtain rfl:v = .slice none 0 0:=by simpa using hcs
  exact ⟨[],[],q7r W,Sq.nil W,rfl,fun i s r e=>by simp at e⟩
 ·obtain rfl:v = .slice (some a) len cap:=by simpa using hcs
  simp only [if_true] at hmm;rw [q8t] at hi
  have key:∀ i,∃ (u:Sv) (os:List O),i<len->W.cell? (a.add i)=some u.v/\Uh W u.v os/\Fit u.v:=by
   intro i;by_cases hil:i<len
   ·obtain ⟨cs',hc,ht'⟩:=hi i Lb;obtain ⟨_,hcl,hat⟩:=World.cells?_some hc
    obtain ⟨u,rfl⟩:∃ u,cs'=[u]:=by
     match cs',hcl with
     | [u],_=>exact ⟨u,rfl⟩
    obtain ⟨os,hos⟩:=Uj ht';have hft:=qb4 ht';have h1:=hat 0 Lg;rw [Nat.mul_one] at h1;obtain ⟨a1,c1,e1,-⟩:=id hos;refine ⟨⟨a1,os.length,c1⟩,os,fun _=>⟨?_,?_,?_⟩⟩
    ·show _=some (Value.slice a1 os.length c1);rw [<- e1];simpa [Addr.add] using h1
    ·show Uh W (Value.slice a1 os.length c1) os;rw [<- e1];exact hos
    ·show Fit (Value.slice a1 os.length c1);rw [<- e1];exact hft
   ·exact ⟨⟨none,0,0⟩,[],fun h=>absurd h hil⟩
  obtain ⟨u,h1⟩:=Classical.axiomOfChoice key;obtain ⟨os,hu⟩:=Classical.axiomOfChoice h1
  have hsq:(len=0\/∃ b off,some a=some ⟨b,off,none⟩/\b<W.heap.size/\∀ i,i<len->W.cell? ⟨b,off+i,none⟩=some (u i).v):=by
   by_cases h0:len=0
   ·exact .inl h0
   ·obtain ⟨b,off,spot⟩:=a;have h00:=(hu 0 Lb).1;have hspot:spot=none:=by simpa [Addr.add] using World.cell?_spot h00
    subst hspot;refine .inr ⟨b,off,rfl,?_,fun i hi'=>?_⟩
    ·exact Gw
    ·have:=(hu i hi').1;rwa [add_plain] at this
  refine ⟨(List.range len).map os,(List.range len).map u,⟨some a,cap,fun i=>(u i).v,by simp,by simpa using (by omega:len<=maxLen),by simpa using hsq,fun i hi'=>?_⟩,⟨some a,cap,by simp,by simpa using hl,hm,?_⟩,by simp,fun i s r e1 e2=>?_⟩
  ·have hil:i<len:=by simpa using hi'
   have e:J7 ((List.range len).map os) i=os i:=by unfold J7;simp [List.getD_eq_getElem?_getD,hil]
   rw [e];exact (hu i hil).2.1
  ·rcases hsq with h0 | ⟨b,off,e,hb,hc⟩
   ·exact .inl Oy
   ·refine .inr ⟨b,off,e,hb,fun j x hx=>?_⟩;obtain ⟨s,hs,hx⟩:=flat_get Tc hx;rw [Nat.div_one] at hs;rw [Nat.mod_one] at hx;have hj:=(List.getElem?_eq_some_iff.1 hs).1;simp at hj;simp [hj] at hs;simp [fS] at hx;rw [hc j hj,hs,hx]
  ·have hj:=(List.getElem?_eq_some_iff.1 e1).1;simp at hj;simp [hj] at e1 e2;rw [<- e1,<- e2];exact qcb (hu i hj).2.1 (hu i hj).2.2
theorem open_scr {r:Reach} {b0:Nat} {v:Value} {d:DataW H} {p:List MemPlace} (hv:Value.okWide Tryz.prog W r b0 27 v) (h:DataW.Trod enc Tryz.prog W 0 (fun _=>true) true 27 v d p) :
  ∃ t c wd vv vo vp vd rs ss ps ds,v = .agg #[.int .i64 t,.int .i64 c,.int .i64 wd,.int .i64 vv,vo,vp,vd]/\Rws W vo rs ss/\Law.Ints W .i64 vp ps/\Sq fI W vp ps/\Law.Ints W .i64 vd ds/\Sq fI W vd ds:=by
 obtain ⟨cs,rfl,hsz⟩:=okWide_struct Tryz.underlying27 hv;obtain ⟨fuel,hf⟩:=h;obtain ⟨y0,y1,y2,y3,n,-,hl,h0,h1,h2,h3⟩:=Joins.trod_struct4 Tryz.underlying27 hf;have e7:Tryz.prog.cellsOf 27=7:=by kernel_rfl
 rw [e7] at hsz;obtain ⟨l⟩:=cs;match l,hsz with
 | [x0,x1,x2,x3,x4,x5,x6],_ =>
  have k4:Tryz.prog.cellsOf 23=4:=by kernel_rfl
  have k1:Tryz.prog.cellsOf 24=1:=by kernel_rfl
  have k2:Tryz.prog.cellsOf 25=1:=by kernel_rfl
  have k3:Tryz.prog.cellsOf 3=1:=by kernel_rfl
  simp [Value.cells,k4,k1,k2] at h0 h1 h2 h3;obtain ⟨z0,z1,z2,z3,m,-,-,q0,q1,q2,q3⟩:=Joins.trod_struct4 Tryz.underlying23 h0;simp [k3] at q0 q1 q2 q3;obtain ⟨i0,j0,-,-⟩:=DataW.trod_int Tryz.underlying3 q0;obtain ⟨i1,j1,-,-⟩:=DataW.trod_int Tryz.underlying3 q1;obtain ⟨i2,j2,-,-⟩:=DataW.trod_int Tryz.underlying3 q2;obtain ⟨i3,j3,-,-⟩:=DataW.trod_int Tryz.underlying3 q3;simp at j0 j1 j2 j3;subst j0 j1 j2 j3;obtain ⟨rs,ss,hr⟩:=Tz h1;obtain ⟨ps,hp⟩:=Yy h2;obtain ⟨ds,hd⟩:=Yy h3;exact ⟨i0,i1,i2,i3,x4,x5,x6,rs,ss,ps,ds,rfl,hr,hp,q7e hp (q21 h2),hd,q7e hd (q21 h3)⟩
end
end Go.Proofs.YtleclbldlladmaaGreat.Op10
