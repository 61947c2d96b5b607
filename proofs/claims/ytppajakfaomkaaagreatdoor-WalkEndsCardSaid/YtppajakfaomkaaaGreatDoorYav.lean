/- Parts. -/
import Derived.Test.YtppajakfaomkaaaGreatDoorYai
import Derived.Test.YtppajakfaomkaaaGreatDoorYaq
import Derived.Test.YtppajakfaomkaaaGreatDoorYar
import Derived.Test.YtppajakfaomkaaaGreatDoorYau
set_option linter.unusedVariables false
set_option linter.unusedSimpArgs false
set_option maxRecDepth 100000
set_option maxHeartbeats 12800000
namespace Go.Proofs.YtppajakfaomkaaaGreatDoor.Op10
open Go.ChangeShapes Go.WideShapes Go.ChangeAt Go.RowKit Go.Deep Og Op4 Mx
def Fit (v:Value):Prop:=∀ a n c,v = .slice a n c->n<=c/\c<=maxLen
theorem q6p:Fit (.slice none 0 0):=by rintro a n c e;cases e;simp [maxLen]
theorem flat_get {α:Type} {f:α->List Value} {sz:Nat} (hL:Lays f sz) {xs:List α} {j:Nat} {u:Value} (h:(xs.flatMap f)[j]? = some u):∃ x,xs[j / sz]? = some x/\(f x)[j % sz]? = some u:=by
 have hj:=(List.getElem?_eq_some_iff.1 h).1
 rw [hL.flat] at hj
 have hp:=hL.pos
 have hi:j / sz<xs.length:=(Nat.div_lt_iff_lt_mul hp).2 hj
 refine ⟨xs[j / sz],List.getElem?_eq_getElem hi,?_⟩
 have e:=hL.at (xs:=xs) (i:=j / sz) (j:=j % sz) (List.getElem?_eq_getElem hi) (Nat.mod_lt _ hp)
 rw [Nat.div_add_mod'] at e
 rw [<- e];exact h
theorem qcy {W:World} {v:Value} {os:List O} (h:Uo W v os) (hf:Fit v):Sq fO W v os:=by
 obtain ⟨a,cap,rfl,hl,hw,hc⟩:=h
 obtain ⟨h1,h2⟩:=hf _ _ _ rfl
 refine ⟨a,cap,rfl,h1,h2,?_⟩
 rcases hc with h0 | ⟨b,off,rfl,hb,hcell⟩
 ·exact .inl h0
 ·refine .inr ⟨b,off,rfl,hb,fun j u hu=>?_⟩
  obtain ⟨o,ho,hu⟩:=flat_get q75 hu
  have hi:=(List.getElem?_eq_some_iff.1 ho).1
  obtain ⟨k0,k1,k2,k3⟩:=hcell (j / 4) hi
  have e:q25 os (j / 4)=o:=by unfold q25;rw [List.getD_eq_getElem?_getD,ho];rfl
  rw [e] at k0 k1 k2 k3
  have ej:off+j=off+j / 4 * 4+j % 4:=by omega
  have h4:j % 4<4:=Nat.mod_lt _ (by decide)
  rw [ej]
  generalize j % 4=r at *
  match r,h4 with
  | 0,_=>simp [fO] at hu;rw [<- hu];exact k0
  | 1,_=>simp [fO] at hu;rw [<- hu];exact k1
  | 2,_=>simp [fO] at hu;rw [<- hu];exact k2
  | 3,_=>simp [fO] at hu;rw [<- hu];exact k3
theorem q4w {W:World} {v:Value} {zs:List Int} (h:Law.Ints W .i64 v zs) (hf:Fit v):Sq fI W v zs:=by
 obtain ⟨a,cap,rfl,hl,hw,hc⟩:=h
 obtain ⟨h1,h2⟩:=hf _ _ _ rfl
 refine ⟨a,cap,rfl,h1,h2,?_⟩
 rcases hc with h0 | ⟨b,off,rfl,hb,hcell⟩
 ·exact .inl h0
 ·refine .inr ⟨b,off,rfl,hb,fun j u hu=>?_⟩
  obtain ⟨o,ho,hu⟩:=flat_get yc hu
  rw [Nat.div_one] at ho
  have hi:=(List.getElem?_eq_some_iff.1 ho).1
  have k0:=hcell j hi
  rw [List.getD_eq_getElem?_getD,ho] at k0
  rw [Nat.mod_one] at hu
  simp [fI] at hu
  rw [<- hu];exact k0
section
variable {H:Type} {enc:TypeId×Value->H} {W:World}
theorem q1p {n:Nat} {v:Value} {x:DataW H×List MemPlace} (h:DataW.trod enc Tryz.prog W 0 (fun _=>true) true n 25 [v]=some x):Fit v:=by
 rcases open_ints Tryz.underlying25 Tryz.underlying3 (by kernel_rfl) h with ⟨hcs,hx⟩ | ⟨a,len',cap',zs,hcs,_,hl,hm,hz,hx,hcell,hwz⟩
 ·obtain rfl:v = .slice none 0 0:=by simpa using hcs
  exact q6p
 ·obtain rfl:v = .slice (some a) len' cap':=by simpa using hcs
  rintro a n c e;cases e;exact ⟨hl,hm⟩
theorem qaf {n:Nat} {v:Value} {x:DataW H×List MemPlace} (h:DataW.trod enc Tryz.prog W 0 (fun _=>true) true n 56 [v]=some x):Fit v:=by
 rcases Law.Zh Tryz.underlying56 opsOf q9o q1y h with ⟨hcs,hx⟩ | ⟨a,len,cap,m,D,Pl,hcs,_,hl,hm,hmm,hx,hi⟩
 ·obtain rfl:v = .slice none 0 0:=by simpa using hcs
  exact q6p
 ·obtain rfl:v = .slice (some a) len cap:=by simpa using hcs
  rintro a n c e;cases e;exact ⟨hl,hm⟩
structure Rws (W:World) (v:Value) (rs:List (List O)) (ss:List Sv):Prop where
 r:Wh W v rs
 sq:Sq fS W v ss
 len:ss.length=rs.length
 row:∀ (i:Nat) (s:Sv) (r:List O),ss[i]? = some s->rs[i]? = some r->Sq fO W s.v r
theorem Tk {n:Nat} {v:Value} {x:DataW H×List MemPlace} (h:DataW.trod enc Tryz.prog W 0 (fun _=>true) true n 24 [v]=some x):∃ rs ss,Rws W v rs ss:=by
 rcases open_slice Tryz.underlying24 h with ⟨hcs,hx⟩ | ⟨a,len,cap,m,n',D,Pl,hcs,_,hl,hm,hmm,hx,hi⟩
 ·obtain rfl:v = .slice none 0 0:=by simpa using hcs
  exact ⟨[],[],q88 W,Sq.nil W,rfl,fun i s r e=>by simp at e⟩
 ·obtain rfl:v = .slice (some a) len cap:=by simpa using hcs
  simp only [if_true] at hmm
  rw [q8m] at hi
  have key:∀ i,∃ (u:Sv) (os:List O),i<len->W.cell? (a.add i)=some u.v/\Uo W u.v os/\Fit u.v:=by
   intro i
   by_cases hil:i<len
   ·obtain ⟨cs',hc,ht'⟩:=hi i (by omega)
    obtain ⟨_,hcl,hat⟩:=World.cells?_some hc
    obtain ⟨u,rfl⟩:∃ u,cs'=[u]:=by
     match cs',hcl with
     | [u],_=>exact ⟨u,rfl⟩
    obtain ⟨os,hos⟩:=Uk ht'
    have hft:=qaf ht'
    have h1:=hat 0 (by decide)
    rw [Nat.mul_one] at h1
    obtain ⟨a1,c1,e1,-⟩:=id hos
    refine ⟨⟨a1,os.length,c1⟩,os,fun _=>⟨?_,?_,?_⟩⟩
    ·show _=some (Value.slice a1 os.length c1)
     rw [<- e1];simpa [Addr.add] using h1
    ·show Uo W (Value.slice a1 os.length c1) os
     rw [<- e1];exact hos
    ·show Fit (Value.slice a1 os.length c1)
     rw [<- e1];exact hft
   ·exact ⟨⟨none,0,0⟩,[],fun h=>absurd h hil⟩
  obtain ⟨u,h1⟩:=Classical.axiomOfChoice key
  obtain ⟨os,hu⟩:=Classical.axiomOfChoice h1
  have hsq:(len=0\/∃ b off,some a=some ⟨b,off,none⟩/\b<W.heap.size/\∀ i,i<len->W.cell? ⟨b,off+i,none⟩=some (u i).v):=by
   by_cases h0:len=0
   ·exact .inl h0
   ·obtain ⟨b,off,spot⟩:=a
    have h00:=(hu 0 (by omega)).1
    have hspot:spot=none:=by simpa [Addr.add] using World.cell?_spot h00
    subst hspot
    refine .inr ⟨b,off,rfl,?_,fun i hi'=>?_⟩
    ·have:=World.block_lt_of_cell? W _ h00
     simpa [Addr.add] using this
    ·have:=(hu i hi').1
     rwa [add_plain] at this
  refine ⟨(List.range len).map os,(List.range len).map u,⟨some a,cap,fun i=>(u i).v,by simp,by simpa using (by omega:len<=maxLen),by simpa using hsq,fun i hi'=>?_⟩,⟨some a,cap,by simp,by simpa using hl,hm,?_⟩,by simp,fun i s r e1 e2=>?_⟩
  ·have hil:i<len:=by simpa using hi'
   have e:J0 ((List.range len).map os) i=os i:=by unfold J0;simp [List.getD_eq_getElem?_getD,hil]
   rw [e]
   exact (hu i hil).2.1
  ·rcases hsq with h0 | ⟨b,off,e,hb,hc⟩
   ·exact .inl (by simpa using h0)
   ·refine .inr ⟨b,off,e,hb,fun j x hx=>?_⟩
    obtain ⟨s,hs,hx⟩:=flat_get U8 hx
    rw [Nat.div_one] at hs
    rw [Nat.mod_one] at hx
    have hj:=(List.getElem?_eq_some_iff.1 hs).1
    simp at hj
    simp [hj] at hs
    simp [fS] at hx
    rw [hc j hj,hs,hx]
  ·have hj:=(List.getElem?_eq_some_iff.1 e1).1
   simp at hj
   simp [hj] at e1 e2
   rw [<- e1,<- e2]
   exact qcy (hu i hj).2.1 (hu i hj).2.2
theorem q8w {r:Reach} {b0:Nat} {v:Value} {d:DataW H} {p:List MemPlace} (hv:Value.okWide Tryz.prog W r b0 27 v) (h:DataW.Trod enc Tryz.prog W 0 (fun _=>true) true 27 v d p) :
  ∃ t c wd vv vo vp vd rs ss ps ds,v = .agg #[.int .i64 t,.int .i64 c,.int .i64 wd,.int .i64 vv,vo,vp,vd]/\Rws W vo rs ss/\Law.Ints W .i64 vp ps/\Sq fI W vp ps/\Law.Ints W .i64 vd ds/\Sq fI W vd ds:=by
 obtain ⟨cs,rfl,hsz⟩:=okWide_struct Tryz.underlying27 hv
 obtain ⟨fuel,hf⟩:=h
 obtain ⟨y0,y1,y2,y3,n,-,hl,h0,h1,h2,h3⟩:=Joins.trod_struct4 Tryz.underlying27 hf
 have e7:Tryz.prog.cellsOf 27=7:=by kernel_rfl
 rw [e7] at hsz
 obtain ⟨l⟩:=cs
 match l,hsz with
 | [x0,x1,x2,x3,x4,x5,x6],_ =>
  have k4:Tryz.prog.cellsOf 23=4:=by kernel_rfl
  have k1:Tryz.prog.cellsOf 24=1:=by kernel_rfl
  have k2:Tryz.prog.cellsOf 25=1:=by kernel_rfl
  have k3:Tryz.prog.cellsOf 3=1:=by kernel_rfl
  simp [Value.cells,k4,k1,k2] at h0 h1 h2 h3
  obtain ⟨z0,z1,z2,z3,m,-,-,q0,q1,q2,q3⟩:=Joins.trod_struct4 Tryz.underlying23 h0
  simp [k3] at q0 q1 q2 q3
  obtain ⟨i0,j0,-,-⟩:=DataW.trod_int Tryz.underlying3 q0
  obtain ⟨i1,j1,-,-⟩:=DataW.trod_int Tryz.underlying3 q1
  obtain ⟨i2,j2,-,-⟩:=DataW.trod_int Tryz.underlying3 q2
  obtain ⟨i3,j3,-,-⟩:=DataW.trod_int Tryz.underlying3 q3
  simp at j0 j1 j2 j3
  subst j0 j1 j2 j3
  obtain ⟨rs,ss,hr⟩:=Tk h1
  obtain ⟨ps,hp⟩:=Yu h2
  obtain ⟨ds,hd⟩:=Yu h3
  exact ⟨i0,i1,i2,i3,x4,x5,x6,rs,ss,ps,ds,rfl,hr,hp,q4w hp (q1p h2),hd,q4w hd (q1p h3)⟩
end
end Go.Proofs.YtppajakfaomkaaaGreatDoor.Op10
namespace Go.Proofs.YtppajakfaomkaaaGreatDoor.Mx
open Go.RowKit Ar Ref Og Mp
section
variable {α:Type} {f:α->List Value} {sz:Nat}
theorem q4x (hL:Lays f sz) {w:World} {B n i:Nat} {E:TypeId} {v:Value} {xs:List α} {x:α} (h:w.ownsRow B E sz v n (xs.flatMap f)) (hn:n=xs.length) (hi:xs[i]? = some x) :
  ∃ g c,v = .slice (some ⟨g,0,none⟩) n c/\g<w.heap.size/\B<=g/\(∀ j u,(f x)[j]? = some u->w.cell? ⟨g,i * sz+j,none⟩=some u)/\∀ k,w.frozen? ⟨g,k,none⟩=false:=by
 subst hn
 have hil:=(List.getElem?_eq_some_iff.1 hi).1
 obtain ⟨-,h2⟩:=id h
 have hc:=Z4 h
 rcases h2 with ⟨-,e0⟩ | ⟨g,cap,cur,rfl,hB,hh,hc1,hc2,-⟩
 ·omega
 ·obtain ⟨a,c,e,-,h3⟩:=hc
  simp only [Value.slice.injEq] at e
  obtain ⟨rfl,-,rfl⟩:=e
  rcases h3 with h0 | ⟨g',e',hlt,hall⟩
  ·omega
  ·simp only [Option.some.injEq,Addr.mk.injEq] at e'
   obtain ⟨rfl,-⟩:=e'
   exact ⟨g,_,rfl,hlt,hB,fun j u hu=>hall _ _ (by rw [hL.at hi (by have:=(List.getElem?_eq_some_iff.1 hu).1;rw [hL.len] at this;exact this)];exact hu),fun i=>frozen_of_row _ _ _ _ _ hh⟩
theorem q7t (hL:Lays f sz) {w:World} {B n g c i j:Nat} {E:TypeId} {xs:List α} {x x':α} {u:Value} (h:w.ownsRow B E sz (.slice (some ⟨g,0,none⟩) n c) n (xs.flatMap f)) (hi:xs[i]? = some x) (hj:j<sz) (hf:f x'=(f x).set j u) :
  (w.setCell ⟨g,i * sz+j,none⟩ u).ownsRow B E sz (.slice (some ⟨g,0,none⟩) n c) n ((xs.set i x').flatMap f):=by
 rw [<- U7 hL hi hj hf]
 obtain ⟨h1,h2⟩:=h
 refine ⟨by simpa using h1,?_⟩
 rcases h2 with ⟨e,-⟩ | ⟨g',cap,cur,e,hB,hh,hc1,hc2,hs,ht⟩
 ·simp at e
 ·simp only [Value.slice.injEq,Option.some.injEq,Addr.mk.injEq] at e
  obtain ⟨⟨rfl,-⟩,-,rfl⟩:=e
  refine .inr ⟨g,c,_,rfl,hB,heap_setCell_same w g _ cur E u hh,hc1,hc2,by simpa using hs,?_⟩
  rw [Array.toList_setIfInBounds,List.take_set,ht]
end
def J6 (w:World) (R B:List Nat) (x:Th) (y:Tv):Prop:=qdh x y/\(
 (∃ p b,x.p=some p/\x.g=none/\x.s=none/\y.pp=some b/\y.gp=none/\y.sp=none/\q7m w R B b p) \/
 (∃ g b,x.p=none/\x.g=some g/\x.s=none/\y.pp=none/\y.gp=some b/\y.sp=none/\q76 w B b g) \/
 (∃ s b,x.p=none/\x.g=none/\x.s=some s/\y.pp=none/\y.gp=none/\y.sp=some b/\Kc w B b s) \/
 (x.p=none/\x.g=none/\x.s=none/\y.pp=none/\y.gp=none/\y.sp=none/\B=[]))
theorem J6.lt {w:World} {R B:List Nat} {x:Th} {y:Tv} (h:J6 w R B x y):∀ k,k∈B->k<w.heap.size:=by
 obtain ⟨-,⟨_,_,_,_,_,_,_,_,h⟩ | ⟨_,_,_,_,_,_,_,_,h⟩ | ⟨_,_,_,_,_,_,_,_,h⟩ | ⟨_,_,_,_,_,_,rfl⟩⟩:=h
 ·exact h.lt
 ·exact h.lt
 ·exact h.lt
 ·simp
theorem J6.kept {S:List Nat} {w w':World} {R B:List Nat} {x:Th} {y:Tv} (h:J6 w R B x y) (F:Fr S w w') (hS:∀ k,k∈B->k∉S) (hR:∀ k,k∈R->k∉S):J6 w' R B x y:=by
 obtain ⟨h0,⟨p,b,e1,e2,e3,e4,e5,e6,h⟩ | ⟨p,b,e1,e2,e3,e4,e5,e6,h⟩ | ⟨p,b,e1,e2,e3,e4,e5,e6,h⟩ | h⟩:=h
 ·exact ⟨h0,.inl ⟨p,b,e1,e2,e3,e4,e5,e6,h.kept F hS hR⟩⟩
 ·exact ⟨h0,.inr (.inl ⟨p,b,e1,e2,e3,e4,e5,e6,h.kept F hS⟩)⟩
 ·exact ⟨h0,.inr (.inr (.inl ⟨p,b,e1,e2,e3,e4,e5,e6,h.kept F hS⟩))⟩
 ·exact ⟨h0,.inr (.inr (.inr h))⟩
structure Lay where
 R:List Nat
 ov:Value
 pv:Value
 dv:Value
 kv:Value
 ev:Value
 ss:List Sv
 p:Nat
 q:Nat
 tb:Nat
 ts:List Tv
 es:List Evv
def Lay.tv (y:Lay):Value:=.slice (some ⟨y.tb,0,none⟩) y.ts.length y.ts.length
structure Fz (w:World) (own:Nat->Nat) (m:Mc) (y:Lay):Prop where
 rows:Su w y.R y.ov y.ss m.ops
 dr:Sq fI w y.dv m.draws
 drR:m.draws≠[]->∀ k,k∈y.dv.ownBlock.toList->k∈y.R
 cR:∀ k,k∈y.R->own k=0/\k<w.heap.size
theorem Fz.kept {S:List Nat} {w w':World} {own:Nat->Nat} {m:Mc} {y:Lay} (h:Fz w own m y) (F:Fr S w w') (hS:∀ k,k∈S->own k≠0):Fz w' own m y :=
 have hn:∀ k,k∈y.R->k∉S:=fun k hk hi=>hS k hi (h.cR k hk).1
 ⟨h.rows.kept F hn,h.dr.keptN F (fun hne k hk=>hn k (h.drR hne k hk)),h.drR,fun k hk=>⟨(h.cR k hk).1,qj (h.cR k hk).2 F.size⟩⟩
def Thr (w:World) (own:Nat->Nat) (R:List Nat) (mt:List Th) (ts:List Tv):Prop:=∀ (i:Nat) (x:Th) (z:Tv),mt[i]? = some x->ts[i]? = some z->∃ B,J6 w R B x z/\∀ k,k∈B->own k=i+6
theorem Thr.kept {S:List Nat} {w w':World} {own:Nat->Nat} {R:List Nat} {mt:List Th} {ts:List Tv} (h:Thr w own R mt ts) (F:Fr S w w') (hR:∀ k,k∈R->own k=0) (hS:∀ k,k∈S->own k≠0/\own k<6):Thr w' own R mt ts:=by
 intro i x z e1 e2
 obtain ⟨B,h1,h2⟩:=h i x z e1 e2
 exact ⟨B,h1.kept F (fun k hk hi=>by have:=h2 k hk;have:=hS k hi;omega) (fun k hk hi=>(hS k hi).1 (hR k hk)),h2⟩
def Ans (w:World) (own:Nat->Nat) (es:List Evv):Prop:=∀ x,x∈es->Sq fQ w x.s.v x.e.ans.pairs/\(x.e.ans.pairs≠[]->∀ k,k∈x.s.v.ownBlock.toList->own k=0)
theorem Ans.kept {S:List Nat} {w w':World} {own:Nat->Nat} {es:List Evv} (h:Ans w own es) (F:Fr S w w') (hS:∀ k,k∈S->own k≠0):Ans w' own es:=fun x hx =>
 ⟨(h x hx).1.keptN F (fun hne g hg hi=>hS g hi ((h x hx).2 hne g hg)),(h x hx).2⟩
structure jc (N0:Nat) (own:Nat->Nat) (w:World) (b:Nat) (m:Mc) (y:Lay):Prop where
 ob:q9q w b m y.ov y.pv y.dv y.p y.tv y.kv y.ev
 fz:Fz w own m y
 ar:Rar w y.p y.q m.a
 cb:own b=1
 cp:own y.p=2
 cq:own y.q=3
 ct:own y.tb=4
 th:Ob w y.tb 141 (y.ts.flatMap fTv).toArray
 thl:y.ts.length=m.t.length
 th8:m.t.length<=8
 thr:Thr w own y.R m.t y.ts
 tk:Sq fI w y.kv m.ticks
 tkc:m.ticks≠[]->∀ k,k∈y.kv.ownBlock.toList->own k=0
 ev:w.ownsRow N0 72 18 y.ev y.es.length (y.es.flatMap fEv)
 evo:∀ k,k∈y.ev.ownBlock.toList->own k=5
 evl:y.es.map Evv.e=m.e
 ans:Ans w own y.es
 base:∀ k,own k≠0->N0<=k
theorem jc.R0 {N0:Nat} {own:Nat->Nat} {w:World} {b:Nat} {m:Mc} {y:Lay} (h:jc N0 own w b m y):∀ k,k∈y.R->own k=0:=fun k hk=>(h.fz.cR k hk).1
theorem jc.esl {N0:Nat} {own:Nat->Nat} {w:World} {b:Nat} {m:Mc} {y:Lay} (h:jc N0 own w b m y):y.es.length=m.e.length:=by rw [<- h.evl,List.length_map]
theorem jc.up {N0:Nat} {own:Nat->Nat} {w w':World} {b:Nat} {m:Mc} {y:Lay} (h:jc N0 own w b m y) (F:Fr [] w w'):jc N0 own w' b m y :=
 ⟨Ob.up h.ob F,h.fz.kept F (by simp),h.ar.kept F (by simp) (by simp),h.cb,h.cp,h.cq,h.ct,Ob.up h.th F,h.thl,h.th8,h.thr.kept F h.R0 (by simp),h.tk.up F,h.tkc,qm h.ev F,h.evo,h.evl,h.ans.kept F (by simp),h.base⟩
def xx (own:Nat->Nat) (n c:Nat):Nat->Nat:=fun k=>if k<n then own k else c
theorem vu {own:Nat->Nat} {n c k:Nat} (h:k<n):xx own n c k=own k:=qf h
theorem yg {own:Nat->Nat} {n c k:Nat} (h:n<=k):xx own n c k=c:=qd (by omega)
theorem jc.xx {N0:Nat} {own:Nat->Nat} {w:World} {b:Nat} {m:Mc} {y:Lay} (h:jc N0 own w b m y) (c:Nat) (hN:N0<=w.heap.size):jc N0 (xx own w.heap.size c) w b m y:=by
 have hl:=h.ar.lt
 refine ⟨h.ob,⟨h.fz.rows,h.fz.dr,h.fz.drR,fun k hk=>⟨(vu (h.fz.cR k hk).2).trans (h.fz.cR k hk).1,(h.fz.cR k hk).2⟩⟩,h.ar,(vu (Ob.lt h.ob)).trans h.cb,(vu hl.1).trans h.cp,(vu hl.2).trans h.cq,(vu (Ob.lt h.th)).trans h.ct,h.th,h.thl,h.th8,fun i x z e1 e2=>?_,h.tk,fun hne k hk=>(vu (Q7 h.tk hne k hk)).trans (h.tkc hne k hk),h.ev,fun k hk=>(vu (Zf h.ev k hk)).trans (h.evo k hk),h.evl,fun x hx=>⟨(h.ans x hx).1,fun hne k hk=>(vu (Q7 (h.ans x hx).1 hne k hk)).trans ((h.ans x hx).2 hne k hk)⟩,fun k hk=>?_⟩
 ·obtain ⟨B,h1,h2⟩:=h.thr i x z e1 e2
  exact ⟨B,h1,fun k hk=>(vu (h1.lt k hk)).trans (h2 k hk)⟩
 ·by_cases hk':k<w.heap.size
  ·rw [vu hk'] at hk;exact h.base k hk
  ·omega
def FrO (N0:Nat) (w w':World):Prop:=∃ S,(∀ k,k∈S->N0<=k)/\Fr S w w'
theorem FrO.of {N0:Nat} {S:List Nat} {w w':World} (F:Fr S w w') (h:∀ k,k∈S->N0<=k):FrO N0 w w':=⟨S,h,F⟩
theorem FrO.refl (N0:Nat) (w:World):FrO N0 w w:=⟨[],by simp,Fr.refl _ _⟩
theorem FrO.trans {N0:Nat} {a b c:World} (h:FrO N0 a b) (k:FrO N0 b c):FrO N0 a c:=by
 obtain ⟨S,h1,h2⟩:=h
 obtain ⟨T,k1,k2⟩:=k
 exact ⟨S++T,fun x hx=>(List.mem_append.1 hx).elim (h1 x) (k1 x),(h2.mono (fun x hx=>List.mem_append.2 (.inl hx))).trans (k2.mono (fun x hx=>List.mem_append.2 (.inr hx)))⟩
theorem FrO.size {N0:Nat} {w w':World} (h:FrO N0 w w'):w.heap.size<=w'.heap.size:=by obtain ⟨S,-,h⟩:=h;exact h.size
theorem Thr.set {w w':World} {own:Nat->Nat} {R S:List Nat} {mt:List Th} {ts:List Tv} {t:Nat} {x':Th} {z':Tv} {B':List Nat} (h:Thr w own R mt ts) (F:Fr S w w') (hR:∀ k,k∈R->own k=0) (hS:∀ k,k∈S->own k≠0/\(own k<6\/own k=t+6)) (hx:J6 w' R B' x' z') (hB:∀ k,k∈B'->own k=t+6):Thr w' own R (mt.set t x') (ts.set t z'):=by
 intro i x z e1 e2
 by_cases hi:i=t
 ·subst hi
  have h1:=(List.getElem?_eq_some_iff.1 e1).1
  have h2:=(List.getElem?_eq_some_iff.1 e2).1
  rw [List.length_set] at h1 h2
  rw [List.getElem?_set_self h1] at e1
  rw [List.getElem?_set_self h2] at e2
  cases e1;cases e2;exact ⟨B',hx,hB⟩
 ·rw [List.getElem?_set_ne (fun e=>hi e.symm)] at e1 e2
  obtain ⟨B,h1,h2⟩:=h i x z e1 e2
  exact ⟨B,h1.kept F (fun k hk hi'=>by have:=h2 k hk;have:=hS k hi';omega) (fun k hk hi'=>(hS k hi').1 (hR k hk)),h2⟩
theorem Xi {α:Type} {l:List α} {i:Nat} {x:α} (h:l[i]? = some x):l.set i x=l:=by
 obtain ⟨hi,rfl⟩:=List.getElem?_eq_some_iff.1 h
 exact List.set_getElem_self hi
theorem jc.stepT {N0:Nat} {own:Nat->Nat} {w w':World} {b:Nat} {m:Mc} {y:Lay} (h:jc N0 own w b m y) (hN:N0<=w.heap.size) {t:Nat} {z:Tv} (hz:y.ts[t]? = some z) {B B':List Nat} (hB:∀ k,k∈B->own k=t+6) {s':St} {x':Th} (F:Fr (y.p :: y.q :: B) w w') (hA:Rar w' y.p y.q s') (hx:J6 w' y.R B' x' z) (hB':∀ k,k∈B'->k∈B\/w.heap.size<=k) :
  jc N0 (Mx.xx own w.heap.size (t+6)) w' b { m with a:=s',t:=m.t.set t x' } y/\FrO N0 w w':=by
 have g:=h.xx (t+6) hN
 have hc:∀ k,k∈y.p :: y.q :: B->own k=2\/own k=3\/own k=t+6:=fun k hk=>by
  simp only [List.mem_cons] at hk
  rcases hk with rfl | rfl | hk
  ·exact .inl h.cp
  ·exact .inr (.inl h.cq)
  ·exact .inr (.inr (hB k hk))
 have hlt:∀ k,k<w.heap.size->Mx.xx own w.heap.size (t+6) k=own k:=fun k hk=>vu hk
 have hSp:∀ k,k∈y.p :: y.q :: B->N0<=k:=fun k hk=>h.base k (by have:=hc k hk;omega)
 have hS:∀ k,k∈y.p :: y.q :: B->Mx.xx own w.heap.size (t+6) k=2\/Mx.xx own w.heap.size (t+6) k=3\/Mx.xx own w.heap.size (t+6) k=t+6:=fun k hk=>by
  by_cases hk':k<w.heap.size
  ·rw [hlt k hk'];exact hc k hk
  ·exact .inr (.inr (yg (by omega)))
 have hB2:∀ k,k∈B'->Mx.xx own w.heap.size (t+6) k=t+6:=fun k hk=>by
  by_cases hk':k<w.heap.size
  ·rw [hlt k hk']
   rcases hB' k hk with e | e
   ·exact hB k e
   ·omega
  ·exact yg (by omega)
 generalize Mx.xx own w.heap.size (t+6)=o2 at *
 have hn:∀ k,own k=1\/own k=4->k∉y.p :: y.q :: B:=fun k hk hi=>by have:=hc k hi;omega
 refine ⟨⟨Ob.kept h.ob F (hn b (.inl h.cb)),?_,hA,g.cb,g.cp,g.cq,g.ct,Ob.kept h.th F (hn _ (.inr h.ct)),by simp only [List.length_set];exact h.thl,by simp only [List.length_set];exact h.th8,?_,g.tk.keptN F (fun hne k hk hi=>?_),g.tkc,kx h.ev F (fun k hk hi=>?_),g.evo,g.evl,g.ans.kept F (fun k hk=>by have:=hS k hk;omega),g.base⟩,FrO.of F hSp⟩
 ·have f:=g.fz.kept F (fun k hk=>by have:=hS k hk;omega)
  exact ⟨f.rows,f.dr,f.drR,f.cR⟩
 ·have k:=g.thr.set (t:=t) (x':=x') (z':=z) (B':=B') F g.R0 (fun k hk=>by have:=hS k hk;omega) hx hB2
  rw [Xi hz] at k
  exact k
 ·have:=hS k hi;have:=g.tkc hne k hk;omega
 ·have:=hc k hi;have:=h.evo k (by rw [hk];simp);omega
section
variable {N0:Nat} {own:Nat->Nat} {w:World} {b:Nat} {m:Mc} {y:Lay}
theorem jc.ev_open (h:jc N0 own w b m y) {k:Nat} {x:Evv} (hk:y.es[k]? = some x):∃ g c,y.ev = .slice (some ⟨g,0,none⟩) y.es.length c/\own g=5/\(∀ j u,(fEv x)[j]? = some u->w.cell? ⟨g,k * 18+j,none⟩=some u)/\∀ i,w.frozen? ⟨g,i,none⟩=false:=by
 obtain ⟨g,c,e,-,-,h3,h4⟩:=q4x J4 h.ev rfl hk
 exact ⟨g,c,e,h.evo g (by rw [e];simp [Value.ownBlock]),h3,h4⟩
theorem Ans.set {es:List Evv} (h:Ans w own es) {k:Nat} {x':Evv} (hx:Sq fQ w x'.s.v x'.e.ans.pairs/\(x'.e.ans.pairs≠[]->∀ k,k∈x'.s.v.ownBlock.toList->own k=0)):Ans w own (es.set k x'):=fun x hm=>by
 rcases List.mem_or_eq_of_mem_set hm with e | rfl
 ·exact h x e
 ·exact hx
theorem jc.setE (h:jc N0 own w b m y) {k j g c:Nat} {x x':Evv} {u:Value} (hev:y.ev = .slice (some ⟨g,0,none⟩) y.es.length c) (hk:y.es[k]? = some x) (hj:j<18) (hf:fEv x'=(fEv x).set j u) (ha:Sq fQ w x'.s.v x'.e.ans.pairs/\(x'.e.ans.pairs≠[]->∀ k,k∈x'.s.v.ownBlock.toList->own k=0)) :
  jc N0 own (w.setCell ⟨g,k * 18+j,none⟩ u) b { m with e:=m.e.set k x'.e } { y with es:=y.es.set k x' } /\ FrO N0 w (w.setCell ⟨g,k * 18+j,none⟩ u):=by
 have hg:own g=5:=h.evo g (by rw [hev];simp [Value.ownBlock])
 have F:Fr [g] w (w.setCell ⟨g,k * 18+j,none⟩ u):=Fr.setCell _ (by simp)
 have hS:∀ i,i∈[g]->own i=5:=fun i hi=>by simp at hi;subst hi;exact hg
 have hn:∀ i,own i≠5->i∉[g]:=fun i hi hm=>hi (hS i hm)
 have fz:=h.fz.kept F (fun i hi=>by rw [hS i hi];decide)
 refine ⟨⟨Ob.kept h.ob F (hn b (by rw [h.cb];decide)),⟨fz.rows,fz.dr,fz.drR,fz.cR⟩,h.ar.kept F (hn _ (by rw [h.cp];decide)) (hn _ (by rw [h.cq];decide)),h.cb,h.cp,h.cq,h.ct,Ob.kept h.th F (hn _ (by rw [h.ct];decide)),h.thl,h.th8,h.thr.kept F h.R0 (fun i hi=>by rw [hS i hi];decide),h.tk.keptN F (fun hne i hi hm=>by have:=h.tkc hne i hi;rw [hS i hm] at this;cases this),h.tkc,?_,h.evo,?_,(h.ans.set (k:=k) ha).kept F (fun i hi=>by rw [hS i hi];decide),h.base⟩,FrO.of F (fun i hi=>h.base i (by rw [hS i hi];decide))⟩
 ·have hr:=h.ev
  rw [hev] at hr
  have:=q7t J4 hr hk hj hf
  simp only [List.length_set]
  rw [hev];exact this
 ·simp only
  rw [List.map_set,h.evl]
theorem jc.setT (h:jc N0 own w b m y) {t j:Nat} {x':Th} {z z':Tv} {u:Value} (hz:y.ts[t]? = some z) (hj:j<6) (hf:fTv z'=(fTv z).set j u) (hx:∀ w',Fr [y.tb] w w'->∃ B,J6 w' y.R B x' z'/\∀ k,k∈B->own k=t+6) :
  jc N0 own (w.setCell ⟨y.tb,t * 6+j,none⟩ u) b { m with t:=m.t.set t x' } { y with ts:=y.ts.set t z' } /\ FrO N0 w (w.setCell ⟨y.tb,t * 6+j,none⟩ u):=by
 have F:Fr [y.tb] w (w.setCell ⟨y.tb,t * 6+j,none⟩ u):=Fr.setCell _ (by simp)
 have hS:∀ i,i∈[y.tb]->own i=4:=fun i hi=>by simp at hi;subst hi;exact h.ct
 have hn:∀ i,own i≠4->i∉[y.tb]:=fun i hi hm=>hi (hS i hm)
 have fz:=h.fz.kept F (fun i hi=>by rw [hS i hi];decide)
 obtain ⟨B,hx,hB⟩:=hx _ F
 refine ⟨⟨?_,⟨fz.rows,fz.dr,fz.drR,fz.cR⟩,h.ar.kept F (hn _ (by rw [h.cp];decide)) (hn _ (by rw [h.cq];decide)),h.cb,h.cp,h.cq,h.ct,Ob.seg Wz h.th hz hj hf,by simp only [List.length_set];exact h.thl,by simp only [List.length_set];exact h.th8,h.thr.set F h.R0 (fun i hi=>by rw [hS i hi];exact ⟨by decide,.inl (by decide)⟩) hx hB,h.tk.keptN F (fun hne i hi hm=>by have:=h.tkc hne i hi;rw [hS i hm] at this;cases this),h.tkc,kx h.ev F (fun i hi hm=>by have:=h.evo i (by rw [hi];simp);rw [hS i hm] at this;cases this),h.evo,h.evl,h.ans.kept F (fun i hi=>by rw [hS i hi];decide),h.base⟩,FrO.of F (fun i hi=>h.base i (by rw [hS i hi];decide))⟩
 have e:({ y with ts:=y.ts.set t z' }:Lay).tv=y.tv:=by unfold Lay.tv;simp only [List.length_set]
 rw [e]
 exact Ob.kept h.ob F (hn b (by rw [h.cb];decide))
theorem jc.setB (h:jc N0 own w b m y) {j:Nat} {u:Value}:Fz (w.setCell ⟨b,j,none⟩ u) own m y/\Rar (w.setCell ⟨b,j,none⟩ u) y.p y.q m.a/\Ob (w.setCell ⟨b,j,none⟩ u) y.tb 141 (y.ts.flatMap fTv).toArray/\Thr (w.setCell ⟨b,j,none⟩ u) own y.R m.t y.ts/\Sq fI (w.setCell ⟨b,j,none⟩ u) y.kv m.ticks/\(w.setCell ⟨b,j,none⟩ u).ownsRow N0 72 18 y.ev y.es.length (y.es.flatMap fEv)/\Ans (w.setCell ⟨b,j,none⟩ u) own y.es/\FrO N0 w (w.setCell ⟨b,j,none⟩ u):=by
 have F:Fr [b] w (w.setCell ⟨b,j,none⟩ u):=Fr.setCell _ (by simp)
 have hS:∀ i,i∈[b]->own i=1:=fun i hi=>by simp at hi;subst hi;exact h.cb
 have hn:∀ i,own i≠1->i∉[b]:=fun i hi hm=>hi (hS i hm)
 exact ⟨h.fz.kept F (fun i hi=>by rw [hS i hi];decide),h.ar.kept F (hn _ (by rw [h.cp];decide)) (hn _ (by rw [h.cq];decide)),Ob.kept h.th F (hn _ (by rw [h.ct];decide)),h.thr.kept F h.R0 (fun i hi=>by rw [hS i hi];decide),h.tk.keptN F (fun hne i hi hm=>by have:=h.tkc hne i hi;rw [hS i hm] at this;cases this),kx h.ev F (fun i hi hm=>by have:=h.evo i (by rw [hi];simp);rw [hS i hm] at this;cases this),h.ans.kept F (fun i hi=>by rw [hS i hi];decide),FrO.of F (fun i hi=>h.base i (by rw [hS i hi];decide))⟩
theorem jc.setNow (h:jc N0 own w b m y) (n:Int):jc N0 own (w.setCell ⟨b,9,none⟩ (.int .i64 n)) b { m with now:=n } y/\FrO N0 w (w.setCell ⟨b,9,none⟩ (.int .i64 n)):=by
 obtain ⟨k1,k2,k3,k4,k5,k6,k7,k8⟩:=h.setB (j:=9) (u:=.int .i64 n)
 exact ⟨⟨Ob.set h.ob (i:=9) (.int .i64 n),⟨k1.rows,k1.dr,k1.drR,k1.cR⟩,k2,h.cb,h.cp,h.cq,h.ct,k3,h.thl,h.th8,k4,k5,h.tkc,k6,h.evo,h.evl,k7,h.base⟩,k8⟩
theorem jc.setIdle (h:jc N0 own w b m y) (n:Int):jc N0 own (w.setCell ⟨b,10,none⟩ (.int .i64 n)) b { m with idle:=n } y/\FrO N0 w (w.setCell ⟨b,10,none⟩ (.int .i64 n)):=by
 obtain ⟨k1,k2,k3,k4,k5,k6,k7,k8⟩:=h.setB (j:=10) (u:=.int .i64 n)
 exact ⟨⟨Ob.set h.ob (i:=10) (.int .i64 n),⟨k1.rows,k1.dr,k1.drR,k1.cR⟩,k2,h.cb,h.cp,h.cq,h.ct,k3,h.thl,h.th8,k4,k5,h.tkc,k6,h.evo,h.evl,k7,h.base⟩,k8⟩
theorem jc.setTk (h:jc N0 own w b m y) (ks:List Int) (kv:Value) (hk:Sq fI (w.setCell ⟨b,11,none⟩ kv) kv ks) (hc:ks≠[]->∀ k,k∈kv.ownBlock.toList->own k=0):jc N0 own (w.setCell ⟨b,11,none⟩ kv) b { m with ticks:=ks } { y with kv:=kv } /\ FrO N0 w (w.setCell ⟨b,11,none⟩ kv):=by
 obtain ⟨k1,k2,k3,k4,k5,k6,k7,k8⟩:=h.setB (j:=11) (u:=kv)
 exact ⟨⟨Ob.set h.ob (i:=11) kv,⟨k1.rows,k1.dr,k1.drR,k1.cR⟩,k2,h.cb,h.cp,h.cq,h.ct,k3,h.thl,h.th8,k4,hk,hc,k6,h.evo,h.evl,k7,h.base⟩,k8⟩
theorem jc.appE (h:jc N0 own w b m y) (hN:N0<=w.heap.size) {w1:World} {v':Value} {x:Evv} (F:Fr y.ev.ownBlock.toList w w1) (hr:w1.ownsRow N0 72 18 v' (y.es++[x]).length ((y.es++[x]).flatMap fEv)) (hg:∀ g,g∈v'.ownBlock.toList->g∈y.ev.ownBlock.toList\/w.heap.size<=g) (hx:x.e.ans.pairs=[]/\x.s=⟨none,0,0⟩) :
  jc N0 (Mx.xx own w.heap.size 5) (w1.setCell ⟨b,12,none⟩ v') b { m with e:=m.e++[x.e] } { y with ev:=v',es:=y.es++[x] } /\ FrO N0 w (w1.setCell ⟨b,12,none⟩ v'):=by
 have g:=h.xx 5 hN
 have hS:∀ k,k∈y.ev.ownBlock.toList->Mx.xx own w.heap.size 5 k=5:=g.evo
 have hV:∀ k,k∈v'.ownBlock.toList->Mx.xx own w.heap.size 5 k=5:=fun k hk=>by
  rcases hg k hk with e | e
  ·exact hS k e
  ·exact yg e
 have hN':=h.base
 generalize Mx.xx own w.heap.size 5=o2 at *
 have hn:∀ k,o2 k≠5->k∉y.ev.ownBlock.toList:=fun k hk hi=>hk (hS k hi)
 have FB:Fr [b] w1 (w1.setCell ⟨b,12,none⟩ v'):=Fr.setCell _ (by simp)
 have FA:Fr (b :: y.ev.ownBlock.toList) w (w1.setCell ⟨b,12,none⟩ v'):=(F.mono (by intro k hk;exact List.mem_cons_of_mem _ hk)).trans (FB.mono (by intro k hk;simp at hk;subst hk;simp))
 have hA:∀ k,k∈b :: y.ev.ownBlock.toList->o2 k=1\/o2 k=5:=fun k hk=>by
  rcases List.mem_cons.1 hk with rfl | hk
  ·exact .inl g.cb
  ·exact .inr (hS k hk)
 have hnA:∀ k,o2 k≠1->o2 k≠5->k∉b :: y.ev.ownBlock.toList:=fun k h1 h2 hi=>by rcases hA k hi with e | e <;> contradiction
 have fz:=g.fz.kept FA (fun k hk=>by have:=hA k hk;omega)
 refine ⟨⟨?_,⟨fz.rows,fz.dr,fz.drR,fz.cR⟩,g.ar.kept FA (hnA _ (by rw [g.cp];decide) (by rw [g.cp];decide)) (hnA _ (by rw [g.cq];decide) (by rw [g.cq];decide)),g.cb,g.cp,g.cq,g.ct,Ob.kept g.th FA (hnA _ (by rw [g.ct];decide) (by rw [g.ct];decide)),g.thl,g.th8,g.thr.kept FA g.R0 (fun k hk=>by have:=hA k hk;omega),g.tk.keptN FA (fun hne k hk hi=>by have:=hA k hi;have:=g.tkc hne k hk;omega),g.tkc,kx hr FB (fun k hk hi=>by simp at hi;subst hi;have:=hV k (by rw [hk];simp);have:=g.cb;omega),hV,by simp [g.evl],fun z hz=>?_,g.base⟩,FrO.of FA (fun k hk=>g.base k (by have:=hA k hk;omega))⟩
 ·exact Ob.set (Ob.kept g.ob F (hn b (by rw [g.cb];decide))) (i:=12) v'
 ·rcases List.mem_append.1 hz with e | e
  ·exact g.ans.kept FA (fun k hk=>by have:=hA k hk;omega) z e
  ·simp only [List.mem_singleton] at e
   subst e
   rw [hx.1,hx.2]
   exact ⟨Sq.nil _,fun hne=>absurd rfl hne⟩
end
structure qaa (N:Nat) (len:Nat) (x:Th):Prop where
 n0:0<=x.next
 n1:x.next<=(len:Int)
 s0:0<=x.scans/\x.scans<=x.next
 p:∀ y,x.p=some y->V7 N y
 g:∀ y,x.g=some y->q78 y/\(y.over=true->y.l≠none)
 s:∀ y,x.s=some y->Y3 N y
structure MInv (N:Nat) (m:Mc):Prop where
 c:m.c.Ok
 tl:(m.t.length:Int)=m.c.t
 ol:m.ops.length<=8
 rl:∀ r,r∈m.ops->r.length<=1000/\∀ o:O,o∈r->0<=o.2.1/\o.2.1<=63
 th:∀ (i:Nat) (x:Th),m.t[i]? = some x->qaa N (m.opsOf (i:Int)).length x
 busy:∀ (i:Nat) (x:Th),m.t[i]? = some x->x.busy=true->(x.p≠none\/x.g≠none\/x.s≠none)/\∃ k,m.event (i:Int) (x.next - 1)=some k
 el:m.e.length<=N
 now:0<=m.now/\m.now<=N
 idle:0<=m.idle/\m.idle<=N
 tk:m.ticks.length<=N
 es:∀ x,x∈m.e->0<=x.steps/\x.steps<=N
theorem Y3.more {N:Nat} {x:Sn} (k:Y3 N x):Y3 (N+1) x:=⟨k.c,k.kc,k.kt,k.t0,k.lo,k.w,k.w1,k.l,k.l1,qh k.n (by omega)⟩
theorem V7.le {N M:Nat} {x:Pt} (h:V7 N x) (hl:N<=M):V7 M x:=by
 obtain ⟨d,rfl⟩:=Nat.le.dest hl
 clear hl
 induction d with
 | zero=>exact h
 | succ d ih=>exact ih.more
theorem Y3.le {N M:Nat} {x:Sn} (h:Y3 N x) (hl:N<=M):Y3 M x:=by
 obtain ⟨d,rfl⟩:=Nat.le.dest hl
 clear hl
 induction d with
 | zero=>exact h
 | succ d ih=>exact ih.more
theorem qaa.more {N len:Nat} {x:Th} (h:qaa N len x):qaa (N+1) len x:=⟨h.n0,h.n1,h.s0,fun y e=>(h.p y e).more,h.g,fun y e=>(h.s y e).more⟩
theorem q4q {g:Gt} (h:g.over=true->g.l≠none) (s:St):(g.step s).1.over=true->(g.step s).1.l≠none:=by
 unfold Gt.step
 split
 ·exact h
 ·rename_i ho
  split
  ·intro _;simp
  ·split
   ·intro _;simp
   ·intro e;exact absurd e ho
theorem Je {α:Type} {p:α->Bool}:∀ {l l':List α},l.map p=l'.map p->l.findIdx? p=l'.findIdx? p
 | [],[],_=>rfl
 | [],_ :: _,h=>by simp at h
 | _ :: _,[],h=>by simp at h
 | x :: l,y :: l',h=>by
  simp only [List.map_cons,List.cons.injEq] at h
  rw [List.findIdx?_cons,List.findIdx?_cons,h.1,Je h.2]
theorem Tc {α β:Type} {p:α->β} {l:List α} {k:Nat} {x v:α} (hk:l[k]? = some x) (hv:p v=p x):(l.set k v).map p=l.map p:=by
 rw [List.map_set]
 have:(l.map p)[k]? = some (p v):=by rw [List.getElem?_map,hk,hv];rfl
 obtain ⟨hi,e⟩:=List.getElem?_eq_some_iff.1 this
 rw [<- e];exact List.set_getElem_self hi
theorem Tw {l:List Ev} {k:Nat} {x v:Ev} (t i:Int) (hk:l[k]? = some x) (h1:v.th=x.th) (h2:v.ix=x.ix):(l.set k v).findIdx? (fun z=>z.th == t && z.ix == i)=l.findIdx? (fun z=>z.th == t && z.ix == i) :=
 Je (Tc hk (by simp only [h1,h2]))
theorem q5i {l:List Ev} {k:Nat} {v:Ev} (t i:Int) (h:l.findIdx? (fun z=>z.th == t && z.ix == i)=some k):(l++[v]).findIdx? (fun z=>z.th == t && z.ix == i)=some k:=by
 rw [List.findIdx?_append,h];rfl
theorem q6n {l:List Ev} {v:Ev} (t i:Int) (h1:v.th=t) (h2:v.ix=i):∃ k,(l++[v]).findIdx? (fun z=>z.th == t && z.ix == i)=some k:=by
 have h:((l++[v]).findIdx? (fun z=>z.th == t && z.ix == i)).isSome:=by
  rw [List.findIdx?_isSome]
  simp [h1,h2]
 exact Option.isSome_iff_exists.1 h
theorem J7 {l:List Ev} {k:Nat} {t i:Int} (h:l.findIdx? (fun z=>z.th == t && z.ix == i)=some k):∃ x,l[k]? = some x/\x.th=t/\x.ix=i:=by
 rw [List.findIdx?_eq_some_iff_getElem] at h
 obtain ⟨hk,h1,-⟩:=h
 simp only [Bool.and_eq_true,beq_iff_eq] at h1
 exact ⟨l[k],List.getElem?_eq_getElem hk,h1⟩
theorem MInv.t8 {N:Nat} {m:Mc} (h:MInv N m):m.t.length<=8:=by have:=h.tl;have:=h.c.t8;omega
theorem MInv.opsl {N:Nat} {m:Mc} (h:MInv N m) (t:Int):(m.opsOf t).length<=1000:=by
 unfold Mc.opsOf
 split
 ·simp
 ·by_cases hl:t.toNat<m.ops.length
  ·rw [List.getD_eq_getElem?_getD,List.getElem?_eq_getElem hl];exact (h.rl _ (List.getElem_mem hl)).1
  ·rw [List.getD_eq_getElem?_getD,List.getElem?_eq_none (by omega)];simp
theorem MInv.opk {N:Nat} {m:Mc} (h:MInv N m) (t:Int) {o:O} (ho:o∈m.opsOf t):0<=o.2.1/\o.2.1<=63:=by
 unfold Mc.opsOf at ho
 split at ho
 ·simp at ho
 ·by_cases hl:t.toNat<m.ops.length
  ·rw [List.getD_eq_getElem?_getD,List.getElem?_eq_getElem hl] at ho;exact (h.rl _ (List.getElem_mem hl)).2 o ho
  ·rw [List.getD_eq_getElem?_getD,List.getElem?_eq_none (by omega)] at ho;simp at ho
theorem U1 {m:Mc} {t:Int} (h:m.over t=false):∃ (n:Nat) (x:Th),t=(n:Int)/\m.t[n]? = some x/\m.th t=x/\(x.busy=false->x.next<((m.opsOf t).length:Int)):=by
 unfold Mc.over at h
 simp only [Bool.or_eq_false_iff,decide_eq_false_iff_not,Bool.and_eq_false_iff,Bool.not_eq_false'] at h
 obtain ⟨⟨h1,h2⟩,h3⟩:=h
 have hl:t.toNat<m.t.length:=by omega
 refine ⟨t.toNat,m.t[t.toNat],by omega,List.getElem?_eq_getElem hl,?_,fun hb=>?_⟩
 ·unfold Mc.th;rw [List.getD_eq_getElem?_getD,List.getElem?_eq_getElem hl];rfl
 ·have e:m.th t=m.t[t.toNat]:=by unfold Mc.th;rw [List.getD_eq_getElem?_getD,List.getElem?_eq_getElem hl];rfl
  rw [e] at h3
  rcases h3 with h3 | h3
  ·rw [hb] at h3;cases h3
  ·omega
theorem q2d {α:Type} {l:List α} {i:Nat} (d:α) (h:i<l.length):l.getD i d∈l:=by
 rw [List.getD_eq_getElem?_getD,List.getElem?_eq_getElem h];exact List.getElem_mem h
theorem q1m {N:Nat} {m:Mc} (h:MInv N m) {n:Nat} {x:Th} (hx:m.t[n]? = some x) (hn:x.next<((m.opsOf (n:Int)).length:Int)):qaa (N+1) (m.opsOf (n:Int)).length (m.begun (n:Int))/\(m.begun (n:Int)).busy=true/\(m.begun (n:Int)).next=x.next+1/\((m.begun (n:Int)).p≠none\/(m.begun (n:Int)).g≠none\/(m.begun (n:Int)).s≠none):=by
 have ht:=h.th n x hx
 have h0:=ht.n0
 have hl8:=h.t8
 have hnl:=(List.getElem?_eq_some_iff.1 hx).1
 have e:m.th (n:Int)=x:=by unfold Mc.th;rw [Int.toNat_natCast,List.getD_eq_getElem?_getD,hx];rfl
 have hk:=h.opk (n:Int) (q2d (l:=m.opsOf (n:Int)) (i:=x.next.toNat) (0,0,0,0) (by omega))
 unfold Mc.begun
 rw [e]
 simp only
 generalize (m.opsOf (n:Int)).getD x.next.toNat (0,0,0,0)=o at *
 have hs:=ht.s0
 split
 ·exact ⟨⟨by simp only;omega,by simp only;omega,by simp only;omega,fun y e=>by cases e;exact (V7.new h.c hk _ _).le (by omega),fun y e=>(by cases e),fun y e=>(by cases e)⟩,rfl,rfl,.inl (by simp)⟩
 ·split
  ·exact ⟨⟨by simp only;omega,by simp only;omega,by simp only;omega,fun y e=>by cases e;exact (V7.new h.c hk _ _).le (by omega),fun y e=>(by cases e),fun y e=>(by cases e)⟩,rfl,rfl,.inl (by simp)⟩
  ·split
   ·exact ⟨⟨by simp only;omega,by simp only;omega,by simp only;omega,fun y e=>(by cases e),fun y e=>by cases e;exact ⟨q78.new h.c hk,fun e=>by simp [Gt.new] at e⟩,fun y e=>(by cases e)⟩,rfl,rfl,.inr (.inl (by simp))⟩
   ·exact ⟨⟨by simp only;omega,by simp only;omega,by simp only;omega,fun y e=>(by cases e),fun y e=>(by cases e),fun y e=>by cases e;exact (Y3.new h.c ⟨by omega,by omega⟩ hk).le (by omega)⟩,rfl,rfl,.inr (.inr (by simp))⟩
theorem MInv.begins {N:Nat} {m:Mc} (h:MInv N m) {n:Nat} {x:Th} (hx:m.t[n]? = some x) (hn:x.next<((m.opsOf (n:Int)).length:Int)):MInv (N+1) (m.begins (n:Int)):=by
 obtain ⟨b1,b2,b3,b4⟩:=q1m h hx hn
 have e:m.th (n:Int)=x:=by unfold Mc.th;rw [Int.toNat_natCast,List.getD_eq_getElem?_getD,hx];rfl
 have hnl:=(List.getElem?_eq_some_iff.1 hx).1
 have ho:∀ t,(m.begins (n:Int)).opsOf t=m.opsOf t:=fun t=>rfl
 have:=h.now;have:=h.idle;have:=h.tk;have:=h.el
 unfold Mc.begins at *
 simp only [e] at *
 refine ⟨h.c,by simpa using h.tl,h.ol,h.rl,fun i y hy=>?_,fun i y hy hb=>?_,by simp;omega,by simp only;omega,by simp only;omega,by simp only;omega,fun z hz=>?_⟩
 ·simp only [Int.toNat_natCast] at hy
  rw [ho]
  by_cases hi:i=n
  ·subst hi;rw [List.getElem?_set_self hnl] at hy;cases hy;exact b1
  ·rw [List.getElem?_set_ne (fun e=>hi e.symm)] at hy;exact (h.th i y hy).more
 ·simp only [Int.toNat_natCast] at hy
  by_cases hi:i=n
  ·subst hi
   rw [List.getElem?_set_self hnl] at hy
   cases hy
   refine ⟨b4,?_⟩
   rw [b3]
   unfold Mc.event
   exact q6n _ _ rfl (by simp)
  ·rw [List.getElem?_set_ne (fun e=>hi e.symm)] at hy
   obtain ⟨k1,k,k2⟩:=h.busy i y hy hb
   exact ⟨k1,k,q5i _ _ k2⟩
 ·rcases List.mem_append.1 hz with hz | hz
  ·have:=h.es z hz;omega
  ·rw [List.mem_singleton.1 hz];simp only;omega
theorem MInv.turn {N:Nat} {m:Mc} (h:MInv N m) {n k:Nat} {x x':Th} {v v':Ev} (hx:m.t[n]? = some x) (hv:m.e[k]? = some v) (hx':qaa (N+1) (m.opsOf (n:Int)).length x') (hn:x'.next=x.next) (hb:x'.busy=true->x.busy=true/\(x'.p≠none\/x'.g≠none\/x'.s≠none)) (h1:v'.th=v.th) (h2:v'.ix=v.ix) (h3:0<=v'.steps/\v'.steps<=N+1) (s:St):MInv (N+1) { m with a:=s,t:=m.t.set n x',e:=m.e.set k v' }:=by
 have hnl:=(List.getElem?_eq_some_iff.1 hx).1
 have:=h.now;have:=h.idle;have:=h.tk;have:=h.el
 refine ⟨h.c,by simpa using h.tl,h.ol,h.rl,fun i y hy=>?_,fun i y hy hb'=>?_,by simp;omega,by simp only;omega,by simp only;omega,by simp only;omega,fun z hz=>?_⟩
 ·simp only at hy
  show qaa (N+1) (m.opsOf (i:Int)).length y
  by_cases hi:i=n
  ·subst hi;rw [List.getElem?_set_self hnl] at hy;cases hy;exact hx'
  ·rw [List.getElem?_set_ne (fun e=>hi e.symm)] at hy;exact (h.th i y hy).more
 ·simp only at hy
  unfold Mc.event
  simp only
  rw [Tw _ _ hv h1 h2]
  by_cases hi:i=n
  ·subst hi
   rw [List.getElem?_set_self hnl] at hy
   cases hy
   exact ⟨(hb hb').2,by rw [hn];exact (h.busy i x hx (hb hb').1).2⟩
  ·rw [List.getElem?_set_ne (fun e=>hi e.symm)] at hy
   exact h.busy i y hy hb'
 ·rcases List.mem_or_eq_of_mem_set hz with hz | rfl
  ·have:=h.es z hz;omega
  ·exact h3
theorem MInv.steps {N:Nat} (hN:1<=N) {m:Mc} (h:MInv N m) {n k:Nat} {x:Th} {v:Ev} (hx:m.t[n]? = some x) (hv:m.e[k]? = some v):MInv (N+1) (m.steps (n:Int) k):=by
 have e:m.th (n:Int)=x:=by unfold Mc.th;rw [Int.toNat_natCast,List.getD_eq_getElem?_getD,hx];rfl
 have e2:m.e.getD k q9y=v:=by rw [List.getD_eq_getElem?_getD,hv];rfl
 have ht:=h.th n x hx
 have hes:=h.es v (List.mem_of_getElem? hv)
 unfold Mc.steps
 simp only [e,e2,Int.toNat_natCast]
 have hm:MInv (N+1) m:=by
  have:=h.turn (s:=m.a) hx hv ht.more rfl (fun hb=>⟨hb,(h.busy n x hx hb).1⟩) rfl rfl (by omega)
  rw [Xi hx,Xi hv] at this
  exact this
 split
 ·rename_i p hp
  refine h.turn hx hv ?_ ?_ (fun hb=>?_) ?_ ?_ ?_ _
  ·exact ⟨ht.n0,ht.n1,ht.s0,fun y e=>by cases e;exact (ht.p p hp).step hN _,ht.g,fun y e=>(ht.s y e).more⟩
  ·rfl
  ·simp only [Bool.and_eq_true] at hb;exact ⟨hb.2,.inl (by simp)⟩
  ·split <;> (split <;> rfl)
  ·split <;> (split <;> rfl)
  ·split <;> (split <;> (simp only;omega))
 ·split
  ·rename_i g hg
   refine h.turn hx hv ?_ ?_ (fun hb=>?_) ?_ ?_ ?_ _
   ·exact ⟨ht.n0,ht.n1,ht.s0,fun y e=>(ht.p y e).more,fun y e=>by cases e;exact ⟨(ht.g g hg).1.step _,q4q (ht.g g hg).2 _⟩,fun y e=>(ht.s y e).more⟩
   ·rfl
   ·simp only [Bool.and_eq_true] at hb;exact ⟨hb.2,.inr (.inl (by simp))⟩
   ·split <;> rfl
   ·split <;> rfl
   ·split <;> (simp only;omega)
  ·split
   ·rename_i y hy
    refine h.turn hx hv ?_ ?_ (fun hb=>?_) ?_ ?_ ?_ _
    ·exact ⟨ht.n0,ht.n1,ht.s0,fun y e=>(ht.p y e).more,ht.g,fun z e=>by cases e;exact (ht.s y hy).step _⟩
    ·rfl
    ·simp only [Bool.and_eq_true] at hb;exact ⟨hb.2,.inr (.inr (by simp))⟩
    ·split <;> rfl
    ·split <;> rfl
    ·split <;> (simp only;omega)
   ·exact hm
theorem MInv.evs {N:Nat} {m:Mc} (h:MInv N m) {k:Nat} {v v':Ev} (hv:m.e[k]? = some v) (h1:v'.th=v.th) (h2:v'.ix=v.ix) (h3:v'.steps=v.steps):MInv N { m with e:=m.e.set k v' }:=by
 refine ⟨h.c,h.tl,h.ol,h.rl,h.th,fun i y hy hb=>?_,by simpa using h.el,h.now,h.idle,h.tk,fun z hz=>?_⟩
 ·unfold Mc.event;simp only;rw [Tw _ _ hv h1 h2];exact h.busy i y hy hb
 ·rcases List.mem_or_eq_of_mem_set hz with hz | rfl
  ·exact h.es z hz
  ·rw [h3];exact h.es v (List.mem_of_getElem? hv)
theorem MInv.ticked {N:Nat} {m:Mc} (h:MInv N m):MInv (N+1) { m with ticks:=m.ticks++[m.now] }:=by
 have:=h.now;have:=h.idle;have:=h.tk;have:=h.el
 exact ⟨h.c,h.tl,h.ol,h.rl,fun i x e=>(h.th i x e).more,h.busy,by simp only;omega,by simp only;omega,by simp only;omega,by simp;omega,fun z hz=>by have:=h.es z hz;omega⟩
theorem MInv.more {N:Nat} {m:Mc} (h:MInv N m):MInv (N+1) m:=by
 have:=h.now;have:=h.idle;have:=h.tk;have:=h.el
 exact ⟨h.c,h.tl,h.ol,h.rl,fun i x e=>(h.th i x e).more,h.busy,by omega,by omega,by omega,by omega,fun z hz=>by have:=h.es z hz;omega⟩
theorem MInv.notes {N:Nat} {m:Mc} (h:MInv N m):MInv (N+1) m.notes:=by
 unfold Mc.notes
 simp only
 have h1:MInv (N+1) (if m.a.a.kind=4/\m.a.a.at_=1 then { m with ticks:=m.ticks++[m.now] } else m):=by
  split
  ·exact h.ticked
  ·exact h.more
 generalize (if m.a.a.kind=4/\m.a.a.at_=1 then { m with ticks:=m.ticks++[m.now] } else m)=m1 at *
 split
 ·split
  ·rename_i k hk
   obtain ⟨v,hv,-,-⟩:=J7 hk
   have e2:m1.e.getD k q9y=v:=by rw [List.getD_eq_getElem?_getD,hv];rfl
   rw [e2]
   exact h1.evs hv rfl rfl rfl
  ·exact h1
 ·exact h1
theorem MInv.pick {N:Nat} {m:Mc} (h:MInv N m) (t:Int):MInv (N+4) (m.pick t):=by
 unfold Mc.pick
 have hm:=h.more.more.more.more
 have hnw:=h.now;have hid:=h.idle
 split
 ·exact ⟨hm.c,hm.tl,hm.ol,hm.rl,hm.th,hm.busy,hm.el,by simp only;omega,by simp only;omega,hm.tk,hm.es⟩
 ·rename_i ho
  obtain ⟨n,x,rfl,hx,e,hb⟩:=U1 (by simpa using ho)
  simp only
  have h1:MInv (N+1) (if (m.th (n:Int)).busy=true then m else m.begins (n:Int)):=by
   split
   ·exact h.more
   ·rename_i hb';rw [e] at hb';exact h.begins hx (hb (by simpa using hb'))
  generalize hm1:(if (m.th (n:Int)).busy=true then m else m.begins (n:Int))=m1 at *
  have hnw1:m1.now=m.now:=by rw [<- hm1];split <;> rfl
  have hl1:m1.t.length=m.t.length:=by rw [<- hm1];split;rfl;simp [Mc.begins]
  have hnl:=(List.getElem?_eq_some_iff.1 hx).1
  split
  ·rename_i k hk
   obtain ⟨v,hv,-,-⟩:=J7 hk
   have hx1:m1.t[n]? = some m1.t[n]:=List.getElem?_eq_getElem (by omega)
   have h2:=h1.steps (by omega) hx1 hv
   generalize hm2:m1.steps (n:Int) k=m2 at *
   have h3:MInv (N+3) (if m1.a.n<m2.a.n then m2.notes else m2):=by
    split
    ·exact h2.notes
    ·exact h2.more
   have hnw3:(if m1.a.n<m2.a.n then m2.notes else m2).now=m.now:=by
    have e2:m2.now=m.now:=by
     rw [<- hm2,<- hnw1];unfold Mc.steps;simp only
     split
     ·rfl
     ·split
      ·rfl
      ·split <;> rfl
    split
    ·unfold Mc.notes
     simp only
     split
     ·split
      ·simp only;split <;> exact e2
      ·split <;> exact e2
     ·split <;> exact e2
    ·exact e2
   generalize (if m1.a.n<m2.a.n then m2.notes else m2)=m3 at *
   have h4:=h3.more
   exact ⟨h4.c,h4.tl,h4.ol,h4.rl,h4.th,h4.busy,h4.el,by simp only;omega,h4.idle,h4.tk,h4.es⟩
  ·exact h1.more.more.more
def Vz (N0:Nat) (w:World) (b:Nat) (m':Mc) (v:Value) (e:Ending) (w':World):Prop:=e = .returned v/\(∃ own' y',jc N0 own' w' b m' y')/\FrO N0 w w'
section
variable {N0:Nat} {own:Nat->Nat} {w:World} {b:Nat} {m:Mc} {y:Lay}
theorem J6.num {R B:List Nat} {x:Th} {z:Tv} (h:J6 w R B x z) (n:Int) (u:Bool) (s:Int):J6 w R B { x with next:=n,busy:=u,scans:=s } { z with next:=n,busy:=u,scans:=s }:=⟨⟨rfl,rfl,rfl⟩,h.2⟩
theorem J6.nilP {R B:List Nat} {x:Th} {z:Tv} (h:J6 w R B x z):∃ B',J6 w R B' { x with p:=none } { z with pp:=none } /\ ∀ k,k∈B'->k∈B:=by
 obtain ⟨h0,⟨p,b,e1,e2,e3,e4,e5,e6,h⟩ | ⟨p,b,e1,e2,e3,e4,e5,e6,h⟩ | ⟨p,b,e1,e2,e3,e4,e5,e6,h⟩ | ⟨e1,e2,e3,e4,e5,e6,h⟩⟩:=h
 ·exact ⟨[],⟨h0,.inr (.inr (.inr ⟨rfl,e2,e3,rfl,e5,e6,rfl⟩))⟩,by simp⟩
 ·exact ⟨B,⟨h0,.inr (.inl ⟨p,b,rfl,e2,e3,rfl,e5,e6,h⟩)⟩,fun k hk=>hk⟩
 ·exact ⟨B,⟨h0,.inr (.inr (.inl ⟨p,b,rfl,e2,e3,rfl,e5,e6,h⟩))⟩,fun k hk=>hk⟩
 ·exact ⟨B,⟨h0,.inr (.inr (.inr ⟨rfl,e2,e3,rfl,e5,e6,h⟩))⟩,fun k hk=>hk⟩
theorem J6.nilG {R B:List Nat} {x:Th} {z:Tv} (h:J6 w R B x z):∃ B',J6 w R B' { x with g:=none } { z with gp:=none } /\ ∀ k,k∈B'->k∈B:=by
 obtain ⟨h0,⟨p,b,e1,e2,e3,e4,e5,e6,h⟩ | ⟨p,b,e1,e2,e3,e4,e5,e6,h⟩ | ⟨p,b,e1,e2,e3,e4,e5,e6,h⟩ | ⟨e1,e2,e3,e4,e5,e6,h⟩⟩:=h
 ·exact ⟨B,⟨h0,.inl ⟨p,b,e1,rfl,e3,e4,rfl,e6,h⟩⟩,fun k hk=>hk⟩
 ·exact ⟨[],⟨h0,.inr (.inr (.inr ⟨e1,rfl,e3,e4,rfl,e6,rfl⟩))⟩,by simp⟩
 ·exact ⟨B,⟨h0,.inr (.inr (.inl ⟨p,b,e1,rfl,e3,e4,rfl,e6,h⟩))⟩,fun k hk=>hk⟩
 ·exact ⟨B,⟨h0,.inr (.inr (.inr ⟨e1,rfl,e3,e4,rfl,e6,h⟩))⟩,fun k hk=>hk⟩
theorem J6.nilS {R B:List Nat} {x:Th} {z:Tv} (h:J6 w R B x z):∃ B',J6 w R B' { x with s:=none } { z with sp:=none } /\ ∀ k,k∈B'->k∈B:=by
 obtain ⟨h0,⟨p,b,e1,e2,e3,e4,e5,e6,h⟩ | ⟨p,b,e1,e2,e3,e4,e5,e6,h⟩ | ⟨p,b,e1,e2,e3,e4,e5,e6,h⟩ | ⟨e1,e2,e3,e4,e5,e6,h⟩⟩:=h
 ·exact ⟨B,⟨h0,.inl ⟨p,b,e1,e2,rfl,e4,e5,rfl,h⟩⟩,fun k hk=>hk⟩
 ·exact ⟨B,⟨h0,.inr (.inl ⟨p,b,e1,e2,rfl,e4,e5,rfl,h⟩)⟩,fun k hk=>hk⟩
 ·exact ⟨[],⟨h0,.inr (.inr (.inr ⟨e1,e2,rfl,e4,e5,rfl,rfl⟩))⟩,by simp⟩
 ·exact ⟨B,⟨h0,.inr (.inr (.inr ⟨e1,e2,rfl,e4,e5,rfl,h⟩))⟩,fun k hk=>hk⟩
theorem jc.thK (h:jc N0 own w b m y) {n:Nat} {x:Th} {z:Tv} (hx:m.t[n]? = some x) (hz:y.ts[n]? = some z) (w':World) (F:Fr [y.tb] w w'):∃ B,J6 w' y.R B x z/\∀ k,k∈B->own k=n+6:=by
 obtain ⟨B,h1,h2⟩:=h.thr n x z hx hz
 have hct:=h.ct
 exact ⟨B,h1.kept F (fun k hk hi=>by simp at hi;subst hi;have:=h2 _ hk;omega) (fun k hk hi=>by simp at hi;subst hi;have:=h.R0 _ hk;omega),h2⟩
theorem jc.setT2 {x0:Th} {z0:Tv} {t j:Nat} (h:jc N0 own w b { m with t:=m.t.set t x0 } { y with ts:=y.ts.set t z0 }) (ht:t<m.t.length) {x':Th} {z':Tv} {u:Value} (hj:j<6) (hf:fTv z'=(fTv z0).set j u) (hx:∀ w',Fr [y.tb] w w'->∃ B,J6 w' y.R B x' z'/\∀ k,k∈B->own k=t+6) :
  jc N0 own (w.setCell ⟨y.tb,t * 6+j,none⟩ u) b { m with t:=m.t.set t x' } { y with ts:=y.ts.set t z' } /\ FrO N0 w (w.setCell ⟨y.tb,t * 6+j,none⟩ u):=by
 have hz:(y.ts.set t z0)[t]? = some z0:=List.getElem?_set_self (by have:=h.thl;simp at this;omega)
 obtain ⟨h1,h2⟩:=h.setT (t:=t) (x':=x') hz hj hf hx
 simp only [List.set_set] at h1
 exact ⟨h1,h2⟩
theorem jc.thK2 {x0:Th} {z0:Tv} {t:Nat} (h:jc N0 own w b { m with t:=m.t.set t x0 } { y with ts:=y.ts.set t z0 }) (ht:t<m.t.length) (w':World) (F:Fr [y.tb] w w'):∃ B,J6 w' y.R B x0 z0/\∀ k,k∈B->own k=t+6 :=
 h.thK (List.getElem?_set_self ht) (List.getElem?_set_self (by have:=h.thl;simp at this;omega)) w' F
theorem jc.five (h:jc N0 own w b m y) {n:Nat} {x:Th} {z:Tv} (hx:m.t[n]? = some x) (hz:y.ts[n]? = some z) :
  jc N0 own (((((w.setCell ⟨y.tb,n * 6+1,none⟩ (.bool true)).setCell ⟨y.tb,n * 6,none⟩ (.int .i64 (x.next+1))).setCell ⟨y.tb,n * 6+3,none⟩ (.pointer none)).setCell ⟨y.tb,n * 6+4,none⟩ (.pointer none)).setCell ⟨y.tb,n * 6+5,none⟩ (.pointer none)) b { m with t:=m.t.set n ⟨x.next+1,true,x.scans,none,none,none⟩ } { y with ts:=y.ts.set n ⟨x.next+1,true,x.scans,none,none,none⟩ } /\
   Fr [y.tb] w (((((w.setCell ⟨y.tb,n * 6+1,none⟩ (.bool true)).setCell ⟨y.tb,n * 6,none⟩ (.int .i64 (x.next+1))).setCell ⟨y.tb,n * 6+3,none⟩ (.pointer none)).setCell ⟨y.tb,n * 6+4,none⟩ (.pointer none)).setCell ⟨y.tb,n * 6+5,none⟩ (.pointer none)):=by
 have hn:=(List.getElem?_eq_some_iff.1 hx).1
 obtain ⟨e1,e2,e3⟩:=(h.thr n x z hx hz).choose_spec.1.1
 have hm:w.setCell ⟨y.tb,n * 6,none⟩ (.int .i64 (x.next+1))=w.setCell ⟨y.tb,n * 6+0,none⟩ (.int .i64 (x.next+1)):=rfl
 obtain ⟨h1,-⟩:=h.setT (t:=n) (j:=1) (u:=.bool true) (x':={ x with next:=x.next,busy:=true,scans:=x.scans }) (z':={ z with next:=x.next,busy:=true,scans:=x.scans }) hz (by decide) (by simp [fTv,e1,e3]) (fun w' F=>by obtain ⟨B,k1,k2⟩:=h.thK hx hz w' F;exact ⟨B,k1.num _ _ _,k2⟩)
 obtain ⟨h2,-⟩:=h1.setT2 hn (j:=0) (u:=.int .i64 (x.next+1)) (x':={ x with next:=x.next+1,busy:=true,scans:=x.scans }) (z':={ z with next:=x.next+1,busy:=true,scans:=x.scans }) (by decide) (by simp [fTv]) (fun w' F=>by obtain ⟨B,k1,k2⟩:=h1.thK2 hn w' F;exact ⟨B,k1.num _ _ _,k2⟩)
 obtain ⟨h3,-⟩:=h2.setT2 hn (j:=3) (u:=.pointer none) (x':={ x with next:=x.next+1,busy:=true,scans:=x.scans,p:=none }) (z':={ z with next:=x.next+1,busy:=true,scans:=x.scans,pp:=none }) (by decide) (by simp [fTv,xw]) (fun w' F=>by obtain ⟨B,k1,k2⟩:=h2.thK2 hn w' F;obtain ⟨B',k3,k4⟩:=k1.nilP;exact ⟨B',k3,fun k hk=>k2 k (k4 k hk)⟩)
 obtain ⟨h4,-⟩:=h3.setT2 hn (j:=4) (u:=.pointer none) (x':={ x with next:=x.next+1,busy:=true,scans:=x.scans,p:=none,g:=none }) (z':={ z with next:=x.next+1,busy:=true,scans:=x.scans,pp:=none,gp:=none }) (by decide) (by simp [fTv,xw]) (fun w' F=>by obtain ⟨B,k1,k2⟩:=h3.thK2 hn w' F;obtain ⟨B',k3,k4⟩:=k1.nilG;exact ⟨B',k3,fun k hk=>k2 k (k4 k hk)⟩)
 obtain ⟨h5,-⟩:=h4.setT2 hn (j:=5) (u:=.pointer none) (x':={ x with next:=x.next+1,busy:=true,scans:=x.scans,p:=none,g:=none,s:=none }) (z':={ z with next:=x.next+1,busy:=true,scans:=x.scans,pp:=none,gp:=none,sp:=none }) (by decide) (by simp [fTv,xw]) (fun w' F=>by obtain ⟨B,k1,k2⟩:=h4.thK2 hn w' F;obtain ⟨B',k3,k4⟩:=k1.nilS;exact ⟨B',k3,fun k hk=>k2 k (k4 k hk)⟩)
 exact ⟨h5,((((Fr.setCell _ (by simp)).setCell' _ (by simp)).setCell' _ (by simp)).setCell' _ (by simp)).setCell' _ (by simp)⟩
end
theorem evI:(Tryz.prog.info? 72).map (fun i=>(i.zero,i.size,i.bytes))=some (some (.agg #[.int .i64 0,.int .i64 0,.int .i64 0,.int .i64 0,.int .i64 0,.int .i64 0,.int .i64 0,.int .i64 0,.int .i64 0,.int .i64 0,.int .i64 0,.int .i64 0,.int .i64 0,.bool false,.int .i64 0,.int .i64 0,.int .i64 0,.slice none 0 0]),18,160):=by kernel_rfl
theorem qco {w:World} {b:Nat} {T:TypeId} {x0 x1 x2 x3:Value} (h:Ob w b T #[x0,x1,x2,x3]) (y0 y1 y2 y3:Value) :
  Ob ((((w.setCell ⟨b,0,none⟩ y0).setCell ⟨b,1,none⟩ y1).setCell ⟨b,2,none⟩ y2).setCell ⟨b,3,none⟩ y3) b T #[y0,y1,y2,y3]:=by
 have:=((((h.set (i:=0) y0).set (i:=1) y1).set (i:=2) y2).set (i:=3) y3)
 rwa [show ((((#[x0,x1,x2,x3]:Array Value).setIfInBounds 0 y0).setIfInBounds 1 y1).setIfInBounds 2 y2).setIfInBounds 3 y3 = #[y0,y1,y2,y3] from rfl] at this
def OpC (o:O):Array Value:=#[.int .i64 o.1,.int .i64 o.2.1,.int .i64 o.2.2.1,.int .i64 o.2.2.2]
theorem Ve {w:World} {b:Nat} {T:TypeId} {o:O} (h:Ob w b T (OpC o)):w.cell? ⟨b,0,none⟩=some (.int .i64 o.1)/\w.cell? ⟨b,1,none⟩=some (.int .i64 o.2.1)/\w.cell? ⟨b,2,none⟩=some (.int .i64 o.2.2.1)/\w.cell? ⟨b,3,none⟩=some (.int .i64 o.2.2.2):=⟨h.cell rfl,h.cell rfl,h.cell rfl,h.cell rfl⟩
theorem xh {w:World} {g:Nat} {T:TypeId} {ts:List Tv} {n j:Nat} {z:Tv} {u:Value} (h:Ob w g T (ts.flatMap fTv).toArray) (hz:ts[n]? = some z) (hj:j<6) (hu:(fTv z)[j]? = some u):w.cell? ⟨g,n * 6+j,none⟩=some u:=by
 refine h.cell ?_
 simp only [List.getElem?_toArray]
 rw [Wz.at hz hj];exact hu
theorem qcr {w:World} {v:Value} {os:List O} (h:Sq fO w v os) {i:Nat} {o:O} (hi:os[i]? = some o):∃ g off cap,v = .slice (some ⟨g,off,none⟩) os.length cap/\w.cell? ⟨g,off+i * 4,none⟩=some (.int .i64 o.1)/\w.cell? ⟨g,off+i * 4+1,none⟩=some (.int .i64 o.2.1)/\w.cell? ⟨g,off+i * 4+2,none⟩=some (.int .i64 o.2.2.1)/\w.cell? ⟨g,off+i * 4+3,none⟩=some (.int .i64 o.2.2.2):=by
 obtain ⟨a,cap,rfl,-,-,-⟩:=id h
 obtain ⟨-,g,off,rfl,hc⟩:=Sq.cell q75 h hi
 exact ⟨g,off,cap,rfl,hc 0 _ rfl,hc 1 _ rfl,hc 2 _ rfl,hc 3 _ rfl⟩
def Jg (t i:Int) (o:O) (now:Int):Ev:=⟨t,i,o,now,-1,0,-1,-1,-1,Vp⟩
theorem q3l {N0:Nat} {own:Nat->Nat} {w:World} {b:Nat} {m:Mc} {y:Lay} {N:Nat} (hI:MInv N m) (hN:N<=900000) (h:jc N0 own w b m y) (hN0:N0<=w.heap.size) {n:Nat} {x:Th} (hx:m.t[n]? = some x) (hnx:x.next<((m.opsOf (n:Int)).length:Int)) :
  Calls Tryz.prog 76 #[.pointer (some ⟨b,0,none⟩),.int .i64 n] w (Vz N0 w b (m.begins (n:Int)) (.tuple #[])):=by
 have hn:=(List.getElem?_eq_some_iff.1 hx).1
 have hn8:=hI.t8
 obtain ⟨z,hz⟩:∃ z,y.ts[n]? = some z:=⟨y.ts[n]'(by rw [h.thl];exact hn),List.getElem?_eq_getElem _⟩
 obtain ⟨e1,e2,e3⟩:=(h.thr n x z hx hz).choose_spec.1.1
 have ht:=hI.th n x hx
 have hol:=hI.opsl (n:Int)
 replace h:=h.xx 0 hN0
 have hfresh:∀ k,w.heap.size<=k->xx own w.heap.size 0 k=0:=fun k hk=>yg hk
 generalize xx own w.heap.size 0=own at *
 obtain ⟨i,hi⟩:∃ i:Nat,x.next=(i:Int):=⟨x.next.toNat,by have:=ht.n0;omega⟩
 have hil:i<(m.opsOf (n:Int)).length:=by omega
 obtain ⟨o,ho⟩:∃ o,(m.opsOf (n:Int))[i]? = some o:=⟨_,List.getElem?_eq_getElem hil⟩
 have hE:m.begins (n:Int) = { m with t:=m.t.set n (m.begun (n:Int)),e:=m.e++[Jg n i o m.now] }:=by
  unfold Mc.begins Jg
  have e:m.th (n:Int)=x:=by unfold Mc.th;rw [Int.toNat_natCast,List.getD_eq_getElem?_getD,hx];rfl
  simp only [e,hi,Int.toNat_natCast,List.getD_eq_getElem?_getD,ho,Option.getD_some]
 have hB:m.begun (n:Int)=(if o.1=1 then ⟨(i:Int)+1,true,x.scans,some (Pt.new m.c o.2.1 (Kj (vh n i) o.2.2.1) (m.drawsOf (vh n i))),none,none⟩
   else if o.1=2 then ⟨(i:Int)+1,true,x.scans,some (Pt.new m.c o.2.1 (Kj (vh n i) (-1)) (m.drawsOf (vh n i))),none,none⟩
   else if o.1=3 then ⟨(i:Int)+1,true,x.scans,none,some (Gt.new m.c o.2.1),none⟩
   else ⟨(i:Int)+1,true,x.scans+1,none,none,some (Sn.new m.c n (x.scans+1) o.2.1 o.2.2.2)⟩):=by
  unfold Mc.begun
  have e:m.th (n:Int)=x:=by unfold Mc.th;rw [Int.toNat_natCast,List.getD_eq_getElem?_getD,hx];rfl
  simp only [e,hi,Int.toNat_natCast,List.getD_eq_getElem?_getD,ho,Option.getD_some]
 rw [hE]
 have HB:=q9 hB
 clear hE hB
 generalize m.begun (n:Int)=X at *
 have hi1:i<1000:=by omega
 obtain ⟨go,oo,co,hov,d0,d1,d2,d3⟩:=qcr (q51 h.fz.rows (n:Int)) ho
 have HOV:=q9 hov
 have HOL:=q9 (qc hol (qc hil hnx))
 have t0:=xh h.th hz (j:=0) (by decide) rfl
 rw [e1,hi] at t0
 obtain ⟨-,-,-,-,-,-,-,-,c8,-,-,-,-⟩:=zw h.ob
 unfold Lay.tv at c8
 have hlz:(n:Int)<(y.ts.length:Int):=by rw [h.thl];omega
 have HX:=q9 (qc hx (qc hz (qc hi (qc e1 (qc e2 e3)))))
 have HTL:=q9 (qc hn (qc hn8 ht))
 have HI:=q9 hI
 have hilz:(i:Int)<((m.opsOf (n:Int)).length:Int):=by omega
 clear hx hz hi e1 e2 e3 hn ht hI hov hol hil hnx ho
 have H:=q9 h
 clear h
 generalize (m.opsOf (n:Int)).length=len at *
 have HT0:=q9 t0
 rw [Nat.add_zero] at t0
 go_enter Tryz.func76,Tryz.ntmps76
 go_wp2_with fail
 refine qy (by kernel_rfl) [] (fun w2 F2=>?_)
 refine epq [true,true,true,true,true,true,true,true,true,false,false] 2 F2 ?_
 apply qg
 refine ⟨fun wf Ff=>?_,?_⟩
 ·have HU:=q9 (H.out.up Ff)
  have k0:=qb (Ff.cell t0 (by simp))
  have q0:=qb (Ff.cell d0 (by simp))
  have q1:=qb (Ff.cell d1 (by simp))
  have q2:=qb (Ff.cell d2 (by simp))
  have q3:=qb (Ff.cell d3 (by simp))
  simp only [sel]
  repeat (go_big_quiet_step ((go_at_call 80;exact Calls.in_same ((Ka m _ b y.ov y.pv y.dv y.p y.tv y.kv y.ev y.R y.ss _ (HU.out.up (In.fr _)).ob (HU.out.up (In.fr _)).fz.rows).mono (fun e w' hh=>⟨hh.1.trans (by rw [HOV.out]),hh.2.symm⟩)))))
  exact wpQuiet_nil rfl
 refine eoq 9 (fun w3 F3=>?_)
 replace F2:=F2.trans F3
 clear F3
 go_wp2_with fail
 have FA:=(Fr.refl [] w3).alloc (.cells #[.int .i64 0,.int .i64 0,.int .i64 0,.int .i64 0] 55)
 have oA:Ob _ w3.heap.size 55 #[.int .i64 0,.int .i64 0,.int .i64 0,.int .i64 0]:=Ob.new w3 _ _
 have hob:w.heap.size<=w3.heap.size:=F2.size
 refine ql ⟨F2.trans FA,?_⟩
 refine eoq 10 (fun w4 F4=>?_)
 replace F2:=(F2.trans FA).trans F4
 replace oA:=Ob.up oA F4
 clear FA F4
 generalize w3.heap.size=ob at *
 have z:=oA.frozen
 have q0:w4.cell? ⟨ob,0,none⟩=some (.int .i64 0):=oA.cell rfl
 have q1:w4.cell? ⟨ob,1,none⟩=some (.int .i64 0):=oA.cell rfl
 have q2:w4.cell? ⟨ob,2,none⟩=some (.int .i64 0):=oA.cell rfl
 have q3:w4.cell? ⟨ob,3,none⟩=some (.int .i64 0):=oA.cell rfl
 go_wp2_with fail
 clear q0 q1 q2 q3
 have o5:Ob _ ob 55 (OpC o):=qco oA (.int .i64 o.1) (.int .i64 o.2.1) (.int .i64 o.2.2.1) (.int .i64 o.2.2.2)
 have F5:Fr [] w ((((w4.setCell ⟨ob,0,none⟩ (.int .i64 o.1)).setCell ⟨ob,1,none⟩ (.int .i64 o.2.1)).setCell ⟨ob,2,none⟩ (.int .i64 o.2.2.1)).setCell ⟨ob,3,none⟩ (.int .i64 o.2.2.2)):=F2.own ((((Fr.setCell (S:=[ob]) _ (by simp)).setCell' _ (by simp)).setCell' _ (by simp)).setCell' _ (by simp)) (by simpa using hob)
 clear F2 z oA
 generalize ((((w4.setCell ⟨ob,0,none⟩ (.int .i64 o.1)).setCell ⟨ob,1,none⟩ (.int .i64 o.2.1)).setCell ⟨ob,2,none⟩ (.int .i64 o.2.2.1)).setCell ⟨ob,3,none⟩ (.int .i64 o.2.2.2))=w5 at *
 refine ql ⟨F5,?_⟩
 refine zr (by kernel_rfl) (fun w6 F6=>?_)
 replace F5:=F5.trans F6
 replace o5:=Ob.up o5 F6
 have H6:=q9 (H.out.up F5)
 have HS:=q9 (qc F5 hob)
 clear H F6 d0 d1 d2 d3 c8 t0 HT0
 have t0:=xh H6.out.th HX.out.2.1 (j:=0) (by decide) rfl
 rw [Nat.add_zero,HX.out.2.2.2.1,HX.out.2.2.1] at t0
 go_wp2_with fail
 refine (q4h _ _ _).mono ?_;rintro e w7 ⟨rfl,rfl⟩
 go_wp2_with fail
 obtain ⟨ae,ce,hev,hce,hme,-⟩:=id (Sq.own (f:=fEv) H6.out.ev)
 have hes:y.es.length<=N:=by rw [H6.out.esl];exact HI.out.el
 obtain ⟨-,-,-,-,-,-,-,-,-,c9,-,-,c12⟩:=zw H6.out.ob
 rw [hev] at c12
 obtain ⟨q0,q1,q2,q3⟩:=Ve o5
 have r6:=H6.out.ev
 rw [hev] at r6
 have hevo:=H6.out.evo
 rw [hev] at hevo
 have nb:b∉(Value.slice ae y.es.length ce).ownBlock.toList:=fun hi=>by have:=hevo b hi;have:=H6.out.cb;omega
 have ntb:y.tb∉(Value.slice ae y.es.length ce).ownBlock.toList:=fun hi=>by have:=hevo _ hi;have:=H6.out.ct;omega
 have nob:ob∉(Value.slice ae y.es.length ce).ownBlock.toList:=fun hi=>by have:=hevo _ hi;have:=hfresh ob HS.out.2;omega
 have HEV:=q9 hev
 clear hev hevo
 refine qo (by kernel_rfl) ?_
 refine z6 (Value.slice ae y.es.length ce).ownBlock.toList w6 #[true,true,true,true,true,true,true,true,true,true,true,true,true,true,true,true,true,true,false,false,false] 18 3 rfl ?_
 refine lpq [true,true,true,true,true,true,true,true,true,true,true,true,true,true,true,true,false,false,false,false,false] 2 ((Fr.refl _ _).drew) ?_
 apply qg
 refine ⟨fun wf Ff=>?_,?_⟩
 ·have k9:=qb (Ff.cell c9 nb)
  have k12:=qb (Ff.cell c12 nb)
  have k0:=qb (Ff.cell t0 ntb)
  have p0:=qb (Ff.cell q0 nob)
  have p1:=qb (Ff.cell q1 nob)
  have p2:=qb (Ff.cell q2 nob)
  have p3:=qb (Ff.cell q3 nob)
  simp only [sel]
  repeat (go_big_quiet_step (fail))
  exact wpQuiet_nil rfl
 refine loq 16 (fun w10 F10=>?_)
 have G:=((Fr.refl (Value.slice ae y.es.length ce).ownBlock.toList w6).drew).then F10
 have r10:=qm r6 ((Fr.refl [] w6).drew.trans F10)
 clear F10 r6
 go_wp2_with fail
 have F12:=(Fr.refl [] w10).alloc (.cells #[.int .i64 n,.int .i64 i,.int .i64 o.1,.int .i64 o.2.1,.int .i64 o.2.2.1,.int .i64 o.2.2.2,.int .i64 m.now,.int .i64 (-1),.int .i64 0,.int .i64 (-1),.int .i64 (-1),.int .i64 (-1),.int .i64 0,.bool false,.int .i64 0,.int .i64 0,.int .i64 0,.slice none 0 0] 72)
 have B12:=Go.heap_alloc_new w10 (.cells #[.int .i64 n,.int .i64 i,.int .i64 o.1,.int .i64 o.2.1,.int .i64 o.2.2.1,.int .i64 o.2.2.2,.int .i64 m.now,.int .i64 (-1),.int .i64 0,.int .i64 (-1),.int .i64 (-1),.int .i64 (-1),.int .i64 0,.bool false,.int .i64 0,.int .i64 0,.int .i64 0,.slice none 0 0] 72)
 have r12:=qm r10 F12
 replace G:=G.then F12
 clear r10 F12
 refine ql ⟨G,?_⟩
 refine loq 17 (fun w13 F13=>?_)
 have r22:=qm r12 F13
 have B22:=F13.heap B12 (by simp)
 replace G:=G.then F13
 have HGG:=q9 G.size
 clear r12 B12 F13
 go_wp2_with (at_builtin;go_loud (refine kr J4 rfl _ _ 62 rfl Tryz.underlying62 evI rfl (B:=N0) (.slice ae y.es.length ce) y.es rfl r22 _ [(⟨Jg n i o m.now,⟨none,0,0⟩⟩:Evv)] rfl (Sq.block B22 rfl rfl (Nat.le_refl _) (by simp [maxLen])) (by simp <;> omega) (by decide) (qh hN0 (qh HS.out.1.size G.size)) ?_);intro a23 c23 w23 r23 f23 n23)
 replace G:=G.trans f23
 have hs6:=HS.out.1.size
 have hg6:w6.heap.size<=w13.heap.size:=HGG.out
 refine ql ⟨G,?_⟩
 refine qx (k:=18) rfl (by kernel_rfl) (fun w15 F15=>?_)
 have r15:=qm r23 F15
 replace G:=G.then F15
 have A:=H6.out.appE (qh hN0 hs6) (w1:=w15) (x:=⟨Jg n i o m.now,⟨none,0,0⟩⟩) (by rw [HEV.out];exact G) r15 (by rw [HEV.out];exact fun g hg=>(n23 g hg).imp id (fun e=>by omega)) ⟨rfl,rfl⟩
 have hb0:xx own w6.heap.size 5 ob=0:=(vu (Ob.lt o5)).trans (hfresh ob hob)
 generalize xx own w6.heap.size 5=own2 at *
 have Fv:=A.1.five HX.out.1 HX.out.2.1
 dsimp only at Fv
 rw [HX.out.2.2.1] at Fv
 have th15:=Ob.kept H6.out.th G ntb
 have ob15:=Ob.kept H6.out.ob G nb
 have zb:=ob15.frozen
 have zt:=th15.frozen
 replace c12:=G.cell c12 nb
 have t0:=xh th15 HX.out.2.1 (j:=0) (by decide) rfl
 rw [Nat.add_zero,HX.out.2.2.2.1,HX.out.2.2.1] at t0
 have t1:=xh th15 HX.out.2.1 (j:=1) (by decide) rfl
 have t2:=xh th15 HX.out.2.1 (j:=2) (by decide) rfl
 rw [HX.out.2.2.2.2.2] at t2
 have t3:=xh th15 HX.out.2.1 (j:=3) (by decide) rfl
 have t4:=xh th15 HX.out.2.1 (j:=4) (by decide) rfl
 have t5:=xh th15 HX.out.2.1 (j:=5) (by decide) rfl
 replace q0:=G.cell q0 nob
 have nbt:¬ b=y.tb:=fun e=>by have h1:=H6.out.cb;have h2:=H6.out.ct;rw [<- e] at h2;omega
 have nbo:¬ b=ob:=fun e=>by have h1:=H6.out.cb;have h2:=hfresh ob hob;rw [<- e] at h2;omega
 have nto:¬ y.tb=ob:=fun e=>by have h1:=H6.out.ct;have h2:=hfresh ob hob;rw [<- e] at h2;omega
 have nbt':¬ y.tb=b:=fun e=>nbt e.symm
 have nbo':¬ ob=b:=fun e=>nbo e.symm
 have nto':¬ ob=y.tb:=fun e=>nto e.symm
 have hoo:Ob w15 ob 55 (OpC o):=Ob.kept o5 G nob
 generalize hL2:y.es++[(⟨Jg n i o m.now,⟨none,0,0⟩⟩:Evv)]=es2 at *
 have hl2:es2.length=y.es.length+1:=by rw [<- hL2];simp
 rw [hl2] at A Fv
 have HA:=q9 (qc A (qc Fv (qc hb0 hoo)))
 have HG:=q9 G
 clear hl2 A Fv hb0 hoo G F15 r15 r23 n23 f23 B22 r22 c9 q1 q2 q3 nb ntb nob hL2 F5 o5 hce hme ob15 th15 hg6 hs6 hes hob
 by_cases k1:o.1=1
 ·have g1:(o.1 == 1)=true:=by simpa using k1
  have HX1:=q9 (HB.out.trans (qf k1))
  clear k1 HB
  go_wp2_with fail
  obtain ⟨⟨A1,A2⟩,⟨B1,B2⟩,hb0,hoo⟩:=HA.out
  have hb5:Ob _ ob 55 (OpC o):=Ob.kept (Ob.other hoo nbo' (i:=12) (Value.slice a23 (y.es.length+1) c23)) B2 (by simpa using nto')
  have FW:=(FrO.of HS.out.1 (by simp)).trans ((FrO.of (S:=[]) (Fr.refl _ w6) (by simp)).trans (A2.trans (FrO.of B2 (fun k hk=>by simp at hk;subst hk;exact B1.base _ (by rw [show own2 y.tb=4 from B1.ct];decide)))))
  clear A1 A2 hoo B2
  clear t0 t1 t2 t3 t4 t5 c12 q0 zb zt
  generalize ((((((w15.setCell ⟨b,12,none⟩ (Value.slice a23 (y.es.length+1) c23)).setCell ⟨y.tb,n * 6+1,none⟩ (.bool true)).setCell ⟨y.tb,n * 6,none⟩ (.int .i64 (↑i+1))).setCell ⟨y.tb,n * 6+3,none⟩ (.pointer none)).setCell ⟨y.tb,n * 6+4,none⟩ (.pointer none)).setCell ⟨y.tb,n * 6+5,none⟩ (.pointer none))=w16 at *
  clear HA HG
  have HB1:=q9 B1
  have HFW:=q9 FW
  clear FW
  obtain ⟨c0,c1,c2,c3,-,-,-,-,-,-,-,-,-⟩:=zw B1.ob
  dsimp only at c0 c1 c2 c3
  have th16:=B1.th
  dsimp only at th16
  have hz5:(y.ts.set n ⟨(i:Int)+1,true,x.scans,none,none,none⟩)[n]? = some ⟨(i:Int)+1,true,x.scans,none,none,none⟩:=List.getElem?_set_self (by have:=(List.getElem?_eq_some_iff.1 HX.out.2.1).1;exact this)
  have hct:own2 y.tb=4:=B1.ct
  clear B1
  obtain ⟨q0,q1,q2,q3⟩:=Ve hb5
  refine qo (by kernel_rfl) ?_
  refine z6 [] w16 #[true,true,true,true,true,true,true,true,true,true,true,true,true,true,true,true,false,false,false] 16 3 rfl ?_
  refine lpq [true,true,true,true,true,true,true,true,true,true,true,true,true,true,false,false,false,false,false] 2 ((Fr.refl _ _).drew) ?_
  apply qg
  refine ⟨fun wf Ff=>?_,?_⟩
  ·have k0:=qb (Ff.cell c0 (by simp))
   have k1:=qb (Ff.cell c1 (by simp))
   have k2:=qb (Ff.cell c2 (by simp))
   have k3:=qb (Ff.cell c3 (by simp))
   have p0:=qb (Ff.cell q0 (by simp))
   have p1:=qb (Ff.cell q1 (by simp))
   have p2:=qb (Ff.cell q2 (by simp))
   have p3:=qb (Ff.cell q3 (by simp))
   simp only [sel]
   repeat (go_big_quiet_step ((go_at_call 123;exact Calls.in_same (q1c _ _ _))))
   exact wpQuiet_nil rfl
  refine loq 14 (fun w17 F17=>?_)
  have E:=((Fr.refl [] w16).drew).trans F17
  clear F17
  have U17:=HB1.out.up E
  go_wp2_with fail
  refine (Sa _ (vh n i) (by unfold vh;have:=HTL.out.1;have:=HTL.out.2.1;split <;> omega) b _ _ _ _ _ _ _ w17 U17.ob U17.fz.dr).mono ?_;rintro e w18 ⟨⟨dvv,rfl,hdr⟩,F18⟩
  have HDR:=q9 (show Sq fI w18 dvv (m.drawsOf (vh n i)) from hdr.1.up F18)
  have HDO:=q9 (fun k hk=>HB1.out.fz.drR (hdr.2 k hk).1 k (hdr.2 k hk).2)
  replace E:=E.trans F18
  clear F18 hdr U17
  go_wp2_with fail
  refine ql ⟨E,?_⟩
  refine loq 15 (fun w19 F19=>?_)
  replace E:=E.trans F19
  go_wp2_with fail
  refine (Wl m.c o.2.1 (Kj (vh n i) o.2.2.1) (m.drawsOf (vh n i)) dvv y.R w19 (HDR.out.up F19) HDO.out (fun k hk=>qj (HB1.out.fz.cR k hk).2 E.size)).mono ?_;rintro e w20 ⟨pb,B,rfl,hP,hBn,F20⟩
  clear F19 HDR HDO
  have HBN:=q9 (fun k hk=>qh E.size (hBn k hk))
  replace E:=E.trans F20
  have HP:=q9 hP
  clear F20 hP hBn c0 c1 c2 c3 q0 q1 q2 q3
  go_wp2_with fail
  refine ql ⟨E,?_⟩
  refine qx (k:=16) rfl (by kernel_rfl) (fun w21 F21=>?_)
  replace E:=E.trans F21
  have hP:=HP.out.kept F21 (by simp) (by simp)
  have th21:=Ob.up th16 E
  have zt:=th21.frozen
  have t3:=xh th21 hz5 (j:=3) (by decide) rfl
  have M:=(HB1.out.xx (n+6) (qh hN0 HFW.out.size)).up E
  have hBc:∀ k,k∈B->xx own2 w16.heap.size (n+6) k=n+6:=fun k hk=>yg (HBN.out k hk)
  generalize xx own2 w16.heap.size (n+6)=own3 at *
  clear HP F21
  have HM:=q9 (qc M (qc hBc hP))
  have HE:=q9 E
  clear M hBc hP E
  go_wp2_with fail
  go_end0
  obtain ⟨M,hBc,hP⟩:=HM.out
  have hct3:own3 y.tb=4:=M.ct
  obtain ⟨C1,C2⟩:=M.setT2 (m:={ m with e:=m.e++[Jg n i o m.now] }) (y:={ y with ev:=(Value.slice a23 (y.es.length+1) c23),es:=es2 }) HTL.out.1 (j:=3) (u:=.pointer (some ⟨pb,0,none⟩)) (x':=⟨(i:Int)+1,true,x.scans,some (Pt.new m.c o.2.1 (Kj (vh n i) o.2.2.1) (m.drawsOf (vh n i))),none,none⟩) (z':=⟨(i:Int)+1,true,x.scans,some pb,none,none⟩) (by decide) (by simp [fTv,xw]) (fun w' F=>⟨B,⟨⟨rfl,rfl,rfl⟩,.inl ⟨_,pb,rfl,rfl,rfl,rfl,rfl,rfl,hP.kept F (fun k hk hi=>by simp at hi;subst hi;have:=hBc _ hk;omega) (fun k hk hi=>by simp at hi;subst hi;have:=M.R0 _ hk;omega)⟩⟩,hBc⟩)
  dsimp only at C1 C2
  rw [<- HX1.out] at C1
  exact ⟨rfl,⟨own3,_,C1⟩,HFW.out.trans ((FrO.of HE.out (by simp)).trans C2)⟩
 have HB2:=q9 (HB.out.trans (qd k1))
 have g1:(o.1 == 1)=false:=by simpa using k1
 clear HB k1
 by_cases k2:o.1=2
 ·have g2:(o.1 == 2)=true:=by simpa using k2
  have HX1:=q9 (HB2.out.trans (qf k2))
  clear k2 HB2
  go_wp2_with fail
  obtain ⟨⟨A1,A2⟩,⟨B1,B2⟩,hb0,hoo⟩:=HA.out
  have hb5:Ob _ ob 55 (OpC o):=Ob.kept (Ob.other hoo nbo' (i:=12) (Value.slice a23 (y.es.length+1) c23)) B2 (by simpa using nto')
  have FW:=(FrO.of HS.out.1 (by simp)).trans ((FrO.of (S:=[]) (Fr.refl _ w6) (by simp)).trans (A2.trans (FrO.of B2 (fun k hk=>by simp at hk;subst hk;exact B1.base _ (by rw [show own2 y.tb=4 from B1.ct];decide)))))
  clear A1 A2 hoo B2
  clear t0 t1 t2 t3 t4 t5 c12 q0 zb zt
  generalize ((((((w15.setCell ⟨b,12,none⟩ (Value.slice a23 (y.es.length+1) c23)).setCell ⟨y.tb,n * 6+1,none⟩ (.bool true)).setCell ⟨y.tb,n * 6,none⟩ (.int .i64 (↑i+1))).setCell ⟨y.tb,n * 6+3,none⟩ (.pointer none)).setCell ⟨y.tb,n * 6+4,none⟩ (.pointer none)).setCell ⟨y.tb,n * 6+5,none⟩ (.pointer none))=w16 at *
  clear HA HG
  have HB1:=q9 B1
  have HFW:=q9 FW
  clear FW
  obtain ⟨c0,c1,c2,c3,-,-,-,-,-,-,-,-,-⟩:=zw B1.ob
  dsimp only at c0 c1 c2 c3
  have th16:=B1.th
  dsimp only at th16
  have hz5:(y.ts.set n ⟨(i:Int)+1,true,x.scans,none,none,none⟩)[n]? = some ⟨(i:Int)+1,true,x.scans,none,none,none⟩:=List.getElem?_set_self (by have:=(List.getElem?_eq_some_iff.1 HX.out.2.1).1;exact this)
  have hct:own2 y.tb=4:=B1.ct
  clear B1
  obtain ⟨q0,q1,q2,q3⟩:=Ve hb5
  refine qo (by kernel_rfl) ?_
  refine z6 [] w16 #[true,true,true,true,true,true,true,true,true,true,true,true,true,true,false,false,false] 14 3 rfl ?_
  refine lpq [true,true,true,true,true,true,true,true,true,true,true,true,false,false,false,false,false] 2 ((Fr.refl _ _).drew) ?_
  apply qg
  refine ⟨fun wf Ff=>?_,?_⟩
  ·have k0:=qb (Ff.cell c0 (by simp))
   have k1:=qb (Ff.cell c1 (by simp))
   have k2:=qb (Ff.cell c2 (by simp))
   have k3:=qb (Ff.cell c3 (by simp))
   have p0:=qb (Ff.cell q0 (by simp))
   have p1:=qb (Ff.cell q1 (by simp))
   have p2:=qb (Ff.cell q2 (by simp))
   have p3:=qb (Ff.cell q3 (by simp))
   simp only [sel]
   repeat (go_big_quiet_step ((go_at_call 123;exact Calls.in_same (q1c _ _ _))))
   exact wpQuiet_nil rfl
  refine loq 12 (fun w17 F17=>?_)
  have E:=((Fr.refl [] w16).drew).trans F17
  clear F17
  have U17:=HB1.out.up E
  go_wp2_with fail
  refine (Sa _ (vh n i) (by unfold vh;have:=HTL.out.1;have:=HTL.out.2.1;split <;> omega) b _ _ _ _ _ _ _ w17 U17.ob U17.fz.dr).mono ?_;rintro e w18 ⟨⟨dvv,rfl,hdr⟩,F18⟩
  have HDR:=q9 (show Sq fI w18 dvv (m.drawsOf (vh n i)) from hdr.1.up F18)
  have HDO:=q9 (fun k hk=>HB1.out.fz.drR (hdr.2 k hk).1 k (hdr.2 k hk).2)
  replace E:=E.trans F18
  clear F18 hdr U17
  go_wp2_with fail
  refine ql ⟨E,?_⟩
  refine loq 13 (fun w19 F19=>?_)
  replace E:=E.trans F19
  go_wp2_with fail
  refine (Wl m.c o.2.1 (Kj (vh n i) (-1)) (m.drawsOf (vh n i)) dvv y.R w19 (HDR.out.up F19) HDO.out (fun k hk=>qj (HB1.out.fz.cR k hk).2 E.size)).mono ?_;rintro e w20 ⟨pb,B,rfl,hP,hBn,F20⟩
  clear F19 HDR HDO
  have HBN:=q9 (fun k hk=>qh E.size (hBn k hk))
  replace E:=E.trans F20
  have HP:=q9 hP
  clear F20 hP hBn c0 c1 c2 c3 q0 q1 q2 q3
  go_wp2_with fail
  refine ql ⟨E,?_⟩
  refine qx (k:=14) rfl (by kernel_rfl) (fun w21 F21=>?_)
  replace E:=E.trans F21
  have hP:=HP.out.kept F21 (by simp) (by simp)
  have th21:=Ob.up th16 E
  have zt:=th21.frozen
  have t3:=xh th21 hz5 (j:=3) (by decide) rfl
  have M:=(HB1.out.xx (n+6) (qh hN0 HFW.out.size)).up E
  have hBc:∀ k,k∈B->xx own2 w16.heap.size (n+6) k=n+6:=fun k hk=>yg (HBN.out k hk)
  generalize xx own2 w16.heap.size (n+6)=own3 at *
  clear HP F21
  have HM:=q9 (qc M (qc hBc hP))
  have HE:=q9 E
  clear M hBc hP E
  go_wp2_with fail
  go_end0
  obtain ⟨M,hBc,hP⟩:=HM.out
  have hct3:own3 y.tb=4:=M.ct
  obtain ⟨C1,C2⟩:=M.setT2 (m:={ m with e:=m.e++[Jg n i o m.now] }) (y:={ y with ev:=(Value.slice a23 (y.es.length+1) c23),es:=es2 }) HTL.out.1 (j:=3) (u:=.pointer (some ⟨pb,0,none⟩)) (x':=⟨(i:Int)+1,true,x.scans,some (Pt.new m.c o.2.1 (Kj (vh n i) (-1)) (m.drawsOf (vh n i))),none,none⟩) (z':=⟨(i:Int)+1,true,x.scans,some pb,none,none⟩) (by decide) (by simp [fTv,xw]) (fun w' F=>⟨B,⟨⟨rfl,rfl,rfl⟩,.inl ⟨_,pb,rfl,rfl,rfl,rfl,rfl,rfl,hP.kept F (fun k hk hi=>by simp at hi;subst hi;have:=hBc _ hk;omega) (fun k hk hi=>by simp at hi;subst hi;have:=M.R0 _ hk;omega)⟩⟩,hBc⟩)
  dsimp only at C1 C2
  rw [<- HX1.out] at C1
  exact ⟨rfl,⟨own3,_,C1⟩,HFW.out.trans ((FrO.of HE.out (by simp)).trans C2)⟩
 have HB3:=q9 (HB2.out.trans (qd k2))
 have g2:(o.1 == 2)=false:=by simpa using k2
 clear HB2 k2
 by_cases k3:o.1=3
 ·have g3:(o.1 == 3)=true:=by simpa using k3
  have HX1:=q9 (HB3.out.trans (qf k3))
  clear k3 HB3
  go_wp2_with fail
  obtain ⟨⟨A1,A2⟩,⟨B1,B2⟩,hb0,hoo⟩:=HA.out
  have hb5:Ob _ ob 55 (OpC o):=Ob.kept (Ob.other hoo nbo' (i:=12) (Value.slice a23 (y.es.length+1) c23)) B2 (by simpa using nto')
  have FW:=(FrO.of HS.out.1 (by simp)).trans ((FrO.of (S:=[]) (Fr.refl _ w6) (by simp)).trans (A2.trans (FrO.of B2 (fun k hk=>by simp at hk;subst hk;exact B1.base _ (by rw [show own2 y.tb=4 from B1.ct];decide)))))
  clear A1 A2 hoo B2
  clear t0 t1 t2 t3 t4 t5 c12 q0 zb zt
  generalize ((((((w15.setCell ⟨b,12,none⟩ (Value.slice a23 (y.es.length+1) c23)).setCell ⟨y.tb,n * 6+1,none⟩ (.bool true)).setCell ⟨y.tb,n * 6,none⟩ (.int .i64 (↑i+1))).setCell ⟨y.tb,n * 6+3,none⟩ (.pointer none)).setCell ⟨y.tb,n * 6+4,none⟩ (.pointer none)).setCell ⟨y.tb,n * 6+5,none⟩ (.pointer none))=w16 at *
  clear HA HG
  have HB1:=q9 B1
  have HFW:=q9 FW
  clear FW
  obtain ⟨c0,c1,c2,c3,-,-,-,-,-,-,-,-,-⟩:=zw B1.ob
  dsimp only at c0 c1 c2 c3
  have th16:=B1.th
  dsimp only at th16
  have hz5:(y.ts.set n ⟨(i:Int)+1,true,x.scans,none,none,none⟩)[n]? = some ⟨(i:Int)+1,true,x.scans,none,none,none⟩:=List.getElem?_set_self (by have:=(List.getElem?_eq_some_iff.1 HX.out.2.1).1;exact this)
  have hct:own2 y.tb=4:=B1.ct
  clear B1
  obtain ⟨q0,q1,q2,q3⟩:=Ve hb5
  refine qo (by kernel_rfl) ?_
  refine z6 [] w16 #[true,true,true,true,true,true,true,true,true,false,false,false] 9 3 rfl ?_
  refine lpq [true,true,true,true,true,true,true,true,false,false,false,false] 1 ((Fr.refl _ _).drew) ?_
  apply qg
  refine ⟨fun wf Ff=>?_,?_⟩
  ·have k0:=qb (Ff.cell c0 (by simp))
   have k1:=qb (Ff.cell c1 (by simp))
   have k2:=qb (Ff.cell c2 (by simp))
   have k3:=qb (Ff.cell c3 (by simp))
   have p0:=qb (Ff.cell q0 (by simp))
   have p1:=qb (Ff.cell q1 (by simp))
   have p2:=qb (Ff.cell q2 (by simp))
   have p3:=qb (Ff.cell q3 (by simp))
   simp only [sel]
   repeat (go_big_quiet_step (fail))
   exact wpQuiet_nil rfl
  refine loq 8 (fun w19 F19=>?_)
  have E:=((Fr.refl [] w16).drew).trans F19
  clear F19
  go_wp2_with fail
  refine (q2e m.c o.2.1 w19).mono ?_;rintro e w20 ⟨pb,B,rfl,hP,hBn,F20⟩
  have HBN:=q9 (fun k hk=>qh E.size (hBn k hk))
  replace E:=E.trans F20
  have HP:=q9 hP
  clear F20 hP hBn c0 c1 c2 c3 q0 q1 q2 q3
  go_wp2_with fail
  refine ql ⟨E,?_⟩
  refine qx (k:=9) rfl (by kernel_rfl) (fun w21 F21=>?_)
  replace E:=E.trans F21
  have hP:=HP.out.kept F21 (by simp)
  have th21:=Ob.up th16 E
  have zt:=th21.frozen
  have t4:=xh th21 hz5 (j:=4) (by decide) rfl
  have M:=(HB1.out.xx (n+6) (qh hN0 HFW.out.size)).up E
  have hBc:∀ k,k∈B->xx own2 w16.heap.size (n+6) k=n+6:=fun k hk=>yg (HBN.out k hk)
  generalize xx own2 w16.heap.size (n+6)=own3 at *
  clear HP F21
  have HM:=q9 (qc M (qc hBc hP))
  have HE:=q9 E
  clear M hBc hP E
  go_wp2_with fail
  go_end0
  obtain ⟨M,hBc,hP⟩:=HM.out
  have hct3:own3 y.tb=4:=M.ct
  obtain ⟨C1,C2⟩:=M.setT2 (m:={ m with e:=m.e++[Jg n i o m.now] }) (y:={ y with ev:=(Value.slice a23 (y.es.length+1) c23),es:=es2 }) HTL.out.1 (j:=4) (u:=.pointer (some ⟨pb,0,none⟩)) (x':=⟨(i:Int)+1,true,x.scans,none,some (Gt.new m.c o.2.1),none⟩) (z':=⟨(i:Int)+1,true,x.scans,none,some pb,none⟩) (by decide) (by simp [fTv,xw]) (fun w' F=>⟨B,⟨⟨rfl,rfl,rfl⟩,.inr (.inl ⟨_,pb,rfl,rfl,rfl,rfl,rfl,rfl,hP.kept F (fun k hk hi=>by simp at hi;subst hi;have:=hBc _ hk;omega)⟩)⟩,hBc⟩)
  dsimp only at C1 C2
  rw [<- HX1.out] at C1
  exact ⟨rfl,⟨own3,_,C1⟩,HFW.out.trans ((FrO.of HE.out (by simp)).trans C2)⟩
 have HX1:=q9 (HB3.out.trans (qd k3))
 have g3:(o.1 == 3)=false:=by simpa using k3
 have hscb:=HTL.out.2.2.s0
 have hscn:=HTL.out.2.2.n1
 have hsl:=HOL.out.1
 clear HB3 k3
 go_wp2_with fail
 obtain ⟨⟨A1,A2⟩,⟨B1,B2⟩,hb0,hoo⟩:=HA.out
 have hb5:Ob _ ob 55 (OpC o):=Ob.kept (Ob.other hoo nbo' (i:=12) (Value.slice a23 (y.es.length+1) c23)) B2 (by simpa using nto')
 have FW:=(FrO.of HS.out.1 (by simp)).trans ((FrO.of (S:=[]) (Fr.refl _ w6) (by simp)).trans (A2.trans (FrO.of B2 (fun k hk=>by simp at hk;subst hk;exact B1.base _ (by rw [show own2 y.tb=4 from B1.ct];decide)))))
 obtain ⟨B1',B2'⟩:=B1.setT2 (m:={ m with e:=m.e++[Jg n i o m.now] }) (y:={ y with ev:=(Value.slice a23 (y.es.length+1) c23),es:=es2 }) HTL.out.1 (j:=2) (u:=.int .i64 (x.scans+1)) (x':=⟨(i:Int)+1,true,x.scans+1,none,none,none⟩) (z':=⟨(i:Int)+1,true,x.scans+1,none,none,none⟩) (by decide) (by simp [fTv]) (fun w' F=>by obtain ⟨B,k1,k2⟩:=B1.thK2 (m:={ m with e:=m.e++[Jg n i o m.now] }) (y:={ y with ev:=(Value.slice a23 (y.es.length+1) c23),es:=es2 }) HTL.out.1 w' F;exact ⟨B,k1.num _ _ _,k2⟩)
 replace FW:=FW.trans B2'
 replace hb5:=Ob.other hb5 nto' (i:=n * 6+2) (.int .i64 (x.scans+1))
 clear B1 B2 B2' A1 A2 hoo
 have B1:=B1'
 clear B1'
 clear t0 t1 t2 t3 t4 t5 c12 q0 zb zt
 generalize (((((((w15.setCell ⟨b,12,none⟩ (Value.slice a23 (y.es.length+1) c23)).setCell ⟨y.tb,n * 6+1,none⟩ (.bool true)).setCell ⟨y.tb,n * 6,none⟩ (.int .i64 (↑i+1))).setCell ⟨y.tb,n * 6+3,none⟩ (.pointer none)).setCell ⟨y.tb,n * 6+4,none⟩ (.pointer none)).setCell ⟨y.tb,n * 6+5,none⟩ (.pointer none)).setCell ⟨y.tb,n * 6+2,none⟩ (.int .i64 (x.scans+1)))=w16 at *
 clear HA HG
 have HB1:=q9 B1
 have HFW:=q9 FW
 clear FW
 obtain ⟨c0,c1,c2,c3,-,-,-,-,-,-,-,-,-⟩:=zw B1.ob
 dsimp only at c0 c1 c2 c3
 have th16:=B1.th
 dsimp only at th16
 have hz5:(y.ts.set n ⟨(i:Int)+1,true,x.scans+1,none,none,none⟩)[n]? = some ⟨(i:Int)+1,true,x.scans+1,none,none,none⟩:=List.getElem?_set_self (by have:=(List.getElem?_eq_some_iff.1 HX.out.2.1).1;exact this)
 have hct:own2 y.tb=4:=B1.ct
 clear B1
 obtain ⟨q0,q1,q2,q3⟩:=Ve hb5
 have t2:=xh th16 hz5 (j:=2) (by decide) rfl
 refine qo (by kernel_rfl) ?_
 refine z6 [] w16 #[true,true,true,true,true,true,true,true,true,true,true,true,true,true,true,true,false,false,false] 16 3 rfl ?_
 refine lpq [true,true,true,true,true,true,true,true,true,true,true,true,true,true,true,false,false,false,false] 1 ((Fr.refl _ _).drew) ?_
 apply qg
 refine ⟨fun wf Ff=>?_,?_⟩
 ·have k0:=qb (Ff.cell c0 (by simp))
  have k1:=qb (Ff.cell c1 (by simp))
  have k2:=qb (Ff.cell c2 (by simp))
  have k3:=qb (Ff.cell c3 (by simp))
  have p0:=qb (Ff.cell q0 (by simp))
  have p1:=qb (Ff.cell q1 (by simp))
  have p2:=qb (Ff.cell q2 (by simp))
  have p3:=qb (Ff.cell q3 (by simp))
  have s2:=qb (Ff.cell t2 (by simp))
  simp only [sel]
  repeat (go_big_quiet_step (fail))
  exact wpQuiet_nil rfl
 refine loq 15 (fun w19 F19=>?_)
 have E:=((Fr.refl [] w16).drew).trans F19
 clear F19
 go_wp2_with fail
 refine (q0o m.c n (x.scans+1) o.2.1 o.2.2.2 w19).mono ?_;rintro e w20 ⟨pb,B,rfl,hP,hBn,F20⟩
 have HBN:=q9 (fun k hk=>qh E.size (hBn k hk))
 replace E:=E.trans F20
 have HP:=q9 hP
 clear F20 hP hBn c0 c1 c2 c3 q0 q1 q2 q3
 go_wp2_with fail
 refine ql ⟨E,?_⟩
 refine qx (k:=16) rfl (by kernel_rfl) (fun w21 F21=>?_)
 replace E:=E.trans F21
 have hP:=HP.out.kept F21 (by simp)
 have th21:=Ob.up th16 E
 have zt:=th21.frozen
 have t5:=xh th21 hz5 (j:=5) (by decide) rfl
 have M:=(HB1.out.xx (n+6) (qh hN0 HFW.out.size)).up E
 have hBc:∀ k,k∈B->xx own2 w16.heap.size (n+6) k=n+6:=fun k hk=>yg (HBN.out k hk)
 generalize xx own2 w16.heap.size (n+6)=own3 at *
 clear HP F21
 have HM:=q9 (qc M (qc hBc hP))
 have HE:=q9 E
 clear M hBc hP E
 go_wp2_with fail
 go_end0
 obtain ⟨M,hBc,hP⟩:=HM.out
 have hct3:own3 y.tb=4:=M.ct
 obtain ⟨C1,C2⟩:=M.setT2 (m:={ m with e:=m.e++[Jg n i o m.now] }) (y:={ y with ev:=(Value.slice a23 (y.es.length+1) c23),es:=es2 }) HTL.out.1 (j:=5) (u:=.pointer (some ⟨pb,0,none⟩)) (x':=⟨(i:Int)+1,true,x.scans+1,none,none,some (Sn.new m.c n (x.scans+1) o.2.1 o.2.2.2)⟩) (z':=⟨(i:Int)+1,true,x.scans+1,none,none,some pb⟩) (by decide) (by simp [fTv,xw]) (fun w' F=>⟨B,⟨⟨rfl,rfl,rfl⟩,.inr (.inr (.inl ⟨_,pb,rfl,rfl,rfl,rfl,rfl,rfl,hP.kept F (fun k hk hi=>by simp at hi;subst hi;have:=hBc _ hk;omega)⟩))⟩,hBc⟩)
 dsimp only at C1 C2
 rw [<- HX1.out] at C1
 exact ⟨rfl,⟨own3,_,C1⟩,HFW.out.trans ((FrO.of HE.out (by simp)).trans C2)⟩
section
variable {N0:Nat} {own:Nat->Nat} {w:World} {b:Nat} {m:Mc} {y:Lay}
theorem jc.setE2 {x0:Evv} {k j g c:Nat} (h:jc N0 own w b { m with e:=m.e.set k x0.e } { y with es:=y.es.set k x0 }) (hk:k<y.es.length) {x':Evv} {u:Value} (hev:y.ev = .slice (some ⟨g,0,none⟩) y.es.length c) (hj:j<18) (hf:fEv x'=(fEv x0).set j u) (ha:Sq fQ w x'.s.v x'.e.ans.pairs/\(x'.e.ans.pairs≠[]->∀ k,k∈x'.s.v.ownBlock.toList->own k=0)) :
  jc N0 own (w.setCell ⟨g,k * 18+j,none⟩ u) b { m with e:=m.e.set k x'.e } { y with es:=y.es.set k x' } /\ FrO N0 w (w.setCell ⟨g,k * 18+j,none⟩ u):=by
 have hz:(y.es.set k x0)[k]? = some x0:=List.getElem?_set_self hk
 obtain ⟨h1,h2⟩:=h.setE (k:=k) (x':=x') (by simpa using hev) hz hj hf ha
 simp only [List.set_set] at h1
 exact ⟨h1,h2⟩
theorem jc.ev_at (h:jc N0 own w b m y) {k:Nat} {v:Ev} (hk:m.e[k]? = some v):∃ x,y.es[k]? = some x/\x.e=v:=by
 rw [<- h.evl,List.getElem?_map] at hk
 obtain ⟨x,h1,h2⟩:=Option.map_eq_some_iff.1 hk
 exact ⟨x,h1,h2⟩
theorem jc.ansAt (h:jc N0 own w b m y) {k:Nat} {x:Evv} (hk:y.es[k]? = some x):Sq fQ w x.s.v x.e.ans.pairs/\(x.e.ans.pairs≠[]->∀ k,k∈x.s.v.ownBlock.toList->own k=0):=h.ans x (List.mem_of_getElem? hk)
end
def AcC (a:Acc):Array Value:=#[.int .i64 a.kind,.int .i64 a.at_,.int .i64 a.old,.int .i64 a.new,.bool a.ok]
theorem q1f {l:List Ev} {t i:Int} {k:Nat} (h:l.findIdx? (evP t i)=some k):q4o l t i=(k:Int):=by unfold q4o;rw [h]
theorem q89 {l:List Ev} {t i:Int} (h:l.findIdx? (evP t i)=none):q4o l t i = -1:=by unfold q4o;rw [h]
theorem q6d {N0:Nat} {own:Nat->Nat} {w:World} {b:Nat} {m:Mc} {y:Lay} {N:Nat} (hI:MInv N m) (hN:N<=900000) (h:jc N0 own w b m y) (hN0:N0<=w.heap.size) :
  Calls Tryz.prog 79 #[.pointer (some ⟨b,0,none⟩)] w (Vz N0 w b m.notes (.tuple #[])):=by
 generalize hX:m.notes=X
 have HX:=q9 hX
 have HI:=q9 hI
 clear hX hI
 have H:=q9 h
 have oA:=Ob.new w 39 (AcC m.a.a)
 have F0:=(Fr.refl [] w).alloc (.cells (AcC m.a.a) 39)
 have hab:∀ k,k<w.heap.size->¬ w.heap.size=k:=fun k hk=>by omega
 have hU:=h.up F0
 obtain ⟨-,-,-,-,-,-,-,c7,-,c9,-,c11,-⟩:=zw h.ob
 obtain ⟨-,-,-,-,-,-,-,d7,-,d9,-,d11,-⟩:=zw hU.ob
 obtain ⟨cap,-,-,-,r2,r3,r4,r5,r6,-⟩:=Vr h.ar
 have a0:(w.alloc (.cells (AcC m.a.a) 39)).cell? ⟨w.heap.size,0,none⟩=some (.int .i64 m.a.a.kind):=oA.cell rfl
 have a1:(w.alloc (.cells (AcC m.a.a) 39)).cell? ⟨w.heap.size,1,none⟩=some (.int .i64 m.a.a.at_):=oA.cell rfl
 have a2:(w.alloc (.cells (AcC m.a.a) 39)).cell? ⟨w.heap.size,2,none⟩=some (.int .i64 m.a.a.old):=oA.cell rfl
 have a3:(w.alloc (.cells (AcC m.a.a) 39)).cell? ⟨w.heap.size,3,none⟩=some (.int .i64 m.a.a.new):=oA.cell rfl
 have a4:(w.alloc (.cells (AcC m.a.a) 39)).cell? ⟨w.heap.size,4,none⟩=some (.bool m.a.a.ok):=oA.cell rfl
 unfold AcC at oA F0 hU d7 d9 d11 a0 a1 a2 a3 a4
 have HU:=q9 (qc hU (qc oA F0))
 clear hU oA F0 h
 by_cases k4:m.a.a.kind=4
 ·have g1:(m.a.a.kind == 4)=true:=by simpa using k4
  by_cases k1:m.a.a.at_=1
  ·have g2:(m.a.a.at_ == 1)=true:=by simpa using k1
   have g3:(m.a.a.kind == 3)=false:=by rw [k4];rfl
   have K4:=q9 k4
   have K1:=q9 k1
   clear k4 k1
   go_enter Tryz.func79,Tryz.ntmps79
   go_wp2_with fail
   have hb:=Ob.lt H.out.ob
   generalize World.alloc w _=w1 at *
   have hw1:=HU.out.2.2.size
   have hkl:=HI.out.tk
   have HT:=q9 HU.out.1.tk
   have HC:=q9 HU.out.1.tkc
   refine qo (by kernel_rfl) ?_
   refine z6 [] w1 #[true,true,true,true,true,true,true,true,true,true,true,true,false,false,false] 12 3 rfl ?_
   refine lpq [true,true,true,true,true,false,true,true,true,true,false,false,false,false,false] 3 ((Fr.refl _ _).drew) ?_
   apply qg
   refine ⟨fun wf Ff=>?_,?_⟩
   ·have k9:=qb (Ff.cell d9 (by simp))
    have k11:=qb (Ff.cell d11 (by simp))
    simp only [sel]
    repeat (go_big_quiet_step (fail))
    exact wpQuiet_nil rfl
   refine ji [5,10] (by kernel_rfl) (by simp) (fun w10 F10 i hi o ho=>?_)
   have G:=(Fr.refl [] w1).drew.trans F10
   clear F10
   simp only [List.mem_cons,List.not_mem_nil,or_false] at hi
   rcases hi with rfl | rfl
   focus
    obtain rfl:=qi ho
    go_wp2_with (at_builtin;refine kr yc rfl _ _ 25 rfl Tryz.underlying25 Wx rfl (B:=w1.heap.size) (.slice none 0 0) [] rfl ⟨rfl,.inl ⟨rfl,rfl⟩⟩ _ m.ticks rfl (HT.out.up G) (by simp;omega) (by decide) G.size ?_;intro a21 c21 w21 r21 f21 n21)
    rw [List.nil_append] at r21
    replace G:=G.trans f21
    clear f21 n21
    refine ql ⟨G,?_⟩
    refine loq 10 (fun w11 F11=>?_)
    have r11:=qm r21 F11
    replace G:=G.trans F11
    clear r21 F11
    go_wp2_with fail
    have F12:=(Fr.refl [] w11).alloc (.cells #[.int .i64 m.now] 3)
    have B12:=Go.heap_alloc_new w11 (.cells #[.int .i64 m.now] 3)
    have r12:=qm r11 F12
    replace G:=G.trans F12
    clear r11 F12 ho
   rotate_left
   focus
    obtain rfl:=qi ho
    go_wp2_with fail
    have F12:=(Fr.refl [] w10).alloc (.cells #[.int .i64 m.now] 3)
    have B12:=Go.heap_alloc_new w10 (.cells #[.int .i64 m.now] 3)
    replace G:=G.trans F12
    clear F12 ho
    refine ql ⟨G,?_⟩
    refine loq 5 (fun w11 F11=>?_)
    have B13:=F11.heap B12 (by simp)
    replace G:=G.trans F11
    clear B12 F11
    go_wp2_with (at_builtin;refine kr yc rfl _ _ 25 rfl Tryz.underlying25 Wx rfl (B:=w1.heap.size) (.slice none 0 0) [] rfl ⟨rfl,.inl ⟨rfl,rfl⟩⟩ _ m.ticks rfl (HT.out.up G) (by simp;omega) (by decide) G.size ?_;intro a21 c21 w21 r12 f21 n21)
    rw [List.nil_append] at r12
    have B12:=Fr.heap f21 B13 (by simp [Value.ownBlock])
    replace G:=G.trans f21
    clear f21 n21 B13
   rotate_left
   all_goals
    refine ql ⟨G,?_⟩
    refine loq 11 (fun w13 F13=>?_)
    have r22:=qm r12 F13
    have B22:=F13.heap B12 (by simp)
    replace G:=G.trans F13
    clear r12 B12 F13
    go_wp2_with (at_builtin;refine kr yc rfl _ _ 25 rfl Tryz.underlying25 Wx rfl (B:=w1.heap.size) _ m.ticks rfl r22 _ [m.now] rfl (Sq.block B22 rfl rfl (Nat.le_refl _) (by simp [maxLen])) (by simp <;> omega) (by decide) G.size ?_;intro a23 c23 w23 r23 f23 n23;generalize hT3:m.ticks++[m.now]=T3 at r23 ⊢)
    replace G:=G.own f23 (z8 r22)
    clear f23 r22 B22 n23
    refine ql ⟨G,?_⟩
    refine qx (k:=12) rfl (by kernel_rfl) (fun w15 F15=>?_)
    have r26:=qm r23 F15
    replace G:=G.trans F15
    clear r23 F15
    have hM:=(HU.out.1.xx 0 (qh hN0 hw1)).up G
    have hcol:∀ k,k∈(Value.slice a23 T3.length c23).ownBlock.toList->xx own w1.heap.size 0 k=0:=fun k hk=>yg (z8 r26 k hk)
    generalize xx own w1.heap.size 0=own2 at *
    have hne:b∉(Value.slice a23 T3.length c23).ownBlock.toList:=fun hi=>by have:=hcol b hi;have:=hM.cb;omega
    have HM:=q9 (hM.setTk T3 (.slice a23 T3.length c23) ((Sq.own r26).kept (Fr.setCell (S:=[b]) _ (by simp)) (fun g hg hi=>by simp at hi;subst hi;exact hne hg)) (fun _ k hk=>hcol k hk))
    have z:=hM.ob.frozen
    have e11:w15.cell? ⟨b,11,none⟩=some y.kv:=G.cell d11 (by simp)
    have b0:=G.cell a0 (by simp)
    have nab:=hab b hb
    have nba:¬ b=w.heap.size:=fun e=>nab e.symm
    have HT3:=q9 hT3
    have HG:=q9 G
    clear hM hcol hne r26 G hT3
    go_wp2_with fail
    go_end0
    have e:X = { m with ticks:=T3 }:=by rw [<- HX.out,<- HT3.out];unfold Mc.notes;simp [K4.out,K1.out]
    rw [e]
    exact ⟨rfl,⟨own2,_,HM.out.1⟩,(FrO.of HU.out.2.2 (by simp)).trans ((FrO.of HG.out (by simp)).trans HM.out.2)⟩
  have g2:(m.a.a.at_ == 1)=false:=by simpa using k1
  have g3:(m.a.a.kind == 3)=false:=by rw [k4];rfl
  have K4:=q9 k4
  have K1:=q9 k1
  clear k4 k1
  go_enter Tryz.func79,Tryz.ntmps79
  go_wp2_with fail
  go_end0
  have e:X=m:=by rw [<- HX.out];unfold Mc.notes;simp only;rw [qd (fun h=>by have h1:=h.1;have h2:=K4.out;omega)];exact qd (fun h=>K1.out h.2)
  rw [e]
  exact ⟨rfl,⟨own,y,HU.out.1⟩,FrO.of HU.out.2.2 (by simp)⟩
 ·have g1:(m.a.a.kind == 4)=false:=by simpa using k4
  have K4:=q9 k4
  clear k4
  by_cases k3:m.a.a.kind=3
  ·have g3:(m.a.a.kind == 3)=true:=by simpa using k3
   have K3:=q9 k3
   clear k3
   cases k5:m.a.a.ok
   ·rw [k5] at a4 r6
    have K5:=q9 k5
    rw [k5] at HU
    clear k5
    go_enter Tryz.func79,Tryz.ntmps79
    go_wp2_with fail
    go_end0
    have e:X=m:=by rw [<- HX.out];unfold Mc.notes;simp only;rw [qd (fun h=>by have h1:=h.2.1;rw [K5.out] at h1;cases h1)];exact qd (fun h=>K4.out h.1)
    rw [e]
    exact ⟨rfl,⟨own,y,HU.out.1⟩,FrO.of HU.out.2.2 (by simp)⟩
   rw [k5] at a0 a1 a2 a3 a4 r6 d7 d9 d11
   have K5:=q9 k5
   rw [k5] at HU
   clear k5
   by_cases k6:m.a.a.old=1
   ·have g6:(m.a.a.old == 1)=true:=by simpa using k6
    have K6:=q9 k6
    clear k6
    by_cases k7:3<=m.a.a.new
    ·have g7:decide (m.a.a.new≥3)=true:=by simpa using k7
     have g8:decide (3<=m.a.a.new)=true:=by simpa using k7
     have K7:=q9 k7
     clear k7
     go_enter Tryz.func79,Tryz.ntmps79
     go_wp2_with fail
     generalize World.alloc w _=w1 at *
     have hw1:=HU.out.2.2.size
     have k7:=qb d7
     have p1:=qb a1
     refine wiq ?_
     repeat (go_big_quiet_step ((first | (go_at_call 41;exact Calls.in_same (Ref.ko _ y.p y.q m.a _ (HU.out.1.ar.kept (In.fr _) (by simp) (by simp)))) | (go_at_call 133;exact Calls.in_same (q5e _ _)) | (go_at_call 132;exact Calls.in_same (q4z _ _)))))
     refine wpQuiet_nil ?_
     intro w2 F2
     clear k7 p1
     generalize hpk:qq m.a.l (wrap64 (m.a.a.at_+2))=pk at *
     have HPK:=q9 hpk
     clear hpk
     generalize htt:(ofP (q9m pk)).1=tt at *
     generalize hii:(ofP (q9m pk)).2=ii at *
     have HTI:=q9 (qc htt hii)
     clear htt hii
     have M2:=HU.out.1.up F2
     have HM2:=q9 M2
     have hel:y.es.length<=1000000:=by have:=HI.out.el;have:=M2.esl;omega
     go_wp2_with fail
     refine (Te m tt ii b _ _ _ _ _ _ _ y.es w2 hel M2.ob (Sq.own (f:=fEv) M2.ev)).mono ?_;rintro e w3 ⟨rfl,rfl⟩
     rw [M2.evl]
     have hE:X=(match m.event tt ii with | some k=>{ m with e:=m.e.set k { (m.e.getD k q9y) with at_:=m.now,version:=Va m.a.a.new } } | none=>m):=by
      rw [<- HX.out,<- HTI.out.1,<- HTI.out.2,<- HPK.out];unfold Mc.notes;simp [K3.out,K5.out,K6.out,K7.out];rfl
     have HE:=q9 hE
     clear hE M2 hel
     cases hev:m.event tt ii with
     | none =>
      have e0:q4o m.e tt ii = -1:=q89 (by rw [<- U9];exact hev)
      rw [e0]
      have HEV:=q9 hev
      clear hev e0
      go_wp2_with fail
      go_end0
      have e:X=m:=by rw [HE.out,HEV.out]
      rw [e]
      exact ⟨rfl,⟨own,y,HM2.out⟩,FrO.of (HU.out.2.2.trans F2) (by simp)⟩
     | some k =>
      have e0:q4o m.e tt ii=(k:Int):=q1f (by rw [<- U9];exact hev)
      rw [e0]
      obtain ⟨v,hv,-,-⟩:=J7 hev
      obtain ⟨x,hx,hxv⟩:=HM2.out.ev_at hv
      obtain ⟨g,c,hyv,hg5,hcl,zg⟩:=HM2.out.ev_open hx
      have hkl:=(List.getElem?_eq_some_iff.1 hx).1
      have hklz:(k:Int)<(y.es.length:Int):=by omega
      have HEV:=q9 (qc hev (qc hv (qc hx (qc hxv (qc hyv hkl)))))
      have x10:=hcl 10 _ rfl
      have x11:=hcl 11 _ rfl
      obtain ⟨-,-,-,-,-,-,-,-,-,e9,-,-,e12⟩:=zw HM2.out.ob
      rw [hyv] at e12
      have b3:=F2.cell a3 (by simp)
      clear hev hv hx hxv hyv hkl e0 hg5 hcl
      go_wp2_with fail
      refine qo (by kernel_rfl) ?_
      refine yh 9 rfl (by kernel_rfl) (by kernel_rfl) (by kernel_rfl) rfl (fun _ _ d _ _ h=>by cases d <;> exact h) ?_
      go_frame
      refine z6 [] w3 #[true,true,true,true,true,true,true,true,true,true,true,true,true,true,true,true,true,false,false,false,false,false,false] 16 6 rfl ?_
      refine yx [true,true,true,true,true,true,true,true,true,false,true,true,true,true,true,true,true,false,false,false,false,false,false] 0 (n:=92) (listed':=#[true,true,true,true,true,true,true,true,true,true,true,true,true,true,true,true,true,false,false,false,false,false,false]) rfl (by kernel_rfl) (by kernel_rfl) (by kernel_rfl) (by kernel_rfl) rfl (by kernel_rfl) (fun _ _ d _ _ h=>by cases d <;> exact h) ((Fr.refl _ w3).drew) ?_
      apply qg
      refine ⟨fun wf Ff=>?_,?_⟩
      ·have k9:=qb (Ff.cell e9 (by simp))
       have k12:=qb (Ff.cell e12 (by simp))
       have k3:=qb (Ff.cell b3 (by simp))
       simp only [sel]
       repeat (go_big_quiet_step ((go_at_call 56;exact Calls.in_same (V5 _ _))))
       exact wpQuiet_nil rfl
      refine qx (k:=17) rfl (by kernel_rfl) (fun w5 F5=>?_)
      replace F5:=(Fr.refl [] w3).drew.trans F5
      have M5:=HM2.out.up F5
      have G:=F2.trans F5
      have z:∀ i,w5.frozen? ⟨g,i,none⟩=false:=by
       obtain ⟨g',c',hyv',-,-,z'⟩:=M5.ev_open HEV.out.2.2.1
       rw [HEV.out.2.2.2.2.1] at hyv'
       simp only [Value.slice.injEq,Option.some.injEq,Addr.mk.injEq] at hyv'
       obtain ⟨⟨rfl,-⟩,-⟩:=hyv'
       exact z'
      replace x10:=F5.cell x10 (by simp)
      replace x11:=F5.cell x11 (by simp)
      have HM5:=q9 M5
      have HG:=q9 G
      clear M5 G F5 zg
      go_wp2_with fail
      go_end0
      have A1:=HM5.out.ansAt HEV.out.2.2.1
      obtain ⟨C1,C2⟩:=HM5.out.setE (k:=k) (j:=10) (u:=.int .i64 m.now) (x':={ x with e:={ x.e with at_:=m.now } }) HEV.out.2.2.2.2.1 HEV.out.2.2.1 (by decide) (by simp [fEv]) A1
      obtain ⟨D1,D2⟩:=C1.setE2 HEV.out.2.2.2.2.2 (j:=11) (u:=.int .i64 (Va m.a.a.new)) (x':={ x with e:={ x.e with at_:=m.now,version:=Va m.a.a.new } }) HEV.out.2.2.2.2.1 (by decide) (by simp [fEv]) (C1.ansAt (k:=k) (x:={ x with e:={ x.e with at_:=m.now } }) (List.getElem?_set_self HEV.out.2.2.2.2.2))
      have e:X = { m with e:=m.e.set k { x.e with at_:=m.now,version:=Va m.a.a.new } }:=by
       rw [HE.out,HEV.out.1];simp only;rw [List.getD_eq_getElem?_getD,HEV.out.2.1,<- HEV.out.2.2.2.1];rfl
      rw [e]
      exact ⟨rfl,⟨own,_,D1⟩,(FrO.of (HU.out.2.2.trans HG.out) (by simp)).trans (C2.trans D2)⟩
    have g7:decide (m.a.a.new≥3)=false:=by simpa using k7
    have g8:decide (3<=m.a.a.new)=false:=by simpa using k7
    have K7:=q9 k7
    clear k7
    go_enter Tryz.func79,Tryz.ntmps79
    go_wp2_with fail
    go_end0
    have e:X=m:=by rw [<- HX.out];unfold Mc.notes;simp only;rw [qd (fun h=>by have h1:=h.2.2.2;have h2:=K7.out;omega)];exact qd (fun h=>K4.out h.1)
    rw [e]
    exact ⟨rfl,⟨own,y,HU.out.1⟩,FrO.of HU.out.2.2 (by simp)⟩
   have g6:(m.a.a.old == 1)=false:=by simpa using k6
   have K6:=q9 k6
   clear k6
   go_enter Tryz.func79,Tryz.ntmps79
   go_wp2_with fail
   go_end0
   have e:X=m:=by rw [<- HX.out];unfold Mc.notes;simp only;rw [qd (fun h=>K6.out h.2.2.1)];exact qd (fun h=>K4.out h.1)
   rw [e]
   exact ⟨rfl,⟨own,y,HU.out.1⟩,FrO.of HU.out.2.2 (by simp)⟩
  have g3:(m.a.a.kind == 3)=false:=by simpa using k3
  have K3:=q9 k3
  clear k3
  go_enter Tryz.func79,Tryz.ntmps79
  go_wp2_with fail
  go_end0
  have e:X=m:=by rw [<- HX.out];unfold Mc.notes;simp only;rw [qd (fun h=>K3.out h.1)];exact qd (fun h=>K4.out h.1)
  rw [e]
  exact ⟨rfl,⟨own,y,HU.out.1⟩,FrO.of HU.out.2.2 (by simp)⟩
def mkM (m:Mc) (s:St) (n k:Nat) (X:Th) (V:Ev):Mc:={ m with a:=s,t:=m.t.set n X,e:=m.e.set k V }
def mkY (y:Lay) (n k:Nat) (Z:Tv) (V:Evv):Lay:={ y with ts:=y.ts.set n Z,es:=y.es.set k V }
structure MK (N0:Nat) (own:Nat->Nat) (w:World) (b:Nat) (m:Mc) (y:Lay) (n k g c:Nat) (s:St) (X:Th) (Z:Tv) (V:Evv):Prop where
 h:jc N0 own w b (mkM m s n k X V.e) (mkY y n k Z V)
 n:n<y.ts.length
 k:k<y.es.length
 ev:y.ev = .slice (some ⟨g,0,none⟩) y.es.length c
section
variable {N0:Nat} {own:Nat->Nat} {w:World} {b:Nat} {m:Mc} {y:Lay} {n k g c:Nat} {s:St} {X:Th} {Z:Tv} {V:Evv}
theorem MK.of (h:jc N0 own w b { m with a:=s,t:=m.t.set n X } y) (hz:y.ts[n]? = some Z) (hv:y.es[k]? = some V) (hm:m.e[k]? = some V.e) (hev:y.ev = .slice (some ⟨g,0,none⟩) y.es.length c):MK N0 own w b m y n k g c s X Z V:=by
 refine ⟨?_,(List.getElem?_eq_some_iff.1 hz).1,(List.getElem?_eq_some_iff.1 hv).1,hev⟩
 unfold mkM mkY
 rw [Xi hz,Xi hv,Xi hm]
 exact h
theorem MK.up {w':World} (h:MK N0 own w b m y n k g c s X Z V) (F:Fr [] w w'):MK N0 own w' b m y n k g c s X Z V:=⟨h.h.up F,h.n,h.k,h.ev⟩
theorem MK.xx (h:MK N0 own w b m y n k g c s X Z V) (col:Nat) (hN:N0<=w.heap.size):MK N0 (Mx.xx own w.heap.size col) w b m y n k g c s X Z V:=⟨h.h.xx col hN,h.n,h.k,h.ev⟩
theorem MK.setE (h:MK N0 own w b m y n k g c s X Z V) {j:Nat} {u:Value} {V':Evv} (hj:j<18) (hf:fEv V'=(fEv V).set j u) (ha:Sq fQ w V'.s.v V'.e.ans.pairs/\(V'.e.ans.pairs≠[]->∀ k,k∈V'.s.v.ownBlock.toList->own k=0)) :
  MK N0 own (w.setCell ⟨g,k * 18+j,none⟩ u) b m y n k g c s X Z V'/\FrO N0 w (w.setCell ⟨g,k * 18+j,none⟩ u):=by
 obtain ⟨h1,h2⟩:=jc.setE2 (m:={ m with a:=s,t:=m.t.set n X }) (y:={ y with ts:=y.ts.set n Z }) h.h h.k (x':=V') h.ev hj hf ha
 exact ⟨⟨h1,h.n,h.k,h.ev⟩,h2⟩
theorem MK.ans (h:MK N0 own w b m y n k g c s X Z V):Sq fQ w V.s.v V.e.ans.pairs/\(V.e.ans.pairs≠[]->∀ k,k∈V.s.v.ownBlock.toList->own k=0):=h.h.ansAt (k:=k) (List.getElem?_set_self h.k)
theorem MK.setN (h:MK N0 own w b m y n k g c s X Z V) {j:Nat} {u:Value} {e':Ev} (hj:j<18) (hf:fEv ⟨e',V.s⟩=(fEv V).set j u) (ha:e'.ans.pairs=V.e.ans.pairs) :
  MK N0 own (w.setCell ⟨g,k * 18+j,none⟩ u) b m y n k g c s X Z ⟨e',V.s⟩/\FrO N0 w (w.setCell ⟨g,k * 18+j,none⟩ u) :=
 h.setE hj hf (by rw [ha];exact h.ans)
theorem MK.setA (h:MK N0 own w b m y n k g c s X Z V) (a:An) (sv:Sv) (hs:Sq fQ w sv.v a.pairs) (hc:a.pairs≠[]->∀ k,k∈sv.v.ownBlock.toList->own k=0) (hg:own g=5) :
  MK N0 own ((((((w.setCell ⟨g,k * 18+12,none⟩ (.int .i64 a.code)).setCell ⟨g,k * 18+13,none⟩ (.bool a.found)).setCell ⟨g,k * 18+14,none⟩ (.int .i64 a.val)).setCell ⟨g,k * 18+15,none⟩ (.int .i64 a.writer)).setCell ⟨g,k * 18+16,none⟩ (.int .i64 a.version)).setCell ⟨g,k * 18+17,none⟩ sv.v) b m y n k g c s X Z ⟨{ V.e with ans:=a },sv⟩ /\
   FrO N0 w ((((((w.setCell ⟨g,k * 18+12,none⟩ (.int .i64 a.code)).setCell ⟨g,k * 18+13,none⟩ (.bool a.found)).setCell ⟨g,k * 18+14,none⟩ (.int .i64 a.val)).setCell ⟨g,k * 18+15,none⟩ (.int .i64 a.writer)).setCell ⟨g,k * 18+16,none⟩ (.int .i64 a.version)).setCell ⟨g,k * 18+17,none⟩ sv.v):=by
 obtain ⟨h1,f1⟩:=h.setN (j:=12) (u:=.int .i64 a.code) (e':={ V.e with ans:={ V.e.ans with code:=a.code } }) (by decide) (by simp [fEv]) rfl
 obtain ⟨h2,f2⟩:=h1.setN (j:=13) (u:=.bool a.found) (e':={ V.e with ans:={ V.e.ans with code:=a.code,found:=a.found } }) (by decide) (by simp [fEv]) rfl
 obtain ⟨h3,f3⟩:=h2.setN (j:=14) (u:=.int .i64 a.val) (e':={ V.e with ans:={ V.e.ans with code:=a.code,found:=a.found,val:=a.val } }) (by decide) (by simp [fEv]) rfl
 obtain ⟨h4,f4⟩:=h3.setN (j:=15) (u:=.int .i64 a.writer) (e':={ V.e with ans:={ V.e.ans with code:=a.code,found:=a.found,val:=a.val,writer:=a.writer } }) (by decide) (by simp [fEv]) rfl
 obtain ⟨h5,f5⟩:=h4.setN (j:=16) (u:=.int .i64 a.version) (e':={ V.e with ans:={ V.e.ans with code:=a.code,found:=a.found,val:=a.val,writer:=a.writer,version:=a.version } }) (by decide) (by simp [fEv]) rfl
 have F:Fr [g] w (((((w.setCell ⟨g,k * 18+12,none⟩ (.int .i64 a.code)).setCell ⟨g,k * 18+13,none⟩ (.bool a.found)).setCell ⟨g,k * 18+14,none⟩ (.int .i64 a.val)).setCell ⟨g,k * 18+15,none⟩ (.int .i64 a.writer)).setCell ⟨g,k * 18+16,none⟩ (.int .i64 a.version)):=((((Fr.setCell _ (by simp)).setCell' _ (by simp)).setCell' _ (by simp)).setCell' _ (by simp)).setCell' _ (by simp)
 obtain ⟨h6,f6⟩:=h5.setE (j:=17) (u:=sv.v) (V':=⟨{ V.e with ans:=a },sv⟩) (by decide) (by simp [fEv]) ⟨hs.keptN F (fun hne i hi hm=>by simp at hm;subst hm;have:=hc hne _ hi;omega),hc⟩
 exact ⟨h6,f1.trans (f2.trans (f3.trans (f4.trans (f5.trans f6))))⟩
theorem MK.rest (h:MK N0 own w b m y n k g c s X Z V):MK N0 own (w.setCell ⟨y.tb,n * 6+1,none⟩ (.bool false)) b m y n k g c s { X with busy:=false } { Z with busy:=false } V/\FrO N0 w (w.setCell ⟨y.tb,n * 6+1,none⟩ (.bool false)):=by
 have hn:n<m.t.length:=by have h1:=h.h.thl;have h2:=h.n;unfold mkM mkY at h1;simp at h1;omega
 have hth:qdh X Z:=(h.h.thr n X Z (by unfold mkM;exact List.getElem?_set_self hn) (by unfold mkY;exact List.getElem?_set_self h.n)).choose_spec.1.1
 obtain ⟨h1,h2⟩:=jc.setT2 (m:={ m with a:=s,e:=m.e.set k V.e }) (y:={ y with es:=y.es.set k V }) (t:=n) (x0:=X) (z0:=Z) h.h hn (j:=1) (u:=.bool false) (x':={ X with next:=X.next,busy:=false,scans:=X.scans }) (z':={ Z with next:=X.next,busy:=false,scans:=X.scans }) (by decide) (by simp [fTv,hth.1,hth.2.2]) (fun w' F=>by obtain ⟨B,k1,k2⟩:=jc.thK2 (m:={ m with a:=s,e:=m.e.set k V.e }) (y:={ y with es:=y.es.set k V }) h.h hn w' F;exact ⟨B,k1.num _ _ _,k2⟩)
 refine ⟨⟨?_,h.n,h.k,h.ev⟩,h2⟩
 have ez:({ Z with next:=X.next,busy:=false,scans:=X.scans }:Tv) = { Z with busy:=false }:=by rw [<- hth.1,<- hth.2.2]
 rw [ez] at h1
 exact h1
theorem MK.og (h:MK N0 own w b m y n k g c s X Z V):own g=5:=h.h.evo g (by unfold mkY;simp only;rw [h.ev];simp [Value.ownBlock])
theorem MK.mc (h:MK N0 own w b m y n k g c s X Z V):w.cell? ⟨b,7,none⟩=some (.pointer (some ⟨y.p,0,none⟩))/\w.cell? ⟨b,8,none⟩=some (.slice (some ⟨y.tb,0,none⟩) y.ts.length y.ts.length)/\w.cell? ⟨b,9,none⟩=some (.int .i64 m.now)/\w.cell? ⟨b,12,none⟩=some (.slice (some ⟨g,0,none⟩) y.es.length c):=by
 obtain ⟨-,-,-,-,-,-,-,c7,c8,c9,-,-,c12⟩:=zw h.h.ob
 unfold mkM mkY Mx.Lay.tv at *
 simp only [List.length_set] at c7 c8 c9 c12
 rw [h.ev] at c12
 exact ⟨c7,c8,c9,c12⟩
theorem MK.tc (h:MK N0 own w b m y n k g c s X Z V):w.cell? ⟨y.tb,n * 6+1,none⟩=some (.bool Z.busy)/\w.cell? ⟨y.tb,n * 6+3,none⟩=some (xw Z.pp)/\w.cell? ⟨y.tb,n * 6+4,none⟩=some (xw Z.gp)/\w.cell? ⟨y.tb,n * 6+5,none⟩=some (xw Z.sp)/\∀ i,w.frozen? ⟨y.tb,i,none⟩=false:=by
 have hz:(mkY y n k Z V).ts[n]? = some Z:=by unfold mkY;exact List.getElem?_set_self h.n
 exact ⟨xh h.h.th hz (j:=1) (by decide) rfl,xh h.h.th hz (j:=3) (by decide) rfl,xh h.h.th hz (j:=4) (by decide) rfl,xh h.h.th hz (j:=5) (by decide) rfl,h.h.th.frozen⟩
theorem MK.ec (h:MK N0 own w b m y n k g c s X Z V):(∀ j u,(fEv V)[j]? = some u->w.cell? ⟨g,k * 18+j,none⟩=some u)/\∀ i,w.frozen? ⟨g,i,none⟩=false:=by
 have hv:(mkY y n k Z V).es[k]? = some V:=by unfold mkY;exact List.getElem?_set_self h.k
 obtain ⟨g',c',e,-,h3,h4⟩:=h.h.ev_open hv
 have e2:(mkY y n k Z V).ev = .slice (some ⟨g,0,none⟩) y.es.length c:=h.ev
 rw [e2] at e
 simp only [Value.slice.injEq,Option.some.injEq,Addr.mk.injEq] at e
 obtain ⟨⟨rfl,-⟩,-⟩:=e
 exact ⟨h3,h4⟩
theorem MK.ne (h:MK N0 own w b m y n k g c s X Z V):¬ b=g/\¬ b=y.tb/\¬ y.tb=g:=by
 have h1:=h.h.cb;have h2:own y.tb=4:=h.h.ct;have h3:=h.og
 exact ⟨fun e=>by rw [e] at h1;omega,fun e=>by rw [e] at h1;omega,fun e=>by rw [e] at h2;omega⟩
end
theorem Vj (g:Gt):g.answer.pairs=[]:=by
 unfold Gt.answer Xv Vp
 split
 ·split
  ·split <;> rfl
  rfl
 ·rfl
theorem qae {N0:Nat} {own:Nat->Nat} {w:World} {b:Nat} {m:Mc} {y:Lay} {N:Nat} (hI:MInv N m) (hN:N<=40000) (h:jc N0 own w b m y) (hN0:N0<=w.heap.size) {n k:Nat} {x:Th} {ve:Ev} (hx:m.t[n]? = some x) (hv:m.e[k]? = some ve) (P:Pt) (hp:x.p=some P) :
  Calls Tryz.prog 77 #[.pointer (some ⟨b,0,none⟩),.int .i64 n,.int .i64 k] w (Vz N0 w b (m.steps (n:Int) k) (.tuple #[])):=by
 have hn:=(List.getElem?_eq_some_iff.1 hx).1
 obtain ⟨z,hz⟩:∃ z,y.ts[n]? = some z:=⟨y.ts[n]'(by rw [h.thl];exact hn),List.getElem?_eq_getElem _⟩
 obtain ⟨⟨ve',vs⟩,hV,rfl⟩:=h.ev_at hv
 simp only at hv
 obtain ⟨B,hth,hBc⟩:=h.thr n x z hx hz
 obtain ⟨hIs,⟨P0,pb,ep,eg,es,z1,z2,z3,hP⟩ | ⟨_,_,ep,_⟩ | ⟨_,_,ep,_⟩ | ⟨ep,_⟩⟩:=hth
 rotate_left
 ·rw [hp] at ep;cases ep
 ·rw [hp] at ep;cases ep
 ·rw [hp] at ep;cases ep
 obtain rfl:P0=P:=by rw [hp] at ep;exact (qi ep).symm
 obtain ⟨g,c,hev,-,-,-⟩:=h.ev_open hV
 generalize hX:m.steps (n:Int) k=X
 have HX:=q9 hX
 have HI:=q9 hI
 have hsteps:=hI.es ve' (List.mem_of_getElem? hv)
 have HTH:=q9 (show m.th (n:Int)=x by unfold Mc.th;rw [Int.toNat_natCast,List.getD_eq_getElem?_getD,hx];rfl)
 have HGD:=q9 (show m.e.getD k q9y=ve' by rw [List.getD_eq_getElem?_getD,hv];rfl)
 clear hX hI
 have hpB:y.p∉B:=fun hi=>by have:=hBc _ hi;have:=h.cp;omega
 have hqB:y.q∉B:=fun hi=>by have:=hBc _ hi;have:=h.cq;omega
 have hpR:y.p∉y.R:=fun hi=>by have:=h.R0 _ hi;have:=h.cp;omega
 have hqR:y.q∉y.R:=fun hi=>by have:=h.R0 _ hi;have:=h.cq;omega
 obtain ⟨-,-,-,-,-,-,-,c7,c8,-,-,-,-⟩:=zw h.ob
 unfold Lay.tv at c8
 have t3:=xh h.th hz (j:=3) (by decide) rfl
 have t4:=xh h.th hz (j:=4) (by decide) rfl
 have t5:=xh h.th hz (j:=5) (by decide) rfl
 rw [z1] at t3
 rw [z2] at t4
 rw [z3] at t5
 unfold xw at t3 t4 t5
 simp only at t3 t4 t5
 have hlz:(n:Int)<(y.ts.length:Int):=by rw [h.thl];omega
 have HH:=q9 (qc hx (qc hz (qc hV (qc hv (qc hev (qc hp (qc hIs (qc eg es))))))))
 have hklz:(k:Int)<(y.es.length:Int):=by have:=(List.getElem?_eq_some_iff.1 hV).1;omega
 have HBC:=q9 hBc
 have HZ:=q9 (qc z1 (qc z2 z3))
 have HHP:=q9 hP
 have HM:=q9 h
 have HNN:=q9 (qc hpB (qc hqB (qc hpR hqR)))
 clear hx hz hV hv hev hp hIs eg es hBc z1 z2 z3 ep hP h hpB hqB hpR hqR hn
 go_enter Tryz.func77,Tryz.ntmps77
 go_wp2_with fail
 refine qo (by kernel_rfl) ?_
 refine z6 [] w #[true,true,true,true,true,true,true,true,false,false] 8 2 rfl ?_
 refine yx [true,true,true,true,true,true,true,true,false,false] 0 (n:=163) (listed':=#[true,true,true,true,true,true,true,true,false,false]) rfl (by kernel_rfl) (by kernel_rfl) (by kernel_rfl) (by kernel_rfl) rfl (by kernel_rfl) (fun _ _ d _ _ h=>by cases d <;> exact h) ((Fr.refl _ w).drew) ?_
 apply qg
 refine ⟨fun wf Ff=>?_,?_⟩
 ·have k7:=qb (Ff.cell c7 (by simp))
  have k3:=qb (Ff.cell t3 (by simp))
  have k4:=qb (Ff.cell t4 (by simp))
  have k5:=qb (Ff.cell t5 (by simp))
  simp only [sel]
  repeat (go_big_quiet_step (fail))
  exact wpQuiet_nil rfl
 refine qx (k:=8) rfl (by kernel_rfl) (fun w2 F2=>?_)
 replace F2:=(Fr.refl [] w).drew.trans F2
 obtain ⟨hx,hz,hV,hv,hev,hp,hIs,eg,es⟩:=HH.out
 obtain ⟨hpB,hqB,hpR,hqR⟩:=HNN.out
 obtain ⟨z1,z2,z3⟩:=HZ.out
 have M2:=HM.out.up F2
 have hP:=HHP.out
 go_wp2_with fail
 refine (q87 N (by omega) P0 ((HI.out.th n x hx).p P0 hp) y.R B pb y.p y.q m.a w2 (hP.kept F2 (by simp) (by simp)) M2.ar hpB hqB hpR hqR).mono ?_;rintro e w3 ⟨rfl,⟨B',hP3,hBn⟩,hA3,F3⟩
 obtain ⟨S1,S2⟩:=M2.stepT (qh hN0 F2.size) hz HBC.out F3 hA3 (x':={ x with p:=some (P0.step m.a).1 }) ⟨hIs,.inl ⟨_,pb,rfl,eg,es,z1,z2,z3,hP3⟩⟩ hBn
 have hB'c:∀ k,k∈B'->xx own w2.heap.size (n+6) k=n+6:=fun k hk=>by
  rcases hBn k hk with e | e
  ·rw [vu]
   ·exact HBC.out k e
   exact (hP.kept F2 (by simp) (by simp)).lt k e
  ·exact yg e
 generalize xx own w2.heap.size (n+6)=own2 at *
 have HF:=q9 ((FrO.of (N0:=N0) F2 (by simp)).trans S2)
 clear S2
 generalize hP1:(P0.step m.a).1=P' at *
 generalize hP2:(P0.step m.a).2=s' at *
 have HQ:=q9 (qc hp (qc hP1 hP2))
 have HK:=q9 (MK.of S1 hz hV hv hev)
 obtain ⟨dv,wp,xp,mp,Bx,hO,-,-,-,-,-,rfl⟩:=hP3
 have npg:¬ pb=g:=fun e=>by have h1:=hB'c pb (by simp);have h2:=HK.out.og;rw [e] at h1;omega
 have npt:¬ pb=y.tb:=fun e=>by have h1:=hB'c pb (by simp);have h2:own2 y.tb=4:=HK.out.h.ct;rw [e] at h1;omega
 have HP:=q9 hO
 clear hO
 have hbg:=HK.out.ne
 obtain ⟨nbg,nbt,ntg⟩:=hbg
 have nbg':¬ g=b:=fun e=>nbg e.symm
 have nbt':¬ y.tb=b:=fun e=>nbt e.symm
 have ntg':¬ g=y.tb:=fun e=>ntg e.symm
 clear S1 hP1 hP2 HH HM HBC HNN HHP hx hz hV hv hev hp hIs eg es hpB hqB hpR hqR z1 z2 z3 M2 hP F2 F3 hA3 hBn hB'c c7 c8 t3 t4 t5
 cases hov:P'.over
 ·have HOV:=q9 hov
  clear hov
  cases hpl:P'.placed
  ·have HPL:=q9 hpl
   clear hpl
   obtain ⟨c7,c8,c9,c12⟩:=HK.out.mc
   obtain ⟨t1,t3,t4,t5,zt⟩:=HK.out.tc
   simp only [HZ.out.1,HZ.out.2.1,HZ.out.2.2,xw] at t3 t4 t5
   obtain ⟨ec,zg⟩:=HK.out.ec
   have e7:=ec 7 _ rfl
   have e8:=ec 8 _ rfl
   have e9:=ec 9 _ rfl
   have e12:=ec 12 _ rfl
   have e13:=ec 13 _ rfl
   have e14:=ec 14 _ rfl
   have e15:=ec 15 _ rfl
   have e16:=ec 16 _ rfl
   have e17:=ec 17 _ rfl
   clear ec
   obtain ⟨-,-,-,-,-,-,-,-,-,-,p10,p11,p12,p13⟩:=zn HP.out
   rw [HOV.out] at p10
   rw [HPL.out] at p13
   go_wp2_with fail
   obtain ⟨K0,G0⟩:=HK.out.setN (j:=8) (u:=.int .i64 (ve'.steps+1)) (e':={ ve' with steps:=ve'.steps+1 }) (by decide) (by simp [fEv]) rfl
   have HK2:=q9 K0
   have HF2:=q9 (HF.out.trans G0)
   have HP2:=q9 (show Vb _ pb P' dv wp xp mp from (Ob.other HP.out npg (i:=k * 18+8) (.int .i64 (ve'.steps+1))))
   clear HP
   clear HK HF K0 G0
   have HK:=HK2
   have HF:=HF2
   clear HK2 HF2
   have HP:=HP2
   clear HP2
   go_end0
   have e:X=mkM m s' n k ({ x with p:=some P' }) ({ ve' with steps:=ve'.steps+1 }):=by
    rw [<- HX.out];unfold Mc.steps mkM;simp only [HTH.out,HGD.out,HQ.out.1];simp [HQ.out.2.1,HQ.out.2.2,HOV.out,HPL.out]
   rw [e]
   exact ⟨rfl,⟨_,_,HK.out.h⟩,HF.out⟩
  have HPL:=q9 hpl
  clear hpl
  obtain ⟨c7,c8,c9,c12⟩:=HK.out.mc
  obtain ⟨t1,t3,t4,t5,zt⟩:=HK.out.tc
  simp only [HZ.out.1,HZ.out.2.1,HZ.out.2.2,xw] at t3 t4 t5
  obtain ⟨ec,zg⟩:=HK.out.ec
  have e7:=ec 7 _ rfl
  have e8:=ec 8 _ rfl
  have e9:=ec 9 _ rfl
  have e12:=ec 12 _ rfl
  have e13:=ec 13 _ rfl
  have e14:=ec 14 _ rfl
  have e15:=ec 15 _ rfl
  have e16:=ec 16 _ rfl
  have e17:=ec 17 _ rfl
  clear ec
  obtain ⟨-,-,-,-,-,-,-,-,-,-,p10,p11,p12,p13⟩:=zn HP.out
  rw [HOV.out] at p10
  rw [HPL.out] at p13
  go_wp2_with fail
  clear c7 c8 c9 c12 t1 t3 t4 t5 zt zg e7 e8 e9 e12 e13 e14 e15 e16 e17 p10 p11 p12 p13
  refine qo (by kernel_rfl) ?_
  refine z6 [] w3 #[true,true,true,true,true,true,true,true,true,false,false,false] 9 3 rfl ?_
  refine lpq [true,true,true,true,true,true,true,true,true,false,false,false] 0 ((Fr.refl _ _).drew) ?_
  apply qg
  refine ⟨fun wf Ff=>?_,?_⟩
  ·obtain ⟨c7,c8,c9,c12⟩:=(HK.out.up Ff).mc
   obtain ⟨t1,t3,t4,t5,-⟩:=(HK.out.up Ff).tc
   simp only [HZ.out.1,HZ.out.2.1,HZ.out.2.2,xw] at t3 t4 t5
   have k3:=qb t3
   have k4:=qb t4
   have k5:=qb t5
   have k7:=qb c7
   have k9:=qb c9
   have k12:=qb c12
   obtain ⟨-,-,-,-,-,-,-,-,-,-,p10,p11,p12,p13⟩:=zn (Ob.up HP.out Ff)
   have q11:=qb p11
   have q12:=qb p12
   simp only [sel]
   repeat (go_big_quiet_step (fail))
   exact wpQuiet_nil rfl
  refine qx (k:=9) rfl (by kernel_rfl) (fun v1w FN=>?_)
  replace FN:=((Fr.refl [] w3).drew).trans FN
  have HK2:=q9 (HK.out.up FN)
  have HF2:=q9 (HF.out.trans (FrO.of FN (by simp)))
  have HP2:=q9 (Ob.up HP.out FN)
  clear HK HF FN HP
  have HK:=HK2
  have HF:=HF2
  clear HK2 HF2
  have HP:=HP2
  clear HP2
  obtain ⟨c7,c8,c9,c12⟩:=HK.out.mc
  obtain ⟨t1,t3,t4,t5,zt⟩:=HK.out.tc
  simp only [HZ.out.1,HZ.out.2.1,HZ.out.2.2,xw] at t3 t4 t5
  obtain ⟨ec,zg⟩:=HK.out.ec
  have e7:=ec 7 _ rfl
  have e8:=ec 8 _ rfl
  have e9:=ec 9 _ rfl
  have e12:=ec 12 _ rfl
  have e13:=ec 13 _ rfl
  have e14:=ec 14 _ rfl
  have e15:=ec 15 _ rfl
  have e16:=ec 16 _ rfl
  have e17:=ec 17 _ rfl
  clear ec
  obtain ⟨-,-,-,-,-,-,-,-,-,-,p10,p11,p12,p13⟩:=zn HP.out
  rw [HOV.out] at p10
  rw [HPL.out] at p13
  go_wp2_with fail
  obtain ⟨K0,G0⟩:=HK.out.setN (j:=9) (u:=.int .i64 m.now) (e':={ ve' with alloc:=m.now }) (by decide) (by simp [fEv]) rfl
  obtain ⟨K1,G1⟩:=K0.setN (j:=8) (u:=.int .i64 (ve'.steps+1)) (e':={ ve' with alloc:=m.now,steps:=ve'.steps+1 }) (by decide) (by simp [fEv]) rfl
  have HK2:=q9 K1
  have HF2:=q9 (HF.out.trans (G0.trans G1))
  have HP2:=q9 (show Vb _ pb P' dv wp xp mp from (Ob.other (Ob.other HP.out npg (i:=k * 18+9) (.int .i64 m.now)) npg (i:=k * 18+8) (.int .i64 (ve'.steps+1))))
  clear HP
  clear HK HF K0 G0 K1 G1
  have HK:=HK2
  have HF:=HF2
  clear HK2 HF2
  have HP:=HP2
  clear HP2
  go_end0
  have e:X=mkM m s' n k ({ x with p:=some P' }) ({ ve' with alloc:=m.now,steps:=ve'.steps+1 }):=by
   rw [<- HX.out];unfold Mc.steps mkM;simp only [HTH.out,HGD.out,HQ.out.1];simp [HQ.out.2.1,HQ.out.2.2,HOV.out,HPL.out]
  rw [e]
  exact ⟨rfl,⟨_,_,HK.out.h⟩,HF.out⟩
 ·have HOV:=q9 hov
  clear hov
  by_cases he:P'.e=0
  ·have ge:(P'.e != 0)=false:=by simpa using he
   have HER:=q9 he
   clear he
   cases hpl:P'.placed
   focus
    have HPL:=q9 hpl
    clear hpl
    obtain ⟨c7,c8,c9,c12⟩:=HK.out.mc
    obtain ⟨t1,t3,t4,t5,zt⟩:=HK.out.tc
    simp only [HZ.out.1,HZ.out.2.1,HZ.out.2.2,xw] at t3 t4 t5
    obtain ⟨ec,zg⟩:=HK.out.ec
    have e7:=ec 7 _ rfl
    have e8:=ec 8 _ rfl
    have e9:=ec 9 _ rfl
    have e12:=ec 12 _ rfl
    have e13:=ec 13 _ rfl
    have e14:=ec 14 _ rfl
    have e15:=ec 15 _ rfl
    have e16:=ec 16 _ rfl
    have e17:=ec 17 _ rfl
    clear ec
    obtain ⟨-,-,-,-,-,-,-,-,-,-,p10,p11,p12,p13⟩:=zn HP.out
    rw [HOV.out] at p10
    rw [HPL.out] at p13
    go_wp2_with fail
    clear c7 c8 c9 c12 t1 t3 t4 t5 zt zg e7 e8 e9 e12 e13 e14 e15 e16 e17 p10 p11 p12 p13
    have hst:=hsteps
    generalize hve:(ve':Ev)=ve1 at HK
    have hst1:0<=ve1.steps/\ve1.steps<=N:=by rw [<- hve];exact hst
    have HVE:=q9 (show ve1=(if P'.placed=true then { ve' with alloc:=m.now } else ve') by simp [HPL.out,<- hve])
    clear hve hst hsteps
    generalize w3=u1w at *
   rotate_left
   focus
    have HPL:=q9 hpl
    clear hpl
    obtain ⟨c7,c8,c9,c12⟩:=HK.out.mc
    obtain ⟨t1,t3,t4,t5,zt⟩:=HK.out.tc
    simp only [HZ.out.1,HZ.out.2.1,HZ.out.2.2,xw] at t3 t4 t5
    obtain ⟨ec,zg⟩:=HK.out.ec
    have e7:=ec 7 _ rfl
    have e8:=ec 8 _ rfl
    have e9:=ec 9 _ rfl
    have e12:=ec 12 _ rfl
    have e13:=ec 13 _ rfl
    have e14:=ec 14 _ rfl
    have e15:=ec 15 _ rfl
    have e16:=ec 16 _ rfl
    have e17:=ec 17 _ rfl
    clear ec
    obtain ⟨-,-,-,-,-,-,-,-,-,-,p10,p11,p12,p13⟩:=zn HP.out
    rw [HOV.out] at p10
    rw [HPL.out] at p13
    go_wp2_with fail
    clear c7 c8 c9 c12 t1 t3 t4 t5 zt zg e7 e8 e9 e12 e13 e14 e15 e16 e17 p10 p11 p12 p13
    refine qo (by kernel_rfl) ?_
    refine z6 [] w3 #[true,true,true,true,true,true,true,true,true,false,false,false] 9 3 rfl ?_
    refine lpq [true,true,true,true,true,true,true,true,true,false,false,false] 0 ((Fr.refl _ _).drew) ?_
    apply qg
    refine ⟨fun wf Ff=>?_,?_⟩
    ·obtain ⟨c7,c8,c9,c12⟩:=(HK.out.up Ff).mc
     obtain ⟨t1,t3,t4,t5,-⟩:=(HK.out.up Ff).tc
     simp only [HZ.out.1,HZ.out.2.1,HZ.out.2.2,xw] at t3 t4 t5
     have k3:=qb t3
     have k4:=qb t4
     have k5:=qb t5
     have k7:=qb c7
     have k9:=qb c9
     have k12:=qb c12
     obtain ⟨-,-,-,-,-,-,-,-,-,-,p10,p11,p12,p13⟩:=zn (Ob.up HP.out Ff)
     have q11:=qb p11
     have q12:=qb p12
     simp only [sel]
     repeat (go_big_quiet_step (fail))
     exact wpQuiet_nil rfl
    refine qx (k:=9) rfl (by kernel_rfl) (fun v1w FN=>?_)
    replace FN:=((Fr.refl [] w3).drew).trans FN
    have HK2:=q9 (HK.out.up FN)
    have HF2:=q9 (HF.out.trans (FrO.of FN (by simp)))
    have HP2:=q9 (Ob.up HP.out FN)
    clear HK HF FN HP
    have HK:=HK2
    have HF:=HF2
    clear HK2 HF2
    have HP:=HP2
    clear HP2
    obtain ⟨c7,c8,c9,c12⟩:=HK.out.mc
    obtain ⟨t1,t3,t4,t5,zt⟩:=HK.out.tc
    simp only [HZ.out.1,HZ.out.2.1,HZ.out.2.2,xw] at t3 t4 t5
    obtain ⟨ec,zg⟩:=HK.out.ec
    have e7:=ec 7 _ rfl
    have e8:=ec 8 _ rfl
    have e9:=ec 9 _ rfl
    have e12:=ec 12 _ rfl
    have e13:=ec 13 _ rfl
    have e14:=ec 14 _ rfl
    have e15:=ec 15 _ rfl
    have e16:=ec 16 _ rfl
    have e17:=ec 17 _ rfl
    clear ec
    obtain ⟨-,-,-,-,-,-,-,-,-,-,p10,p11,p12,p13⟩:=zn HP.out
    rw [HOV.out] at p10
    rw [HPL.out] at p13
    go_wp2_with fail
    clear c7 c8 c9 c12 t1 t3 t4 t5 zt zg e7 e8 e9 e12 e13 e14 e15 e16 e17 p10 p11 p12 p13
    obtain ⟨K0,G0⟩:=HK.out.setN (j:=9) (u:=.int .i64 m.now) (e':={ ve' with alloc:=m.now }) (by decide) (by simp [fEv]) rfl
    have HK2:=q9 K0
    have HF2:=q9 (HF.out.trans G0)
    have HP2:=q9 (show Vb _ pb P' dv wp xp mp from (Ob.other HP.out npg (i:=k * 18+9) (.int .i64 m.now)))
    clear HP
    clear HK HF K0 G0
    have HK:=HK2
    have HF:=HF2
    clear HK2 HF2
    have HP:=HP2
    clear HP2
    have hst:=hsteps
    generalize hve:({ ve' with alloc:=m.now }:Ev)=ve1 at HK
    have hst1:0<=ve1.steps/\ve1.steps<=N:=by rw [<- hve];exact hst
    have HVE:=q9 (show ve1=(if P'.placed=true then { ve' with alloc:=m.now } else ve') by simp [HPL.out,<- hve])
    clear hve hst hsteps
    generalize (v1w.setCell ⟨g,k * 18+9,none⟩ (.int .i64 m.now))=u1w at *
   rotate_left
   all_goals
    refine qo (by kernel_rfl) ?_
    refine z6 [] u1w #[true,true,true,true,true,true,true,true,true,true,true,true,true,false,false,false] 13 3 rfl ?_
    refine lpq [true,true,true,true,true,true,true,true,true,true,true,true,true,false,false,false] 0 ((Fr.refl _ _).drew) ?_
    apply qg
    refine ⟨fun wf Ff=>?_,?_⟩
    ·obtain ⟨c7,c8,c9,c12⟩:=(HK.out.up Ff).mc
     obtain ⟨t1,t3,t4,t5,-⟩:=(HK.out.up Ff).tc
     simp only [HZ.out.1,HZ.out.2.1,HZ.out.2.2,xw] at t3 t4 t5
     have k3:=qb t3
     have k4:=qb t4
     have k5:=qb t5
     have k7:=qb c7
     have k9:=qb c9
     have k12:=qb c12
     obtain ⟨-,-,-,-,-,-,-,-,-,-,p10,p11,p12,p13⟩:=zn (Ob.up HP.out Ff)
     have q11:=qb p11
     have q12:=qb p12
     simp only [sel]
     repeat (go_big_quiet_step (fail))
     exact wpQuiet_nil rfl
    refine qx (k:=13) rfl (by kernel_rfl) (fun v1w FN=>?_)
    replace FN:=((Fr.refl [] u1w).drew).trans FN
    have HK2:=q9 (HK.out.up FN)
    have HF2:=q9 (HF.out.trans (FrO.of FN (by simp)))
    have HP2:=q9 (Ob.up HP.out FN)
    clear HK HF FN HP
    have HK:=HK2
    have HF:=HF2
    clear HK2 HF2
    have HP:=HP2
    clear HP2
    obtain ⟨c7,c8,c9,c12⟩:=HK.out.mc
    obtain ⟨t1,t3,t4,t5,zt⟩:=HK.out.tc
    simp only [HZ.out.1,HZ.out.2.1,HZ.out.2.2,xw] at t3 t4 t5
    obtain ⟨ec,zg⟩:=HK.out.ec
    have e7:=ec 7 _ rfl
    have e8:=ec 8 _ rfl
    have e9:=ec 9 _ rfl
    have e12:=ec 12 _ rfl
    have e13:=ec 13 _ rfl
    have e14:=ec 14 _ rfl
    have e15:=ec 15 _ rfl
    have e16:=ec 16 _ rfl
    have e17:=ec 17 _ rfl
    clear ec
    obtain ⟨-,-,-,-,-,-,-,-,-,-,p10,p11,p12,p13⟩:=zn HP.out
    rw [HOV.out] at p10
    rw [HPL.out] at p13
    go_wp2_with fail
    clear c7 c8 c9 c12 t1 t3 t4 t5 zt zg e7 e8 e9 e12 e13 e14 e15 e16 e17 p10 p11 p12 p13
    obtain ⟨K0,G0⟩:=HK.out.setA (⟨0,false,0,-1,P'.version,[]⟩) ⟨none,0,0⟩ (Sq.nil _) (fun h=>absurd rfl h) HK.out.og
    simp only [Sv.v] at K0 G0
    obtain ⟨K1,G1⟩:=K0.setN (j:=8) (u:=.int .i64 (ve1.steps+1)) (e':={ ve1 with ans:=⟨0,false,0,-1,P'.version,[]⟩,steps:=ve1.steps+1 }) (by decide) (by simp [fEv]) rfl
    obtain ⟨K2,G2⟩:=K1.rest
    have HK2:=q9 K2
    have HF2:=q9 (HF.out.trans (G0.trans (G1.trans G2)))
    have HP2:=q9 (show Vb _ pb P' dv wp xp mp from (Ob.other (Ob.other (Ob.other (Ob.other (Ob.other (Ob.other (Ob.other (Ob.other HP.out npg (i:=k * 18+12) (.int .i64 0)) npg (i:=k * 18+13) (.bool false)) npg (i:=k * 18+14) (.int .i64 0)) npg (i:=k * 18+15) (.int .i64 (-1))) npg (i:=k * 18+16) (.int .i64 P'.version)) npg (i:=k * 18+17) (.slice none 0 0)) npg (i:=k * 18+8) (.int .i64 (ve1.steps+1))) npt (i:=n * 6+1) (.bool false)))
    clear HP
    clear HK HF K0 G0 K1 G1 K2 G2
    have HK:=HK2
    have HF:=HF2
    clear HK2 HF2
    have HP:=HP2
    clear HP2
    generalize hve:({ ve1 with ans:=⟨0,false,0,-1,P'.version,[]⟩,steps:=ve1.steps+1 }:Ev)=ve2 at HK
    have HVA:=q9 (show ve2 = { ve1 with ans:=qcz P',steps:=ve1.steps+1 } by rw [<- hve];simp [qcz,HER.out])
    clear hve
    generalize ((((((((v1w.setCell ⟨g,k * 18+12,none⟩ (.int .i64 0)).setCell ⟨g,k * 18+13,none⟩ (.bool false)).setCell ⟨g,k * 18+14,none⟩ (.int .i64 0)).setCell ⟨g,k * 18+15,none⟩ (.int .i64 (-1))).setCell ⟨g,k * 18+16,none⟩ (.int .i64 P'.version)).setCell ⟨g,k * 18+17,none⟩ (.slice none 0 0)).setCell ⟨g,k * 18+8,none⟩ (.int .i64 (ve1.steps+1))).setCell ⟨y.tb,n * 6+1,none⟩ (.bool false))=u2w at *
    refine qo (by kernel_rfl) ?_
    refine z6 [] u2w #[true,true,true,true,true,true,true,true,true,false,false,false] 9 3 rfl ?_
    refine lpq [true,true,true,true,true,true,true,true,true,false,false,false] 0 ((Fr.refl _ _).drew) ?_
    apply qg
    refine ⟨fun wf Ff=>?_,?_⟩
    ·obtain ⟨c7,c8,c9,c12⟩:=(HK.out.up Ff).mc
     obtain ⟨t1,t3,t4,t5,-⟩:=(HK.out.up Ff).tc
     simp only [HZ.out.1,HZ.out.2.1,HZ.out.2.2,xw] at t3 t4 t5
     have k3:=qb t3
     have k4:=qb t4
     have k5:=qb t5
     have k7:=qb c7
     have k9:=qb c9
     have k12:=qb c12
     obtain ⟨-,-,-,-,-,-,-,-,-,-,p10,p11,p12,p13⟩:=zn (Ob.up HP.out Ff)
     have q11:=qb p11
     have q12:=qb p12
     simp only [sel]
     repeat (go_big_quiet_step (fail))
     exact wpQuiet_nil rfl
    refine qx (k:=9) rfl (by kernel_rfl) (fun v6w FN=>?_)
    replace FN:=((Fr.refl [] u2w).drew).trans FN
    have HK2:=q9 (HK.out.up FN)
    have HF2:=q9 (HF.out.trans (FrO.of FN (by simp)))
    have HP2:=q9 (Ob.up HP.out FN)
    clear HK HF FN HP
    have HK:=HK2
    have HF:=HF2
    clear HK2 HF2
    have HP:=HP2
    clear HP2
    obtain ⟨c7,c8,c9,c12⟩:=HK.out.mc
    obtain ⟨t1,t3,t4,t5,zt⟩:=HK.out.tc
    simp only [HZ.out.1,HZ.out.2.1,HZ.out.2.2,xw] at t3 t4 t5
    obtain ⟨ec,zg⟩:=HK.out.ec
    have e7:=ec 7 _ rfl
    have e8:=ec 8 _ rfl
    have e9:=ec 9 _ rfl
    have e12:=ec 12 _ rfl
    have e13:=ec 13 _ rfl
    have e14:=ec 14 _ rfl
    have e15:=ec 15 _ rfl
    have e16:=ec 16 _ rfl
    have e17:=ec 17 _ rfl
    clear ec
    obtain ⟨-,-,-,-,-,-,-,-,-,-,p10,p11,p12,p13⟩:=zn HP.out
    rw [HOV.out] at p10
    rw [HPL.out] at p13
    go_wp2_with fail
    obtain ⟨K0,G0⟩:=HK.out.setN (j:=7) (u:=.int .i64 m.now) (e':={ ve2 with end_:=m.now }) (by decide) (by simp [fEv]) rfl
    have HK2:=q9 K0
    have HF2:=q9 (HF.out.trans G0)
    have HP2:=q9 (show Vb _ pb P' dv wp xp mp from (Ob.other HP.out npg (i:=k * 18+7) (.int .i64 m.now)))
    clear HP
    clear HK HF K0 G0
    have HK:=HK2
    have HF:=HF2
    clear HK2 HF2
    have HP:=HP2
    clear HP2
    go_end0
    have e:X=mkM m s' n k ({ x with p:=some P',busy:=false }) ({ ve2 with end_:=m.now }):=by
     rw [<- HX.out];unfold Mc.steps mkM;simp only [HTH.out,HGD.out,HQ.out.1];simp [HQ.out.2.1,HQ.out.2.2,HOV.out,HVA.out,HVE.out]
    rw [e]
    exact ⟨rfl,⟨_,_,HK.out.h⟩,HF.out⟩
  have ge:(P'.e != 0)=true:=by simpa using he
  have HER:=q9 he
  clear he
  cases hpl:P'.placed
  focus
   have HPL:=q9 hpl
   clear hpl
   obtain ⟨c7,c8,c9,c12⟩:=HK.out.mc
   obtain ⟨t1,t3,t4,t5,zt⟩:=HK.out.tc
   simp only [HZ.out.1,HZ.out.2.1,HZ.out.2.2,xw] at t3 t4 t5
   obtain ⟨ec,zg⟩:=HK.out.ec
   have e7:=ec 7 _ rfl
   have e8:=ec 8 _ rfl
   have e9:=ec 9 _ rfl
   have e12:=ec 12 _ rfl
   have e13:=ec 13 _ rfl
   have e14:=ec 14 _ rfl
   have e15:=ec 15 _ rfl
   have e16:=ec 16 _ rfl
   have e17:=ec 17 _ rfl
   clear ec
   obtain ⟨-,-,-,-,-,-,-,-,-,-,p10,p11,p12,p13⟩:=zn HP.out
   rw [HOV.out] at p10
   rw [HPL.out] at p13
   go_wp2_with fail
   clear c7 c8 c9 c12 t1 t3 t4 t5 zt zg e7 e8 e9 e12 e13 e14 e15 e16 e17 p10 p11 p12 p13
   have hst:=hsteps
   generalize hve:(ve':Ev)=ve1 at HK
   have hst1:0<=ve1.steps/\ve1.steps<=N:=by rw [<- hve];exact hst
   have HVE:=q9 (show ve1=(if P'.placed=true then { ve' with alloc:=m.now } else ve') by simp [HPL.out,<- hve])
   clear hve hst hsteps
   generalize w3=u1w at *
  rotate_left
  focus
   have HPL:=q9 hpl
   clear hpl
   obtain ⟨c7,c8,c9,c12⟩:=HK.out.mc
   obtain ⟨t1,t3,t4,t5,zt⟩:=HK.out.tc
   simp only [HZ.out.1,HZ.out.2.1,HZ.out.2.2,xw] at t3 t4 t5
   obtain ⟨ec,zg⟩:=HK.out.ec
   have e7:=ec 7 _ rfl
   have e8:=ec 8 _ rfl
   have e9:=ec 9 _ rfl
   have e12:=ec 12 _ rfl
   have e13:=ec 13 _ rfl
   have e14:=ec 14 _ rfl
   have e15:=ec 15 _ rfl
   have e16:=ec 16 _ rfl
   have e17:=ec 17 _ rfl
   clear ec
   obtain ⟨-,-,-,-,-,-,-,-,-,-,p10,p11,p12,p13⟩:=zn HP.out
   rw [HOV.out] at p10
   rw [HPL.out] at p13
   go_wp2_with fail
   clear c7 c8 c9 c12 t1 t3 t4 t5 zt zg e7 e8 e9 e12 e13 e14 e15 e16 e17 p10 p11 p12 p13
   refine qo (by kernel_rfl) ?_
   refine z6 [] w3 #[true,true,true,true,true,true,true,true,true,false,false,false] 9 3 rfl ?_
   refine lpq [true,true,true,true,true,true,true,true,true,false,false,false] 0 ((Fr.refl _ _).drew) ?_
   apply qg
   refine ⟨fun wf Ff=>?_,?_⟩
   ·obtain ⟨c7,c8,c9,c12⟩:=(HK.out.up Ff).mc
    obtain ⟨t1,t3,t4,t5,-⟩:=(HK.out.up Ff).tc
    simp only [HZ.out.1,HZ.out.2.1,HZ.out.2.2,xw] at t3 t4 t5
    have k3:=qb t3
    have k4:=qb t4
    have k5:=qb t5
    have k7:=qb c7
    have k9:=qb c9
    have k12:=qb c12
    obtain ⟨-,-,-,-,-,-,-,-,-,-,p10,p11,p12,p13⟩:=zn (Ob.up HP.out Ff)
    have q11:=qb p11
    have q12:=qb p12
    simp only [sel]
    repeat (go_big_quiet_step (fail))
    exact wpQuiet_nil rfl
   refine qx (k:=9) rfl (by kernel_rfl) (fun v1w FN=>?_)
   replace FN:=((Fr.refl [] w3).drew).trans FN
   have HK2:=q9 (HK.out.up FN)
   have HF2:=q9 (HF.out.trans (FrO.of FN (by simp)))
   have HP2:=q9 (Ob.up HP.out FN)
   clear HK HF FN HP
   have HK:=HK2
   have HF:=HF2
   clear HK2 HF2
   have HP:=HP2
   clear HP2
   obtain ⟨c7,c8,c9,c12⟩:=HK.out.mc
   obtain ⟨t1,t3,t4,t5,zt⟩:=HK.out.tc
   simp only [HZ.out.1,HZ.out.2.1,HZ.out.2.2,xw] at t3 t4 t5
   obtain ⟨ec,zg⟩:=HK.out.ec
   have e7:=ec 7 _ rfl
   have e8:=ec 8 _ rfl
   have e9:=ec 9 _ rfl
   have e12:=ec 12 _ rfl
   have e13:=ec 13 _ rfl
   have e14:=ec 14 _ rfl
   have e15:=ec 15 _ rfl
   have e16:=ec 16 _ rfl
   have e17:=ec 17 _ rfl
   clear ec
   obtain ⟨-,-,-,-,-,-,-,-,-,-,p10,p11,p12,p13⟩:=zn HP.out
   rw [HOV.out] at p10
   rw [HPL.out] at p13
   go_wp2_with fail
   clear c7 c8 c9 c12 t1 t3 t4 t5 zt zg e7 e8 e9 e12 e13 e14 e15 e16 e17 p10 p11 p12 p13
   obtain ⟨K0,G0⟩:=HK.out.setN (j:=9) (u:=.int .i64 m.now) (e':={ ve' with alloc:=m.now }) (by decide) (by simp [fEv]) rfl
   have HK2:=q9 K0
   have HF2:=q9 (HF.out.trans G0)
   have HP2:=q9 (show Vb _ pb P' dv wp xp mp from (Ob.other HP.out npg (i:=k * 18+9) (.int .i64 m.now)))
   clear HP
   clear HK HF K0 G0
   have HK:=HK2
   have HF:=HF2
   clear HK2 HF2
   have HP:=HP2
   clear HP2
   have hst:=hsteps
   generalize hve:({ ve' with alloc:=m.now }:Ev)=ve1 at HK
   have hst1:0<=ve1.steps/\ve1.steps<=N:=by rw [<- hve];exact hst
   have HVE:=q9 (show ve1=(if P'.placed=true then { ve' with alloc:=m.now } else ve') by simp [HPL.out,<- hve])
   clear hve hst hsteps
   generalize (v1w.setCell ⟨g,k * 18+9,none⟩ (.int .i64 m.now))=u1w at *
  rotate_left
  all_goals
   refine qo (by kernel_rfl) ?_
   refine z6 [] u1w #[true,true,true,true,true,true,true,true,true,true,true,true,true,false,false,false] 13 3 rfl ?_
   refine lpq [true,true,true,true,true,true,true,true,true,true,true,true,true,false,false,false] 0 ((Fr.refl _ _).drew) ?_
   apply qg
   refine ⟨fun wf Ff=>?_,?_⟩
   ·obtain ⟨c7,c8,c9,c12⟩:=(HK.out.up Ff).mc
    obtain ⟨t1,t3,t4,t5,-⟩:=(HK.out.up Ff).tc
    simp only [HZ.out.1,HZ.out.2.1,HZ.out.2.2,xw] at t3 t4 t5
    have k3:=qb t3
    have k4:=qb t4
    have k5:=qb t5
    have k7:=qb c7
    have k9:=qb c9
    have k12:=qb c12
    obtain ⟨-,-,-,-,-,-,-,-,-,-,p10,p11,p12,p13⟩:=zn (Ob.up HP.out Ff)
    have q11:=qb p11
    have q12:=qb p12
    simp only [sel]
    repeat (go_big_quiet_step (fail))
    exact wpQuiet_nil rfl
   refine qx (k:=13) rfl (by kernel_rfl) (fun v1w FN=>?_)
   replace FN:=((Fr.refl [] u1w).drew).trans FN
   have HK2:=q9 (HK.out.up FN)
   have HF2:=q9 (HF.out.trans (FrO.of FN (by simp)))
   have HP2:=q9 (Ob.up HP.out FN)
   clear HK HF FN HP
   have HK:=HK2
   have HF:=HF2
   clear HK2 HF2
   have HP:=HP2
   clear HP2
   obtain ⟨c7,c8,c9,c12⟩:=HK.out.mc
   obtain ⟨t1,t3,t4,t5,zt⟩:=HK.out.tc
   simp only [HZ.out.1,HZ.out.2.1,HZ.out.2.2,xw] at t3 t4 t5
   obtain ⟨ec,zg⟩:=HK.out.ec
   have e7:=ec 7 _ rfl
   have e8:=ec 8 _ rfl
   have e9:=ec 9 _ rfl
   have e12:=ec 12 _ rfl
   have e13:=ec 13 _ rfl
   have e14:=ec 14 _ rfl
   have e15:=ec 15 _ rfl
   have e16:=ec 16 _ rfl
   have e17:=ec 17 _ rfl
   clear ec
   obtain ⟨-,-,-,-,-,-,-,-,-,-,p10,p11,p12,p13⟩:=zn HP.out
   rw [HOV.out] at p10
   rw [HPL.out] at p13
   go_wp2_with fail
   clear c7 c8 c9 c12 t1 t3 t4 t5 zt zg e7 e8 e9 e12 e13 e14 e15 e16 e17 p10 p11 p12 p13
   obtain ⟨K0,G0⟩:=HK.out.setA (⟨P'.e,false,0,0,0,[]⟩) ⟨none,0,0⟩ (Sq.nil _) (fun h=>absurd rfl h) HK.out.og
   simp only [Sv.v] at K0 G0
   obtain ⟨K1,G1⟩:=K0.setN (j:=8) (u:=.int .i64 (ve1.steps+1)) (e':={ ve1 with ans:=⟨P'.e,false,0,0,0,[]⟩,steps:=ve1.steps+1 }) (by decide) (by simp [fEv]) rfl
   obtain ⟨K2,G2⟩:=K1.rest
   have HK2:=q9 K2
   have HF2:=q9 (HF.out.trans (G0.trans (G1.trans G2)))
   have HP2:=q9 (show Vb _ pb P' dv wp xp mp from (Ob.other (Ob.other (Ob.other (Ob.other (Ob.other (Ob.other (Ob.other (Ob.other HP.out npg (i:=k * 18+12) (.int .i64 P'.e)) npg (i:=k * 18+13) (.bool false)) npg (i:=k * 18+14) (.int .i64 0)) npg (i:=k * 18+15) (.int .i64 0)) npg (i:=k * 18+16) (.int .i64 0)) npg (i:=k * 18+17) (.slice none 0 0)) npg (i:=k * 18+8) (.int .i64 (ve1.steps+1))) npt (i:=n * 6+1) (.bool false)))
   clear HP
   clear HK HF K0 G0 K1 G1 K2 G2
   have HK:=HK2
   have HF:=HF2
   clear HK2 HF2
   have HP:=HP2
   clear HP2
   generalize hve:({ ve1 with ans:=⟨P'.e,false,0,0,0,[]⟩,steps:=ve1.steps+1 }:Ev)=ve2 at HK
   have HVA:=q9 (show ve2 = { ve1 with ans:=qcz P',steps:=ve1.steps+1 } by rw [<- hve];simp [qcz,HER.out])
   clear hve
   generalize ((((((((v1w.setCell ⟨g,k * 18+12,none⟩ (.int .i64 P'.e)).setCell ⟨g,k * 18+13,none⟩ (.bool false)).setCell ⟨g,k * 18+14,none⟩ (.int .i64 0)).setCell ⟨g,k * 18+15,none⟩ (.int .i64 0)).setCell ⟨g,k * 18+16,none⟩ (.int .i64 0)).setCell ⟨g,k * 18+17,none⟩ (.slice none 0 0)).setCell ⟨g,k * 18+8,none⟩ (.int .i64 (ve1.steps+1))).setCell ⟨y.tb,n * 6+1,none⟩ (.bool false))=u2w at *
   refine qo (by kernel_rfl) ?_
   refine z6 [] u2w #[true,true,true,true,true,true,true,true,true,false,false,false] 9 3 rfl ?_
   refine lpq [true,true,true,true,true,true,true,true,true,false,false,false] 0 ((Fr.refl _ _).drew) ?_
   apply qg
   refine ⟨fun wf Ff=>?_,?_⟩
   ·obtain ⟨c7,c8,c9,c12⟩:=(HK.out.up Ff).mc
    obtain ⟨t1,t3,t4,t5,-⟩:=(HK.out.up Ff).tc
    simp only [HZ.out.1,HZ.out.2.1,HZ.out.2.2,xw] at t3 t4 t5
    have k3:=qb t3
    have k4:=qb t4
    have k5:=qb t5
    have k7:=qb c7
    have k9:=qb c9
    have k12:=qb c12
    obtain ⟨-,-,-,-,-,-,-,-,-,-,p10,p11,p12,p13⟩:=zn (Ob.up HP.out Ff)
    have q11:=qb p11
    have q12:=qb p12
    simp only [sel]
    repeat (go_big_quiet_step (fail))
    exact wpQuiet_nil rfl
   refine qx (k:=9) rfl (by kernel_rfl) (fun v6w FN=>?_)
   replace FN:=((Fr.refl [] u2w).drew).trans FN
   have HK2:=q9 (HK.out.up FN)
   have HF2:=q9 (HF.out.trans (FrO.of FN (by simp)))
   have HP2:=q9 (Ob.up HP.out FN)
   clear HK HF FN HP
   have HK:=HK2
   have HF:=HF2
   clear HK2 HF2
   have HP:=HP2
   clear HP2
   obtain ⟨c7,c8,c9,c12⟩:=HK.out.mc
   obtain ⟨t1,t3,t4,t5,zt⟩:=HK.out.tc
   simp only [HZ.out.1,HZ.out.2.1,HZ.out.2.2,xw] at t3 t4 t5
   obtain ⟨ec,zg⟩:=HK.out.ec
   have e7:=ec 7 _ rfl
   have e8:=ec 8 _ rfl
   have e9:=ec 9 _ rfl
   have e12:=ec 12 _ rfl
   have e13:=ec 13 _ rfl
   have e14:=ec 14 _ rfl
   have e15:=ec 15 _ rfl
   have e16:=ec 16 _ rfl
   have e17:=ec 17 _ rfl
   clear ec
   obtain ⟨-,-,-,-,-,-,-,-,-,-,p10,p11,p12,p13⟩:=zn HP.out
   rw [HOV.out] at p10
   rw [HPL.out] at p13
   go_wp2_with fail
   obtain ⟨K0,G0⟩:=HK.out.setN (j:=7) (u:=.int .i64 m.now) (e':={ ve2 with end_:=m.now }) (by decide) (by simp [fEv]) rfl
   have HK2:=q9 K0
   have HF2:=q9 (HF.out.trans G0)
   have HP2:=q9 (show Vb _ pb P' dv wp xp mp from (Ob.other HP.out npg (i:=k * 18+7) (.int .i64 m.now)))
   clear HP
   clear HK HF K0 G0
   have HK:=HK2
   have HF:=HF2
   clear HK2 HF2
   have HP:=HP2
   clear HP2
   go_end0
   have e:X=mkM m s' n k ({ x with p:=some P',busy:=false }) ({ ve2 with end_:=m.now }):=by
    rw [<- HX.out];unfold Mc.steps mkM;simp only [HTH.out,HGD.out,HQ.out.1];simp [HQ.out.2.1,HQ.out.2.2,HOV.out,HVA.out,HVE.out]
   rw [e]
   exact ⟨rfl,⟨_,_,HK.out.h⟩,HF.out⟩
theorem qbm {N0:Nat} {own:Nat->Nat} {w:World} {b:Nat} {m:Mc} {y:Lay} {N:Nat} (hI:MInv N m) (hN:N<=40000) (h:jc N0 own w b m y) (hN0:N0<=w.heap.size) {n k:Nat} {x:Th} {ve:Ev} (hx:m.t[n]? = some x) (hv:m.e[k]? = some ve) (P:Gt) (hp0:x.p=none) (hp:x.g=some P) :
  Calls Tryz.prog 77 #[.pointer (some ⟨b,0,none⟩),.int .i64 n,.int .i64 k] w (Vz N0 w b (m.steps (n:Int) k) (.tuple #[])):=by
 have hn:=(List.getElem?_eq_some_iff.1 hx).1
 obtain ⟨z,hz⟩:∃ z,y.ts[n]? = some z:=⟨y.ts[n]'(by rw [h.thl];exact hn),List.getElem?_eq_getElem _⟩
 obtain ⟨⟨ve',vs⟩,hV,rfl⟩:=h.ev_at hv
 simp only at hv
 obtain ⟨B,hth,hBc⟩:=h.thr n x z hx hz
 obtain ⟨hIs,⟨_,_,ep,_⟩ | ⟨P0,pb,eg,ep,es,z1,z2,z3,hP⟩ | ⟨_,_,_,ep,_⟩ | ⟨_,ep,_⟩⟩:=hth
 ·rw [hp0] at ep;cases ep
 rotate_left
 ·rw [hp] at ep;cases ep
 ·rw [hp] at ep;cases ep
 obtain rfl:P0=P:=by rw [hp] at ep;exact (qi ep).symm
 obtain ⟨g,c,hev,-,-,-⟩:=h.ev_open hV
 generalize hX:m.steps (n:Int) k=X
 have HX:=q9 hX
 have HI:=q9 hI
 have hsteps:=hI.es ve' (List.mem_of_getElem? hv)
 have HTH:=q9 (show m.th (n:Int)=x by unfold Mc.th;rw [Int.toNat_natCast,List.getD_eq_getElem?_getD,hx];rfl)
 have HGD:=q9 (show m.e.getD k q9y=ve' by rw [List.getD_eq_getElem?_getD,hv];rfl)
 clear hX hI
 have hpB:y.p∉B:=fun hi=>by have:=hBc _ hi;have:=h.cp;omega
 have hqB:y.q∉B:=fun hi=>by have:=hBc _ hi;have:=h.cq;omega
 have hpR:y.p∉y.R:=fun hi=>by have:=h.R0 _ hi;have:=h.cp;omega
 have hqR:y.q∉y.R:=fun hi=>by have:=h.R0 _ hi;have:=h.cq;omega
 obtain ⟨-,-,-,-,-,-,-,c7,c8,-,-,-,-⟩:=zw h.ob
 unfold Lay.tv at c8
 have t3:=xh h.th hz (j:=3) (by decide) rfl
 have t4:=xh h.th hz (j:=4) (by decide) rfl
 have t5:=xh h.th hz (j:=5) (by decide) rfl
 rw [z1] at t3
 rw [z2] at t4
 rw [z3] at t5
 unfold xw at t3 t4 t5
 simp only at t3 t4 t5
 have hlz:(n:Int)<(y.ts.length:Int):=by rw [h.thl];omega
 have HH:=q9 (qc hx (qc hz (qc hV (qc hv (qc hev (qc hp (qc hIs (qc eg es))))))))
 have hklz:(k:Int)<(y.es.length:Int):=by have:=(List.getElem?_eq_some_iff.1 hV).1;omega
 have HBC:=q9 hBc
 have HZ:=q9 (qc z1 (qc z2 z3))
 have HHP:=q9 hP
 have HM:=q9 h
 have HP0:=q9 hp0
 have HNN:=q9 (qc hpB (qc hqB (qc hpR hqR)))
 clear hx hz hV hv hev hp hIs eg es hBc z1 z2 z3 ep hP h hpB hqB hpR hqR hn hp0
 go_enter Tryz.func77,Tryz.ntmps77
 go_wp2_with fail
 refine qo (by kernel_rfl) ?_
 refine z6 [] w #[true,true,true,true,true,true,true,true,false,false] 8 2 rfl ?_
 refine yx [true,true,true,true,true,true,true,true,false,false] 0 (n:=163) (listed':=#[true,true,true,true,true,true,true,true,false,false]) rfl (by kernel_rfl) (by kernel_rfl) (by kernel_rfl) (by kernel_rfl) rfl (by kernel_rfl) (fun _ _ d _ _ h=>by cases d <;> exact h) ((Fr.refl _ w).drew) ?_
 apply qg
 refine ⟨fun wf Ff=>?_,?_⟩
 ·have k7:=qb (Ff.cell c7 (by simp))
  have k3:=qb (Ff.cell t3 (by simp))
  have k4:=qb (Ff.cell t4 (by simp))
  have k5:=qb (Ff.cell t5 (by simp))
  simp only [sel]
  repeat (go_big_quiet_step (fail))
  exact wpQuiet_nil rfl
 refine qx (k:=8) rfl (by kernel_rfl) (fun w2 F2=>?_)
 replace F2:=(Fr.refl [] w).drew.trans F2
 obtain ⟨hx,hz,hV,hv,hev,hp,hIs,eg,es⟩:=HH.out
 obtain ⟨hpB,hqB,hpR,hqR⟩:=HNN.out
 obtain ⟨z1,z2,z3⟩:=HZ.out
 have hp0:=HP0.out
 have M2:=HM.out.up F2
 have hP:=HHP.out
 go_wp2_with fail
 refine (q7r P0 ((HI.out.th n x hx).g P0 hp).1 B pb y.p y.q m.a w2 (hP.kept F2 (by simp)) M2.ar hpB hqB).mono ?_;rintro e w3 ⟨rfl,⟨B',hP3,hBn⟩,hA3,F3⟩
 obtain ⟨S1,S2⟩:=M2.stepT (qh hN0 F2.size) hz HBC.out F3 hA3 (x':={ x with g:=some (P0.step m.a).1 }) ⟨hIs,.inr (.inl ⟨_,pb,eg,rfl,es,z1,z2,z3,hP3⟩)⟩ hBn
 have hB'c:∀ k,k∈B'->xx own w2.heap.size (n+6) k=n+6:=fun k hk=>by
  rcases hBn k hk with e | e
  ·rw [vu]
   ·exact HBC.out k e
   exact (hP.kept F2 (by simp)).lt k e
  ·exact yg e
 generalize xx own w2.heap.size (n+6)=own2 at *
 have HF:=q9 ((FrO.of (N0:=N0) F2 (by simp)).trans S2)
 clear S2
 generalize hP1:(P0.step m.a).1=P' at *
 generalize hP2:(P0.step m.a).2=s' at *
 have HQ:=q9 (qc hp0 (qc hP1 (qc hP2 hp)))
 have HK:=q9 (MK.of S1 hz hV hv hev)
 have HP:=q9 hP3
 have HOK:=q9 (show q78 P'/\(P'.over=true->P'.l≠none) by rw [<- hP1];exact ⟨((HI.out.th n x hx).g P0 hp).1.step _,q4q ((HI.out.th n x hx).g P0 hp).2 _⟩)
 have hbg:=HK.out.ne
 obtain ⟨nbg,nbt,ntg⟩:=hbg
 have nbg':¬ g=b:=fun e=>nbg e.symm
 have nbt':¬ y.tb=b:=fun e=>nbt e.symm
 have ntg':¬ g=y.tb:=fun e=>ntg e.symm
 clear S1 hP1 hP2 HH HM HBC HNN HHP hx hz hV hv hev hp hIs eg es hpB hqB hpR hqR z1 z2 z3 M2 hP F2 F3 hA3 hBn hB'c c7 c8 t3 t4 t5 hP3 hp0
 cases hov:P'.over
 ·have HOV:=q9 hov
  clear hov
  obtain ⟨c7,c8,c9,c12⟩:=HK.out.mc
  obtain ⟨t1,t3,t4,t5,zt⟩:=HK.out.tc
  simp only [HZ.out.1,HZ.out.2.1,HZ.out.2.2,xw] at t3 t4 t5
  obtain ⟨ec,zg⟩:=HK.out.ec
  have e7:=ec 7 _ rfl
  have e8:=ec 8 _ rfl
  have e9:=ec 9 _ rfl
  have e12:=ec 12 _ rfl
  have e13:=ec 13 _ rfl
  have e14:=ec 14 _ rfl
  have e15:=ec 15 _ rfl
  have e16:=ec 16 _ rfl
  have e17:=ec 17 _ rfl
  clear ec
  go_wp2_with fail
  clear c7 c8 c9 c12 t1 t3 t4 t5 zt zg e7 e8 e9 e12 e13 e14 e15 e16 e17
  refine qo (by kernel_rfl) ?_
  refine z6 [] w3 #[true,true,true,true,true,true,true,true,true,true,false,false,false] 10 3 rfl ?_
  refine lpq [true,true,true,true,true,true,true,true,true,true,false,false,false] 0 ((Fr.refl _ _).drew) ?_
  apply qg
  refine ⟨fun wf Ff=>?_,?_⟩
  ·obtain ⟨c7,c8,c9,c12⟩:=(HK.out.up Ff).mc
   obtain ⟨t1,t3,t4,t5,-⟩:=(HK.out.up Ff).tc
   simp only [HZ.out.1,HZ.out.2.1,HZ.out.2.2,xw] at t3 t4 t5
   have k3:=qb t3
   have k4:=qb t4
   have k5:=qb t5
   have k7:=qb c7
   have k9:=qb c9
   have k12:=qb c12
   simp only [sel]
   repeat (go_big_quiet_step ((go_at_call 129;exact Calls.in_ (Y8 P' HOK.out.1 HOK.out.2 _ pb _ ((HP.out.kept Ff (by simp)).kept (In.fr _) (by simp))))))
   exact wpQuiet_nil rfl
  refine qx (k:=10) rfl (by kernel_rfl) (fun v1w FN=>?_)
  replace FN:=((Fr.refl [] w3).drew).trans FN
  have HK2:=q9 (HK.out.up FN)
  have HF2:=q9 (HF.out.trans (FrO.of FN (by simp)))
  clear HK HF FN
  have HK:=HK2
  have HF:=HF2
  clear HK2 HF2
  obtain ⟨c7,c8,c9,c12⟩:=HK.out.mc
  obtain ⟨t1,t3,t4,t5,zt⟩:=HK.out.tc
  simp only [HZ.out.1,HZ.out.2.1,HZ.out.2.2,xw] at t3 t4 t5
  obtain ⟨ec,zg⟩:=HK.out.ec
  have e7:=ec 7 _ rfl
  have e8:=ec 8 _ rfl
  have e9:=ec 9 _ rfl
  have e12:=ec 12 _ rfl
  have e13:=ec 13 _ rfl
  have e14:=ec 14 _ rfl
  have e15:=ec 15 _ rfl
  have e16:=ec 16 _ rfl
  have e17:=ec 17 _ rfl
  clear ec
  unfold Yj
  go_wp2_with fail
  obtain ⟨K0,G0⟩:=HK.out.setA (P'.answer) ⟨none,0,0⟩ (by rw [Vj];exact Sq.nil _) (fun h=>absurd (Vj _) h) HK.out.og
  simp only [Sv.v] at K0 G0
  obtain ⟨K1,G1⟩:=K0.setN (j:=8) (u:=.int .i64 (ve'.steps+1)) (e':={ ve' with ans:=P'.answer,steps:=ve'.steps+1 }) (by decide) (by simp [fEv]) rfl
  have HK2:=q9 K1
  have HF2:=q9 (HF.out.trans (G0.trans G1))
  clear HK HF K0 G0 K1 G1
  have HK:=HK2
  have HF:=HF2
  clear HK2 HF2
  go_end0
  have e:X=mkM m s' n k ({ x with g:=some P' }) ({ ve' with ans:=P'.answer,steps:=ve'.steps+1 }):=by
   rw [<- HX.out];unfold Mc.steps mkM;simp only [HTH.out,HGD.out,HQ.out.1];simp [HQ.out.2.1,HQ.out.2.2,HOV.out]
  rw [e]
  exact ⟨rfl,⟨_,_,HK.out.h⟩,HF.out⟩
 ·have HOV:=q9 hov
  clear hov
  obtain ⟨c7,c8,c9,c12⟩:=HK.out.mc
  obtain ⟨t1,t3,t4,t5,zt⟩:=HK.out.tc
  simp only [HZ.out.1,HZ.out.2.1,HZ.out.2.2,xw] at t3 t4 t5
  obtain ⟨ec,zg⟩:=HK.out.ec
  have e7:=ec 7 _ rfl
  have e8:=ec 8 _ rfl
  have e9:=ec 9 _ rfl
  have e12:=ec 12 _ rfl
  have e13:=ec 13 _ rfl
  have e14:=ec 14 _ rfl
  have e15:=ec 15 _ rfl
  have e16:=ec 16 _ rfl
  have e17:=ec 17 _ rfl
  clear ec
  go_wp2_with fail
  clear c7 c8 c9 c12 t1 t3 t4 t5 zt zg e7 e8 e9 e12 e13 e14 e15 e16 e17
  refine qo (by kernel_rfl) ?_
  refine z6 [] w3 #[true,true,true,true,true,true,true,true,true,true,false,false,false] 10 3 rfl ?_
  refine lpq [true,true,true,true,true,true,true,true,true,true,false,false,false] 0 ((Fr.refl _ _).drew) ?_
  apply qg
  refine ⟨fun wf Ff=>?_,?_⟩
  ·obtain ⟨c7,c8,c9,c12⟩:=(HK.out.up Ff).mc
   obtain ⟨t1,t3,t4,t5,-⟩:=(HK.out.up Ff).tc
   simp only [HZ.out.1,HZ.out.2.1,HZ.out.2.2,xw] at t3 t4 t5
   have k3:=qb t3
   have k4:=qb t4
   have k5:=qb t5
   have k7:=qb c7
   have k9:=qb c9
   have k12:=qb c12
   simp only [sel]
   repeat (go_big_quiet_step ((go_at_call 129;exact Calls.in_ (Y8 P' HOK.out.1 HOK.out.2 _ pb _ ((HP.out.kept Ff (by simp)).kept (In.fr _) (by simp))))))
   exact wpQuiet_nil rfl
  refine qx (k:=10) rfl (by kernel_rfl) (fun v1w FN=>?_)
  replace FN:=((Fr.refl [] w3).drew).trans FN
  have HK2:=q9 (HK.out.up FN)
  have HF2:=q9 (HF.out.trans (FrO.of FN (by simp)))
  clear HK HF FN
  have HK:=HK2
  have HF:=HF2
  clear HK2 HF2
  obtain ⟨c7,c8,c9,c12⟩:=HK.out.mc
  obtain ⟨t1,t3,t4,t5,zt⟩:=HK.out.tc
  simp only [HZ.out.1,HZ.out.2.1,HZ.out.2.2,xw] at t3 t4 t5
  obtain ⟨ec,zg⟩:=HK.out.ec
  have e7:=ec 7 _ rfl
  have e8:=ec 8 _ rfl
  have e9:=ec 9 _ rfl
  have e12:=ec 12 _ rfl
  have e13:=ec 13 _ rfl
  have e14:=ec 14 _ rfl
  have e15:=ec 15 _ rfl
  have e16:=ec 16 _ rfl
  have e17:=ec 17 _ rfl
  clear ec
  unfold Yj
  go_wp2_with fail
  clear c7 c8 c9 c12 t1 t3 t4 t5 zt zg e7 e8 e9 e12 e13 e14 e15 e16 e17
  obtain ⟨K0,G0⟩:=HK.out.setA (P'.answer) ⟨none,0,0⟩ (by rw [Vj];exact Sq.nil _) (fun h=>absurd (Vj _) h) HK.out.og
  simp only [Sv.v] at K0 G0
  obtain ⟨K1,G1⟩:=K0.setN (j:=8) (u:=.int .i64 (ve'.steps+1)) (e':={ ve' with ans:=P'.answer,steps:=ve'.steps+1 }) (by decide) (by simp [fEv]) rfl
  obtain ⟨K2,G2⟩:=K1.rest
  have HK2:=q9 K2
  have HF2:=q9 (HF.out.trans (G0.trans (G1.trans G2)))
  clear HK HF K0 G0 K1 G1 K2 G2
  have HK:=HK2
  have HF:=HF2
  clear HK2 HF2
  generalize ((((((((v1w.setCell ⟨g,k * 18+12,none⟩ (.int .i64 P'.answer.code)).setCell ⟨g,k * 18+13,none⟩ (.bool P'.answer.found)).setCell ⟨g,k * 18+14,none⟩ (.int .i64 P'.answer.val)).setCell ⟨g,k * 18+15,none⟩ (.int .i64 P'.answer.writer)).setCell ⟨g,k * 18+16,none⟩ (.int .i64 P'.answer.version)).setCell ⟨g,k * 18+17,none⟩ (.slice none 0 0)).setCell ⟨g,k * 18+8,none⟩ (.int .i64 (ve'.steps+1))).setCell ⟨y.tb,n * 6+1,none⟩ (.bool false))=v2w at *
  refine qo (by kernel_rfl) ?_
  refine z6 [] v2w #[true,true,true,true,true,true,true,true,true,false,false,false] 9 3 rfl ?_
  refine lpq [true,true,true,true,true,true,true,true,true,false,false,false] 0 ((Fr.refl _ _).drew) ?_
  apply qg
  refine ⟨fun wf Ff=>?_,?_⟩
  ·obtain ⟨c7,c8,c9,c12⟩:=(HK.out.up Ff).mc
   obtain ⟨t1,t3,t4,t5,-⟩:=(HK.out.up Ff).tc
   simp only [HZ.out.1,HZ.out.2.1,HZ.out.2.2,xw] at t3 t4 t5
   have k3:=qb t3
   have k4:=qb t4
   have k5:=qb t5
   have k7:=qb c7
   have k9:=qb c9
   have k12:=qb c12
   simp only [sel]
   repeat (go_big_quiet_step (fail))
   exact wpQuiet_nil rfl
  refine qx (k:=9) rfl (by kernel_rfl) (fun v3w FN=>?_)
  replace FN:=((Fr.refl [] v2w).drew).trans FN
  have HK2:=q9 (HK.out.up FN)
  have HF2:=q9 (HF.out.trans (FrO.of FN (by simp)))
  clear HK HF FN
  have HK:=HK2
  have HF:=HF2
  clear HK2 HF2
  obtain ⟨c7,c8,c9,c12⟩:=HK.out.mc
  obtain ⟨t1,t3,t4,t5,zt⟩:=HK.out.tc
  simp only [HZ.out.1,HZ.out.2.1,HZ.out.2.2,xw] at t3 t4 t5
  obtain ⟨ec,zg⟩:=HK.out.ec
  have e7:=ec 7 _ rfl
  have e8:=ec 8 _ rfl
  have e9:=ec 9 _ rfl
  have e12:=ec 12 _ rfl
  have e13:=ec 13 _ rfl
  have e14:=ec 14 _ rfl
  have e15:=ec 15 _ rfl
  have e16:=ec 16 _ rfl
  have e17:=ec 17 _ rfl
  clear ec
  go_wp2_with fail
  obtain ⟨K0,G0⟩:=HK.out.setN (j:=7) (u:=.int .i64 m.now) (e':={ ve' with ans:=P'.answer,steps:=ve'.steps+1,end_:=m.now }) (by decide) (by simp [fEv]) rfl
  have HK2:=q9 K0
  have HF2:=q9 (HF.out.trans G0)
  clear HK HF K0 G0
  have HK:=HK2
  have HF:=HF2
  clear HK2 HF2
  go_end0
  have e:X=mkM m s' n k ({ x with g:=some P',busy:=false }) ({ ve' with ans:=P'.answer,steps:=ve'.steps+1,end_:=m.now }):=by
   rw [<- HX.out];unfold Mc.steps mkM;simp only [HTH.out,HGD.out,HQ.out.1];simp [HQ.out.2.1,HQ.out.2.2,HOV.out]
  rw [e]
  exact ⟨rfl,⟨_,_,HK.out.h⟩,HF.out⟩
theorem qb6 {N0:Nat} {own:Nat->Nat} {w:World} {b:Nat} {m:Mc} {y:Lay} {N:Nat} (hI:MInv N m) (hN:N<=40000) (h:jc N0 own w b m y) (hN0:N0<=w.heap.size) {n k:Nat} {x:Th} {ve:Ev} (hx:m.t[n]? = some x) (hv:m.e[k]? = some ve) (P:Sn) (hp0:x.p=none) (hg0:x.g=none) (hp:x.s=some P) :
  Calls Tryz.prog 77 #[.pointer (some ⟨b,0,none⟩),.int .i64 n,.int .i64 k] w (Vz N0 w b (m.steps (n:Int) k) (.tuple #[])):=by
 have hn:=(List.getElem?_eq_some_iff.1 hx).1
 obtain ⟨z,hz⟩:∃ z,y.ts[n]? = some z:=⟨y.ts[n]'(by rw [h.thl];exact hn),List.getElem?_eq_getElem _⟩
 obtain ⟨⟨ve',vs⟩,hV,rfl⟩:=h.ev_at hv
 simp only at hv
 obtain ⟨B,hth,hBc⟩:=h.thr n x z hx hz
 obtain ⟨hIs,⟨_,_,ep,_⟩ | ⟨_,_,_,ep,_⟩ | ⟨P0,pb,eg,es,ep,z1,z2,z3,hP⟩ | ⟨_,_,ep,_⟩⟩:=hth
 ·rw [hp0] at ep;cases ep
 ·rw [hg0] at ep;cases ep
 rotate_left
 ·rw [hp] at ep;cases ep
 obtain rfl:P0=P:=by rw [hp] at ep;exact (qi ep).symm
 obtain ⟨g,c,hev,-,-,-⟩:=h.ev_open hV
 generalize hX:m.steps (n:Int) k=X
 have HX:=q9 hX
 have HI:=q9 hI
 have hsteps:=hI.es ve' (List.mem_of_getElem? hv)
 have HTH:=q9 (show m.th (n:Int)=x by unfold Mc.th;rw [Int.toNat_natCast,List.getD_eq_getElem?_getD,hx];rfl)
 have HGD:=q9 (show m.e.getD k q9y=ve' by rw [List.getD_eq_getElem?_getD,hv];rfl)
 clear hX hI
 have hpB:y.p∉B:=fun hi=>by have:=hBc _ hi;have:=h.cp;omega
 have hqB:y.q∉B:=fun hi=>by have:=hBc _ hi;have:=h.cq;omega
 have hpR:y.p∉y.R:=fun hi=>by have:=h.R0 _ hi;have:=h.cp;omega
 have hqR:y.q∉y.R:=fun hi=>by have:=h.R0 _ hi;have:=h.cq;omega
 obtain ⟨-,-,-,-,-,-,-,c7,c8,-,-,-,-⟩:=zw h.ob
 unfold Lay.tv at c8
 have t3:=xh h.th hz (j:=3) (by decide) rfl
 have t4:=xh h.th hz (j:=4) (by decide) rfl
 have t5:=xh h.th hz (j:=5) (by decide) rfl
 rw [z1] at t3
 rw [z2] at t4
 rw [z3] at t5
 unfold xw at t3 t4 t5
 simp only at t3 t4 t5
 have hlz:(n:Int)<(y.ts.length:Int):=by rw [h.thl];omega
 have HH:=q9 (qc hx (qc hz (qc hV (qc hv (qc hev (qc hp (qc hIs (qc eg es))))))))
 have hklz:(k:Int)<(y.es.length:Int):=by have:=(List.getElem?_eq_some_iff.1 hV).1;omega
 have HBC:=q9 hBc
 have HZ:=q9 (qc z1 (qc z2 z3))
 have HHP:=q9 hP
 have HM:=q9 h
 have HP0:=q9 hp0
 have HG0:=q9 hg0
 have HNN:=q9 (qc hpB (qc hqB (qc hpR hqR)))
 clear hx hz hV hv hev hp hIs eg es hBc z1 z2 z3 ep hP h hpB hqB hpR hqR hn hp0 hg0
 go_enter Tryz.func77,Tryz.ntmps77
 go_wp2_with fail
 refine qo (by kernel_rfl) ?_
 refine z6 [] w #[true,true,true,true,true,true,true,true,false,false] 8 2 rfl ?_
 refine yx [true,true,true,true,true,true,true,true,false,false] 0 (n:=163) (listed':=#[true,true,true,true,true,true,true,true,false,false]) rfl (by kernel_rfl) (by kernel_rfl) (by kernel_rfl) (by kernel_rfl) rfl (by kernel_rfl) (fun _ _ d _ _ h=>by cases d <;> exact h) ((Fr.refl _ w).drew) ?_
 apply qg
 refine ⟨fun wf Ff=>?_,?_⟩
 ·have k7:=qb (Ff.cell c7 (by simp))
  have k3:=qb (Ff.cell t3 (by simp))
  have k4:=qb (Ff.cell t4 (by simp))
  have k5:=qb (Ff.cell t5 (by simp))
  simp only [sel]
  repeat (go_big_quiet_step (fail))
  exact wpQuiet_nil rfl
 refine qx (k:=8) rfl (by kernel_rfl) (fun w2 F2=>?_)
 replace F2:=(Fr.refl [] w).drew.trans F2
 obtain ⟨hx,hz,hV,hv,hev,hp,hIs,eg,es⟩:=HH.out
 obtain ⟨hpB,hqB,hpR,hqR⟩:=HNN.out
 obtain ⟨z1,z2,z3⟩:=HZ.out
 have hp0:=HP0.out
 have hg0:=HG0.out
 have M2:=HM.out.up F2
 have hP:=HHP.out
 go_wp2_with fail
 refine (q62 P0 N ((HI.out.th n x hx).s P0 hp) (by omega) B pb y.p y.q m.a w2 (hP.kept F2 (by simp)) M2.ar hpB hqB).mono ?_;rintro e w3 ⟨rfl,⟨B',hP3,hBn⟩,hA3,F3⟩
 obtain ⟨S1,S2⟩:=M2.stepT (qh hN0 F2.size) hz HBC.out F3 hA3 (x':={ x with s:=some (P0.step m.a).1 }) ⟨hIs,.inr (.inr (.inl ⟨_,pb,eg,es,rfl,z1,z2,z3,hP3⟩))⟩ hBn
 have hB'c:∀ k,k∈B'->xx own w2.heap.size (n+6) k=n+6:=fun k hk=>by
  rcases hBn k hk with e | e
  ·rw [vu]
   ·exact HBC.out k e
   exact (hP.kept F2 (by simp)).lt k e
  ·exact yg e
 generalize xx own w2.heap.size (n+6)=own2 at *
 have HF:=q9 ((FrO.of (N0:=N0) F2 (by simp)).trans S2)
 clear S2
 generalize hP1:(P0.step m.a).1=P' at *
 generalize hP2:(P0.step m.a).2=s' at *
 have HQ:=q9 (qc hp0 (qc hP1 (qc hP2 (qc hg0 hp))))
 have HK:=q9 (MK.of S1 hz hV hv hev)
 have HP:=q9 hP3
 have HOK:=q9 (show P'.items.length<=900000 by have:=(((HI.out.th n x hx).s P0 hp).step m.a).n;rw [hP1] at this;omega)
 have hbg:=HK.out.ne
 obtain ⟨nbg,nbt,ntg⟩:=hbg
 have nbg':¬ g=b:=fun e=>nbg e.symm
 have nbt':¬ y.tb=b:=fun e=>nbt e.symm
 have ntg':¬ g=y.tb:=fun e=>ntg e.symm
 clear S1 hP1 hP2 HH HM HBC HNN HHP hx hz hV hv hev hp hIs eg es hpB hqB hpR hqR z1 z2 z3 M2 hP F2 F3 hA3 hBn hB'c c7 c8 t3 t4 t5 hP3 hp0 hg0
 by_cases hov:P'.line=0
 ·rw [show decide (P'.line=0)=true by simpa using hov]
  have HOV:=q9 hov
  clear hov
  obtain ⟨c7,c8,c9,c12⟩:=HK.out.mc
  obtain ⟨t1,t3,t4,t5,zt⟩:=HK.out.tc
  simp only [HZ.out.1,HZ.out.2.1,HZ.out.2.2,xw] at t3 t4 t5
  obtain ⟨ec,zg⟩:=HK.out.ec
  have e7:=ec 7 _ rfl
  have e8:=ec 8 _ rfl
  have e9:=ec 9 _ rfl
  have e12:=ec 12 _ rfl
  have e13:=ec 13 _ rfl
  have e14:=ec 14 _ rfl
  have e15:=ec 15 _ rfl
  have e16:=ec 16 _ rfl
  have e17:=ec 17 _ rfl
  clear ec
  go_wp2_with fail
  clear c7 c8 c9 c12 t1 t3 t4 t5 zt zg e7 e8 e9 e12 e13 e14 e15 e16 e17
  refine qo (by kernel_rfl) ?_
  refine z6 [] w3 #[true,true,true,true,true,true,true,true,true,true,false,false,false] 10 3 rfl ?_
  refine lpq [true,true,true,true,true,true,true,true,true,false,false,false,false] 1 ((Fr.refl _ _).drew) ?_
  apply qg
  refine ⟨fun wf Ff=>?_,?_⟩
  ·obtain ⟨c7,c8,c9,c12⟩:=(HK.out.up Ff).mc
   obtain ⟨t1,t3,t4,t5,-⟩:=(HK.out.up Ff).tc
   simp only [HZ.out.1,HZ.out.2.1,HZ.out.2.2,xw] at t3 t4 t5
   have k3:=qb t3
   have k4:=qb t4
   have k5:=qb t5
   have k7:=qb c7
   have k9:=qb c9
   have k12:=qb c12
   simp only [sel]
   repeat (go_big_quiet_step (fail))
   exact wpQuiet_nil rfl
  refine loq 9 (fun w4 F4=>?_)
  replace F4:=(Fr.refl [] w3).drew.trans F4
  go_wp2_with fail
  refine (Xp P' HOK.out _ pb w4 (HP.out.kept F4 (by simp))).mono ?_;rintro e w5 ⟨⟨pv,rfl,hpr⟩,F5⟩
  obtain ⟨pa,pc,rfl,-,-,-⟩:=id (Sq.own (f:=fQ) hpr)
  have HFR:=q9 (F4.trans F5)
  have HK2:=q9 ((HK.out.xx 0 (qh hN0 HF.out.size)).up HFR.out)
  have hcol:∀ k,k∈(Value.slice pa P'.answer.pairs.length pc).ownBlock.toList->xx own2 w3.heap.size 0 k=0:=fun k hk=>yg (qh F4.size (z8 hpr k hk))
  have HF2:=q9 (HF.out.trans (FrO.of HFR.out (by simp)))
  generalize xx own2 w3.heap.size 0=own3 at *
  have HPR:=q9 (qc (Sq.own (f:=fQ) hpr) hcol)
  clear HK HF HP F4 F5 hpr hcol
  have HK:=HK2
  have HF:=HF2
  clear HK2 HF2
  generalize hpl:P'.answer.pairs.length=pl at *
  have HPN:=q9 hpl
  clear hpl
  unfold Yj
  go_wp2_with fail
  refine ql ⟨HFR.out,?_⟩
  refine qx (k:=10) rfl (by kernel_rfl) (fun v1w FN=>?_)
  replace FN:=((Fr.refl [] w5)).trans FN
  have HK2:=q9 (HK.out.up FN)
  have HF2:=q9 (HF.out.trans (FrO.of FN (by simp)))
  have HPS:=q9 (HPR.out.1.up FN)
  clear HK HF FN
  have HK:=HK2
  have HF:=HF2
  clear HK2 HF2
  obtain ⟨c7,c8,c9,c12⟩:=HK.out.mc
  obtain ⟨t1,t3,t4,t5,zt⟩:=HK.out.tc
  simp only [HZ.out.1,HZ.out.2.1,HZ.out.2.2,xw] at t3 t4 t5
  obtain ⟨ec,zg⟩:=HK.out.ec
  have e7:=ec 7 _ rfl
  have e8:=ec 8 _ rfl
  have e9:=ec 9 _ rfl
  have e12:=ec 12 _ rfl
  have e13:=ec 13 _ rfl
  have e14:=ec 14 _ rfl
  have e15:=ec 15 _ rfl
  have e16:=ec 16 _ rfl
  have e17:=ec 17 _ rfl
  clear ec
  go_wp2_with fail
  clear c7 c8 c9 c12 t1 t3 t4 t5 zt zg e7 e8 e9 e12 e13 e14 e15 e16 e17
  obtain ⟨K0,G0⟩:=HK.out.setA (P'.answer) ⟨pa,pl,pc⟩ HPS.out (fun _=>HPR.out.2) HK.out.og
  simp only [Sv.v] at K0 G0
  obtain ⟨K1,G1⟩:=K0.setN (j:=8) (u:=.int .i64 (ve'.steps+1)) (e':={ ve' with ans:=P'.answer,steps:=ve'.steps+1 }) (by decide) (by simp [fEv]) rfl
  obtain ⟨K2,G2⟩:=K1.rest
  have HK2:=q9 K2
  have HF2:=q9 (HF.out.trans (G0.trans (G1.trans G2)))
  clear HK HF K0 G0 K1 G1 K2 G2
  have HK:=HK2
  have HF:=HF2
  clear HK2 HF2
  generalize ((((((((v1w.setCell ⟨g,k * 18+12,none⟩ (.int .i64 P'.answer.code)).setCell ⟨g,k * 18+13,none⟩ (.bool P'.answer.found)).setCell ⟨g,k * 18+14,none⟩ (.int .i64 P'.answer.val)).setCell ⟨g,k * 18+15,none⟩ (.int .i64 P'.answer.writer)).setCell ⟨g,k * 18+16,none⟩ (.int .i64 P'.answer.version)).setCell ⟨g,k * 18+17,none⟩ (.slice pa pl pc)).setCell ⟨g,k * 18+8,none⟩ (.int .i64 (ve'.steps+1))).setCell ⟨y.tb,n * 6+1,none⟩ (.bool false))=v2w at *
  refine qo (by kernel_rfl) ?_
  refine z6 [] v2w #[true,true,true,true,true,true,true,true,true,false,false,false] 9 3 rfl ?_
  refine lpq [true,true,true,true,true,true,true,true,true,false,false,false] 0 ((Fr.refl _ _).drew) ?_
  apply qg
  refine ⟨fun wf Ff=>?_,?_⟩
  ·obtain ⟨c7,c8,c9,c12⟩:=(HK.out.up Ff).mc
   obtain ⟨t1,t3,t4,t5,-⟩:=(HK.out.up Ff).tc
   simp only [HZ.out.1,HZ.out.2.1,HZ.out.2.2,xw] at t3 t4 t5
   have k3:=qb t3
   have k4:=qb t4
   have k5:=qb t5
   have k7:=qb c7
   have k9:=qb c9
   have k12:=qb c12
   simp only [sel]
   repeat (go_big_quiet_step (fail))
   exact wpQuiet_nil rfl
  refine qx (k:=9) rfl (by kernel_rfl) (fun v3w FN=>?_)
  replace FN:=((Fr.refl [] v2w).drew).trans FN
  have HK2:=q9 (HK.out.up FN)
  have HF2:=q9 (HF.out.trans (FrO.of FN (by simp)))
  clear HK HF FN
  have HK:=HK2
  have HF:=HF2
  clear HK2 HF2
  obtain ⟨c7,c8,c9,c12⟩:=HK.out.mc
  obtain ⟨t1,t3,t4,t5,zt⟩:=HK.out.tc
  simp only [HZ.out.1,HZ.out.2.1,HZ.out.2.2,xw] at t3 t4 t5
  obtain ⟨ec,zg⟩:=HK.out.ec
  have e7:=ec 7 _ rfl
  have e8:=ec 8 _ rfl
  have e9:=ec 9 _ rfl
  have e12:=ec 12 _ rfl
  have e13:=ec 13 _ rfl
  have e14:=ec 14 _ rfl
  have e15:=ec 15 _ rfl
  have e16:=ec 16 _ rfl
  have e17:=ec 17 _ rfl
  clear ec
  go_wp2_with fail
  obtain ⟨K0,G0⟩:=HK.out.setN (j:=7) (u:=.int .i64 m.now) (e':={ ve' with ans:=P'.answer,steps:=ve'.steps+1,end_:=m.now }) (by decide) (by simp [fEv]) rfl
  have HK2:=q9 K0
  have HF2:=q9 (HF.out.trans G0)
  clear HK HF K0 G0
  have HK:=HK2
  have HF:=HF2
  clear HK2 HF2
  go_end0
  have e:X=mkM m s' n k ({ x with s:=some P',busy:=false }) ({ ve' with ans:=P'.answer,steps:=ve'.steps+1,end_:=m.now }):=by
   rw [<- HX.out];unfold Mc.steps mkM;simp only [HTH.out,HGD.out,HQ.out.1];simp [HQ.out.2.1,HQ.out.2.2,HOV.out]
  rw [e]
  exact ⟨rfl,⟨_,_,HK.out.h⟩,HF.out⟩
 ·rw [show decide (P'.line=0)=false by simpa using hov]
  have HOV:=q9 hov
  clear hov
  obtain ⟨c7,c8,c9,c12⟩:=HK.out.mc
  obtain ⟨t1,t3,t4,t5,zt⟩:=HK.out.tc
  simp only [HZ.out.1,HZ.out.2.1,HZ.out.2.2,xw] at t3 t4 t5
  obtain ⟨ec,zg⟩:=HK.out.ec
  have e7:=ec 7 _ rfl
  have e8:=ec 8 _ rfl
  have e9:=ec 9 _ rfl
  have e12:=ec 12 _ rfl
  have e13:=ec 13 _ rfl
  have e14:=ec 14 _ rfl
  have e15:=ec 15 _ rfl
  have e16:=ec 16 _ rfl
  have e17:=ec 17 _ rfl
  clear ec
  go_wp2_with fail
  clear c7 c8 c9 c12 t1 t3 t4 t5 zt zg e7 e8 e9 e12 e13 e14 e15 e16 e17
  refine qo (by kernel_rfl) ?_
  refine z6 [] w3 #[true,true,true,true,true,true,true,true,true,true,false,false,false] 10 3 rfl ?_
  refine lpq [true,true,true,true,true,true,true,true,true,false,false,false,false] 1 ((Fr.refl _ _).drew) ?_
  apply qg
  refine ⟨fun wf Ff=>?_,?_⟩
  ·obtain ⟨c7,c8,c9,c12⟩:=(HK.out.up Ff).mc
   obtain ⟨t1,t3,t4,t5,-⟩:=(HK.out.up Ff).tc
   simp only [HZ.out.1,HZ.out.2.1,HZ.out.2.2,xw] at t3 t4 t5
   have k3:=qb t3
   have k4:=qb t4
   have k5:=qb t5
   have k7:=qb c7
   have k9:=qb c9
   have k12:=qb c12
   simp only [sel]
   repeat (go_big_quiet_step (fail))
   exact wpQuiet_nil rfl
  refine loq 9 (fun w4 F4=>?_)
  replace F4:=(Fr.refl [] w3).drew.trans F4
  go_wp2_with fail
  refine (Xp P' HOK.out _ pb w4 (HP.out.kept F4 (by simp))).mono ?_;rintro e w5 ⟨⟨pv,rfl,hpr⟩,F5⟩
  obtain ⟨pa,pc,rfl,-,-,-⟩:=id (Sq.own (f:=fQ) hpr)
  have HFR:=q9 (F4.trans F5)
  have HK2:=q9 ((HK.out.xx 0 (qh hN0 HF.out.size)).up HFR.out)
  have hcol:∀ k,k∈(Value.slice pa P'.answer.pairs.length pc).ownBlock.toList->xx own2 w3.heap.size 0 k=0:=fun k hk=>yg (qh F4.size (z8 hpr k hk))
  have HF2:=q9 (HF.out.trans (FrO.of HFR.out (by simp)))
  generalize xx own2 w3.heap.size 0=own3 at *
  have HPR:=q9 (qc (Sq.own (f:=fQ) hpr) hcol)
  clear HK HF HP F4 F5 hpr hcol
  have HK:=HK2
  have HF:=HF2
  clear HK2 HF2
  generalize hpl:P'.answer.pairs.length=pl at *
  have HPN:=q9 hpl
  clear hpl
  unfold Yj
  go_wp2_with fail
  refine ql ⟨HFR.out,?_⟩
  refine qx (k:=10) rfl (by kernel_rfl) (fun v1w FN=>?_)
  replace FN:=((Fr.refl [] w5)).trans FN
  have HK2:=q9 (HK.out.up FN)
  have HF2:=q9 (HF.out.trans (FrO.of FN (by simp)))
  have HPS:=q9 (HPR.out.1.up FN)
  clear HK HF FN
  have HK:=HK2
  have HF:=HF2
  clear HK2 HF2
  obtain ⟨c7,c8,c9,c12⟩:=HK.out.mc
  obtain ⟨t1,t3,t4,t5,zt⟩:=HK.out.tc
  simp only [HZ.out.1,HZ.out.2.1,HZ.out.2.2,xw] at t3 t4 t5
  obtain ⟨ec,zg⟩:=HK.out.ec
  have e7:=ec 7 _ rfl
  have e8:=ec 8 _ rfl
  have e9:=ec 9 _ rfl
  have e12:=ec 12 _ rfl
  have e13:=ec 13 _ rfl
  have e14:=ec 14 _ rfl
  have e15:=ec 15 _ rfl
  have e16:=ec 16 _ rfl
  have e17:=ec 17 _ rfl
  clear ec
  go_wp2_with fail
  obtain ⟨K0,G0⟩:=HK.out.setA (P'.answer) ⟨pa,pl,pc⟩ HPS.out (fun _=>HPR.out.2) HK.out.og
  simp only [Sv.v] at K0 G0
  obtain ⟨K1,G1⟩:=K0.setN (j:=8) (u:=.int .i64 (ve'.steps+1)) (e':={ ve' with ans:=P'.answer,steps:=ve'.steps+1 }) (by decide) (by simp [fEv]) rfl
  have HK2:=q9 K1
  have HF2:=q9 (HF.out.trans (G0.trans G1))
  clear HK HF K0 G0 K1 G1
  have HK:=HK2
  have HF:=HF2
  clear HK2 HF2
  go_end0
  have e:X=mkM m s' n k ({ x with s:=some P' }) ({ ve' with ans:=P'.answer,steps:=ve'.steps+1 }):=by
   rw [<- HX.out];unfold Mc.steps mkM;simp only [HTH.out,HGD.out,HQ.out.1];simp [HQ.out.2.1,HQ.out.2.2,HOV.out]
  rw [e]
  exact ⟨rfl,⟨_,_,HK.out.h⟩,HF.out⟩
theorem q6o {N0:Nat} {own:Nat->Nat} {w:World} {b:Nat} {m:Mc} {y:Lay} {N:Nat} (hI:MInv N m) (hN:N<=40000) (h:jc N0 own w b m y) (hN0:N0<=w.heap.size) {n k:Nat} {x:Th} {ve:Ev} (hx:m.t[n]? = some x) (hv:m.e[k]? = some ve) (ho:x.p≠none\/x.g≠none\/x.s≠none) :
  Calls Tryz.prog 77 #[.pointer (some ⟨b,0,none⟩),.int .i64 n,.int .i64 k] w (Vz N0 w b (m.steps (n:Int) k) (.tuple #[])):=by
 cases hp:x.p with
 | some P=>exact qae hI hN h hN0 hx hv P hp
 | none =>
  cases hg:x.g with
  | some P=>exact qbm hI hN h hN0 hx hv P hp hg
  | none =>
   cases hs:x.s with
   | some P=>exact qb6 hI hN h hN0 hx hv P hp hg hs
   | none=>rw [hp,hg,hs] at ho;simp at ho
theorem jc.overC {N0:Nat} {own:Nat->Nat} {w:World} {b:Nat} {m:Mc} {y:Lay} (h:jc N0 own w b m y) (t:Int):Calls Tryz.prog 26 #[.pointer (some ⟨b,0,none⟩),.int .i64 t] w fun e w'=>e = .returned (.bool (m.over t))/\Fr [] w w' :=
 q7i m t b y.ov y.pv y.dv y.p y.tv y.kv y.ev y.R y.ss y.ts w h.ob h.fz.rows (Sq.block (f:=fTv) (b:=y.tb) (T:=141) (cs:=(y.ts.flatMap fTv).toArray) h.th (by simp) rfl (Nat.le_refl _) (by have:=h.thl;have:=h.th8;unfold maxLen;omega)) h.thl (fun i x z e1 e2=>by obtain ⟨B,k,-⟩:=h.thr i x z e1 e2;exact k.1)
def C9 (b:Nat) (v:Value) (w:World):Prop:=w.cell? ⟨b,9,none⟩=some v
theorem C9.up {b:Nat} {v:Value} (w w2:World) (h:C9 b v w) (F:Fr [] w w2):C9 b v w2:=F.cell h (by simp)
theorem q69 {N0:Nat} {own:Nat->Nat} {w:World} {b:Nat} {m:Mc} {y:Lay} {N:Nat} (hI:MInv N m) (hN:N<=40000) (h:jc N0 own w b m y) (t:Int) (ho:m.over t=true) :
  Calls Tryz.prog 25 #[.pointer (some ⟨b,0,none⟩),.int .i64 t] w (Vz N0 w b (m.pick t) (.bool false)):=by
 have hX:m.pick t = { m with idle:=m.idle+1,now:=m.now+1 }:=by unfold Mc.pick;rw [qf ho]
 rw [hX]
 have hnw:=hI.now
 have hid:=hI.idle
 have H:=q9 h
 clear h
 go_enter Tryz.func25,Tryz.ntmps25
 go_wp2_with fail
 refine (H.out.overC t).mono ?_;rintro e w1 ⟨rfl,F1⟩
 rw [ho]
 have H1:=q9 (H.out.up F1)
 have HF:=q9 F1
 clear F1 ho
 go_wp2_with fail
 refine qo (by kernel_rfl) ?_
 obtain ⟨-,-,-,-,-,-,-,-,-,c9,-,-,-⟩:=zw H1.out.ob
 refine q1t (C9 b (.int .i64 m.now)) #[true,true,true,true,true,true,true,true,true,true,true,true,true,true,true,true,true,false] 17 1 rfl ?_
 refine R3 C9.up [true,true,true,true,true,false,false,true,true,true,true,true,false,false,false,false,false,false] 7 (n:=77) (listed':=#[true,true,true,true,true,false,false,true,true,true,true,true,false,false,false,false,false,false]) rfl (by kernel_rfl) (by kernel_rfl) (by kernel_rfl) (by kernel_rfl) rfl (by kernel_rfl) (fun _ _ d _ _ h=>by cases d <;> exact h) (C9.up w1 _ c9 ((Fr.refl _ _).drew)) ?_
 apply qg
 refine ⟨fun wf Ff=>?_,?_⟩
 ·have k9:=qb (show wf.cell? ⟨b,9,none⟩=some (.int .i64 m.now) from Ff)
  simp only [sel]
  repeat (go_big_quiet_step (fail))
  exact wpQuiet_nil rfl
 clear c9
 refine jh 5 (by kernel_rfl) rfl rfl (fun w3 F3=>?_)
 have F2:=(Fr.refl [] w1).drew.trans F3
 clear F3
 obtain ⟨-,-,-,-,-,-,-,-,-,c9,c10,-,-⟩:=zw (H1.out.up F2).ob
 go_wp2_with fail
 refine ql ⟨c9,?_⟩
 clear c9 c10
 refine jh 6 (by kernel_rfl) rfl rfl (fun w4 FN=>?_)
 replace F2:=F2.trans FN
 clear FN
 obtain ⟨-,-,-,-,-,-,-,-,-,c9,c10,-,-⟩:=zw (H1.out.up F2).ob
 go_wp2_with fail
 refine ql ⟨c9,?_⟩
 clear c9 c10
 refine jh 12 (by kernel_rfl) rfl rfl (fun w5 FN=>?_)
 replace F2:=F2.trans FN
 clear FN
 obtain ⟨-,-,-,-,-,-,-,-,-,c9,c10,-,-⟩:=zw (H1.out.up F2).ob
 go_wp2_with fail
 refine ql ⟨c9,?_⟩
 clear c9 c10
 refine jh 13 (by kernel_rfl) rfl rfl (fun w6 FN=>?_)
 replace F2:=F2.trans FN
 clear FN
 obtain ⟨-,-,-,-,-,-,-,-,-,c9,c10,-,-⟩:=zw (H1.out.up F2).ob
 go_wp2_with fail
 refine ql ⟨c9,?_⟩
 clear c9 c10
 refine jh 14 (by kernel_rfl) rfl rfl (fun w7 FN=>?_)
 replace F2:=F2.trans FN
 clear FN
 have H5:=H1.out.up F2
 obtain ⟨-,-,-,-,-,-,-,-,-,c9,c10,-,-⟩:=zw H5.ob
 have z:=H5.ob.frozen
 have K5:=H5.setIdle (m.idle+1)
 obtain ⟨-,-,-,-,-,-,-,-,-,d9,-,-,-⟩:=zw K5.1.ob
 have HF5:=q9 ((FrO.of HF.out (by simp)).trans ((FrO.of F2 (by simp)).trans K5.2))
 have HK5:=q9 K5.1
 clear K5 H5 F2
 go_wp2_with fail
 clear c9 c10 z
 generalize (w7.setCell ⟨b,10,none⟩ (.int .i64 (m.idle+1)))=w8 at *
 refine ql ⟨d9,?_⟩
 clear d9
 refine jh 15 (by kernel_rfl) rfl rfl (fun w9 F9=>?_)
 have G:=F9
 clear F9
 obtain ⟨-,-,-,-,-,-,-,-,-,c9,-,-,-⟩:=zw (HK5.out.up G).ob
 go_wp2_with fail
 refine ql ⟨c9,?_⟩
 clear c9
 refine jh 16 (by kernel_rfl) rfl rfl (fun wA FN=>?_)
 replace G:=G.trans FN
 clear FN
 obtain ⟨-,-,-,-,-,-,-,-,-,c9,-,-,-⟩:=zw (HK5.out.up G).ob
 go_wp2_with fail
 refine ql ⟨c9,?_⟩
 clear c9
 refine Rc (k:=17) rfl (by kernel_rfl) (fun wB FN=>?_)
 replace G:=G.trans FN
 clear FN
 have H9:=HK5.out.up G
 obtain ⟨-,-,-,-,-,-,-,-,-,c9,-,-,-⟩:=zw H9.ob
 have z:=H9.ob.frozen
 have K9:=H9.setNow (m.now+1)
 have HE:=q9 (qc K9.1 (HF5.out.trans ((FrO.of G (by simp)).trans K9.2)))
 clear K9 H9 G
 go_wp2_with fail
 go_ret
 exact ⟨rfl,⟨_,_,HE.out.1⟩,HE.out.2⟩
theorem q5f {N0:Nat} {own:Nat->Nat} {w:World} {b:Nat} {m:Mc} {y:Lay} {N:Nat} (hI:MInv N m) (hN:N+4<=40000) (h:jc N0 own w b m y) (hN0:N0<=w.heap.size) (t:Int) (ho:m.over t=false) :
  Calls Tryz.prog 25 #[.pointer (some ⟨b,0,none⟩),.int .i64 t] w (Vz N0 w b (m.pick t) (.bool true)):=by
 obtain ⟨n,x,rfl,hx,hth,hnb⟩:=U1 ho
 have hnl:=(List.getElem?_eq_some_iff.1 hx).1
 obtain ⟨z,hz⟩:∃ z,y.ts[n]? = some z:=⟨y.ts[n]'(by rw [h.thl];exact hnl),List.getElem?_eq_getElem _⟩
 have hbz:=((h.thr n x z hx hz).choose_spec.1.1).2.1
 have H:=q9 h
 have HI:=q9 hI
 have HO:=q9 ho
 have hlz0:(n:Int)<(y.ts.length:Int):=by rw [h.thl];omega
 clear h hI ho
 have HXX:=q9 (qc hx (qc hz (qc hth (qc hnb (qc hbz hnl)))))
 clear hx hz hth hnb hbz hnl
 cases hb:x.busy
 focus
  have HB:=q9 hb
  clear hb
  go_enter Tryz.func25,Tryz.ntmps25
  go_wp2_with fail
  refine (H.out.overC (n:Int)).mono ?_;rintro e w0 ⟨rfl,F1⟩
  rw [HO.out]
  have M0:=H.out.up F1
  obtain ⟨-,-,-,-,-,-,-,-,c8,-,-,-,-⟩:=zw M0.ob
  unfold Lay.tv at c8
  have t1:=xh M0.th HXX.out.2.1 (j:=1) (by decide) rfl
  rw [HXX.out.2.2.2.2.1,HB.out] at t1
  have HF0:=q9 (FrO.of (N0:=N0) F1 (by simp))
  have HM0:=q9 M0
  clear M0 F1
  go_wp2_with fail
  refine (q3l HI.out (by omega) HM0.out (qh hN0 HF0.out.size) HXX.out.1 (HXX.out.2.2.2.1 HB.out)).mono ?_;rintro e w1 ⟨rfl,hM,G⟩
  have HF1:=q9 (HF0.out.trans G)
  have HM1:=q9 hM
  obtain ⟨m1,hm1⟩:∃ m1,m1=m.begins (n:Int):=⟨_,rfl⟩
  have HE:=q9 (show (if (m.th (n:Int)).busy=true then m else m.begins (n:Int))=m1 by rw [HXX.out.2.2.1,HB.out];simp [hm1])
  have HI1:=q9 (show MInv (N+1) m1 by rw [hm1];exact HI.out.begins HXX.out.1 (HXX.out.2.2.2.1 HB.out))
  obtain ⟨x1,hx1e⟩:∃ x1,x1=m.begun (n:Int):=⟨_,rfl⟩
  have HX1:=q9 (show m1.t[n]? = some x1/\x1.busy=true by rw [hm1,hx1e];exact ⟨by unfold Mc.begins;simp only [Int.toNat_natCast];exact List.getElem?_set_self HXX.out.2.2.2.2.2,(q1m HI.out HXX.out.1 (HXX.out.2.2.2.1 HB.out)).2.1⟩)
  have HN1:=q9 (show m1.th (n:Int)=x1 by unfold Mc.th;rw [Int.toNat_natCast,List.getD_eq_getElem?_getD,HX1.out.1];rfl)
  rw [<- hm1] at HM1
  clear hm1 hx1e G hM c8 t1 hlz0
  clear HF0 HM0
 rotate_left
 focus
  have HB:=q9 hb
  clear hb
  go_enter Tryz.func25,Tryz.ntmps25
  go_wp2_with fail
  refine (H.out.overC (n:Int)).mono ?_;rintro e w1 ⟨rfl,F1⟩
  rw [HO.out]
  have M0:=H.out.up F1
  have HF1:=q9 (FrO.of (N0:=N0) F1 (by simp))
  have HM1:=q9 (show ∃ own1 y1,jc N0 own1 w1 b m y1 from ⟨_,_,M0⟩)
  obtain ⟨m1,hm1⟩:∃ m1,m1=m:=⟨_,rfl⟩
  have HE:=q9 (show (if (m.th (n:Int)).busy=true then m else m.begins (n:Int))=m1 by rw [HXX.out.2.2.1,HB.out];simp [hm1])
  have HI1:=q9 (show MInv (N+1) m1 by rw [hm1];exact HI.out.more)
  obtain ⟨x1,hx1e⟩:∃ x1,x1=x:=⟨_,rfl⟩
  have HX1:=q9 (show m1.t[n]? = some x1/\x1.busy=true by rw [hm1,hx1e];exact ⟨HXX.out.1,HB.out⟩)
  have HN1:=q9 (show m1.th (n:Int)=x1 by rw [hm1,hx1e];exact HXX.out.2.2.1)
  rw [<- hm1] at HM1
  clear M0 hm1 hx1e F1 hlz0
 rotate_left
 all_goals
  obtain ⟨hx1,hb1⟩:=HX1.out
  obtain ⟨ho1,k,hk⟩:=HI1.out.busy n x1 hx1 hb1
  obtain ⟨ve,hve,-,-⟩:=J7 hk
  obtain ⟨own1,y1,M1⟩:=HM1.out
  obtain ⟨z1,hz1⟩:∃ z1,y1.ts[n]? = some z1:=⟨y1.ts[n]'(by rw [M1.thl];exact (List.getElem?_eq_some_iff.1 hx1).1),List.getElem?_eq_getElem _⟩
  have hnx:=((M1.thr n x1 z1 hx1 hz1).choose_spec.1.1).1
  have ht1:=HI1.out.th n x1 hx1
  have hn0:=ht1.n0
  have hn1:x1.next<=1000:=by have:=HI1.out.opsl (n:Int);have:=ht1.n1;omega
  obtain ⟨-,-,-,-,-,-,-,c7,c8,-,-,-,-⟩:=zw M1.ob
  unfold Lay.tv at c8
  have t0:=xh M1.th hz1 (j:=0) (by decide) rfl
  rw [Nat.add_zero,hnx] at t0
  have t1:=xh M1.th hz1 (j:=1) (by decide) rfl
  rw [((M1.thr n x1 z1 hx1 hz1).choose_spec.1.1).2.1,hb1] at t1
  obtain ⟨-,-,-,r1,-,-,-,-,-,-⟩:=Vr M1.ar
  have hlz:(n:Int)<(y1.ts.length:Int):=by rw [M1.thl];have:=(List.getElem?_eq_some_iff.1 hx1).1;omega
  have hel:y1.es.length<=1000000:=by rw [M1.esl];have:=HI1.out.el;omega
  have HM:=q9 M1
  have HV:=q9 (qc hk (qc hve (qc ho1 hel)))
  clear M1 hk hve ho1 hx1 hb1 hz1 hnx ht1 hel
  go_wp2_with fail
  refine (Te m1 (n:Int) (x1.next - 1) b _ _ _ _ _ _ _ y1.es w1 HV.out.2.2.2 HM.out.ob (Sq.own (f:=fEv) HM.out.ev)).mono ?_;rintro e w2 ⟨rfl,rfl⟩
  rw [HM.out.evl,show q4o m1.e (n:Int) (x1.next - 1)=(k:Int) from q1f (by rw [<- U9];exact HV.out.1)]
  go_wp2_with fail
  refine (q6o HI1.out (by omega) HM.out (qh hN0 HF1.out.size) HX1.out.1 HV.out.2.1 HV.out.2.2.1).mono ?_;rintro e w3 ⟨rfl,⟨own2,y2,M2⟩,G2⟩
  have HI2:=q9 (HI1.out.steps (by omega) HX1.out.1 HV.out.2.1)
  have HST:=q9 (show m1.steps (n:Int) k=m1.steps (n:Int) k from rfl)
  generalize hm2:m1.steps (n:Int) k=m2 at *
  have HM2:=q9 hm2
  obtain ⟨-,-,-,-,-,-,-,d7,-,-,-,-,-⟩:=zw M2.ob
  obtain ⟨-,-,-,s1,-,-,-,-,-,-⟩:=Vr M2.ar
  have HMM:=q9 M2
  have HG2:=q9 (HF1.out.trans G2)
  clear M2 G2 hm2 c7 c8 t0 t1 r1
  have hP:m.pick (n:Int)=(let m3:=if m1.a.n<m2.a.n then m2.notes else m2;{ m3 with now:=m3.now+1 }):=by
   unfold Mc.pick
   rw [qd (by rw [HO.out];simp)]
   simp only [HE.out]
   rw [HN1.out,HV.out.1]
   simp only [HM2.out]
  have HP:=q9 hP
  clear hP
  by_cases hlt:m1.a.n<m2.a.n
  ·have g1:decide (m2.a.n>m1.a.n)=true:=by simpa using hlt
   have g2:decide (m1.a.n<m2.a.n)=true:=by simpa using hlt
   have HL:=q9 hlt
   clear hlt
   go_wp2_with fail
   refine (q6d HI2.out (by omega) HMM.out (qh hN0 HG2.out.size)).mono ?_;rintro e w4 ⟨rfl,⟨own3,y3,M3⟩,G3⟩
   have hnw:=HI2.out.notes.now
   obtain ⟨-,-,-,-,-,-,-,-,-,f9,-,-,-⟩:=zw M3.ob
   have z:=M3.ob.frozen
   have HM3:=q9 M3
   have HG3:=q9 (HG2.out.trans G3)
   clear M3 G3
   generalize hm3:m2.notes=m3 at *
   have HMN:=q9 hm3
   clear hm3
   go_wp2_with fail
   go_ret
   obtain ⟨K,G⟩:=HM3.out.setNow (m3.now+1)
   rw [HP.out];simp only [qf HL.out,HMN.out]
   exact ⟨rfl,⟨_,_,K⟩,HG3.out.trans G⟩
  have g1:decide (m2.a.n>m1.a.n)=false:=by simpa using hlt
  have g2:decide (m1.a.n<m2.a.n)=false:=by simpa using hlt
  have HL:=q9 hlt
  clear hlt
  have hnw:=HI2.out.now
  obtain ⟨-,-,-,-,-,-,-,-,-,f9,-,-,-⟩:=zw HMM.out.ob
  have z:=HMM.out.ob.frozen
  go_wp2_with fail
  go_ret
  obtain ⟨K,G⟩:=HMM.out.setNow (m2.now+1)
  rw [HP.out];simp only [qd (show ¬ m1.a.n<m2.a.n by have:=HL.out;omega)]
  exact ⟨rfl,⟨_,_,K⟩,HG2.out.trans G⟩
theorem q8x {N0:Nat} {own:Nat->Nat} {w:World} {b:Nat} {m:Mc} {y:Lay} {N:Nat} (hI:MInv N m) (hN:N+4<=40000) (h:jc N0 own w b m y) (hN0:N0<=w.heap.size) (t:Int) :
  Calls Tryz.prog 25 #[.pointer (some ⟨b,0,none⟩),.int .i64 t] w (Vz N0 w b (m.pick t) (.bool (!m.over t))):=by
 cases ho:m.over t with
 | true=>exact q69 hI (by omega) h t ho
 | false=>exact q5f hI hN h hN0 t ho
structure Tg (w:World) (s:Value) (c:Cf) (rs:List (List O)) (ps ds:List Int) (ov pv dv:Value) (ss:List Sv) (R:List Nat):Prop where
 val:s = .agg #[.int .i64 c.t,.int .i64 c.c,.int .i64 c.wd,.int .i64 c.v,ov,pv,dv]
 scr:Scr w s c.t c.c c.wd c.v rs ps ds
 rows:Su w R ov ss rs
 dr:Sq fI w dv ds
 drR:ds≠[]->∀ k,k∈dv.ownBlock.toList->k∈R
 pk:Sq fI w pv ps
 lt:∀ k,k∈R->k<w.heap.size
theorem Tg.up {w w':World} {s:Value} {c:Cf} {rs:List (List O)} {ps ds:List Int} {ov pv dv:Value} {ss:List Sv} {R:List Nat} (h:Tg w s c rs ps ds ov pv dv ss R) (F:Fr [] w w'):Tg w' s c rs ps ds ov pv dv ss R :=
 ⟨h.val,h.scr.up F,h.rows.kept F (by simp),h.dr.up F,h.drR,h.pk.up F,fun k hk=>qj (h.lt k hk) F.size⟩
def Mc.new (c:Cf) (rs:List (List O)) (ds:List Int):Mc:=⟨c,rs,ds,Pl.begun c.t c.c c.wd,List.replicate c.t.toNat Th.new,0,0,[],[]⟩
theorem q6w {c:Cf} {rs:List (List O)} {ps:List Int} (h:Z7 c.t c.c c.wd c.v rs ps=0):c.Ok/\Pl.form c.t c.c c.wd c.v=true/\large c.t rs ps=false/\rs.all qce=true:=by
 unfold Z7 at h
 split at h
 ·rename_i h0
  unfold Pl.code at h0
  split at h0
  ·rename_i hf
   split at h0
   ·rename_i ht
    split at h
    ·cases h
    rename_i hl
    split at h
    ·rename_i ha
     obtain ⟨t1,t2,c1,c2,v1,v2,w1,w2⟩:=Pl.Zq.1 hf
     exact ⟨⟨t1,t2,c1,c2,w1,w2,v1,v2,ht⟩,hf,by simpa using hl,ha⟩
    cases h
   cases h0
  cases h0
 ·rename_i h0;exact absurd h h0
theorem qbk {o:O} (h:qbp o=true):0<=o.2.1/\o.2.1<=63:=by
 have hk:∀ ky,Ro.Us ky=true->0<=ky/\ky<=63:=fun ky h=>by unfold Ro.Us at h;simpa using h
 unfold qbp at h
 by_cases h1:o.1=1
 ·rw [h1,Ro.qc2] at h;simp only [Bool.and_eq_true] at h;exact hk _ h.1
 ·by_cases h2:o.1=2\/o.1=3
  ·rw [Ro.q0f _ _ _ _ h2] at h;simp only [Bool.and_eq_true] at h;exact hk _ h.1
  by_cases h4:o.1=4
  ·rw [h4,Ro.qda] at h;simp only [Bool.and_eq_true] at h;exact hk _ h.1
  rw [Ro.fit0 _ _ _ _ ⟨h1,fun e=>h2 (.inl e),fun e=>h2 (.inr e),h4⟩] at h;cases h
theorem q1v {c:Cf} {rs:List (List O)} {ps:List Int} (ds:List Int) (h:Z7 c.t c.c c.wd c.v rs ps=0):MInv 1 (Mc.new c rs ds):=by
 obtain ⟨hc,-,hl,ha⟩:=q6w h
 have hl2:(rs.length:Int)<=c.t/\rs.any long=false:=by
  unfold large at hl
  simp only [Bool.or_eq_false_iff,decide_eq_false_iff_not] at hl
  exact ⟨by omega,hl.2.2⟩
 have h8:=hc.t8
 have h1:=hc.t1
 have hth:∀ (i:Nat) (x:Th),(Mc.new c rs ds).t[i]? = some x->x=Th.new:=fun i x hx=>by
  unfold Mc.new at hx
  simp only [List.getElem?_replicate] at hx
  split at hx
  ·exact (qi hx).symm
  ·cases hx
 refine ⟨hc,by unfold Mc.new;simp;omega,by unfold Mc.new;simp only;omega,fun r hr=>⟨?_,fun o ho=>?_⟩,fun i x hx=>?_,fun i x hx hb=>?_,by simp [Mc.new],by simp [Mc.new],by simp [Mc.new],by simp [Mc.new],fun x hx=>by simp [Mc.new] at hx⟩
 ·have:=List.any_eq_false.1 hl2.2 r hr
  unfold long at this;simpa using this
 ·exact qbk (List.all_eq_true.1 (by have:=List.all_eq_true.1 ha r hr;unfold qce at this;exact this) o ho)
 ·rw [hth i x hx]
  exact ⟨by simp [Th.new],by simp [Th.new],by simp [Th.new],fun y e=>(by cases e),fun y e=>(by cases e),fun y e=>(by cases e)⟩
 ·rw [hth i x hx] at hb;cases hb
def tv0:Tv:=⟨0,false,0,none,none,none⟩
theorem q90:(madeCells (Value.agg #[.int .i64 0,.bool false,.int .i64 0,.pointer none,.pointer none,.pointer none]).cells (0 * 6)).toList=(List.replicate 0 tv0).flatMap fTv:=by kernel_rfl
theorem q7h:(madeCells (Value.agg #[.int .i64 0,.bool false,.int .i64 0,.pointer none,.pointer none,.pointer none]).cells (1 * 6)).toList=(List.replicate 1 tv0).flatMap fTv:=by kernel_rfl
theorem q9g:(madeCells (Value.agg #[.int .i64 0,.bool false,.int .i64 0,.pointer none,.pointer none,.pointer none]).cells (2 * 6)).toList=(List.replicate 2 tv0).flatMap fTv:=by kernel_rfl
theorem q80:(madeCells (Value.agg #[.int .i64 0,.bool false,.int .i64 0,.pointer none,.pointer none,.pointer none]).cells (3 * 6)).toList=(List.replicate 3 tv0).flatMap fTv:=by kernel_rfl
theorem q9d:(madeCells (Value.agg #[.int .i64 0,.bool false,.int .i64 0,.pointer none,.pointer none,.pointer none]).cells (4 * 6)).toList=(List.replicate 4 tv0).flatMap fTv:=by kernel_rfl
theorem q8c:(madeCells (Value.agg #[.int .i64 0,.bool false,.int .i64 0,.pointer none,.pointer none,.pointer none]).cells (5 * 6)).toList=(List.replicate 5 tv0).flatMap fTv:=by kernel_rfl
theorem q8t:(madeCells (Value.agg #[.int .i64 0,.bool false,.int .i64 0,.pointer none,.pointer none,.pointer none]).cells (6 * 6)).toList=(List.replicate 6 tv0).flatMap fTv:=by kernel_rfl
theorem q79:(madeCells (Value.agg #[.int .i64 0,.bool false,.int .i64 0,.pointer none,.pointer none,.pointer none]).cells (7 * 6)).toList=(List.replicate 7 tv0).flatMap fTv:=by kernel_rfl
theorem q82:(madeCells (Value.agg #[.int .i64 0,.bool false,.int .i64 0,.pointer none,.pointer none,.pointer none]).cells (8 * 6)).toList=(List.replicate 8 tv0).flatMap fTv:=by kernel_rfl
theorem q5u (n:Nat) (h:n<=8):(madeCells (Value.agg #[.int .i64 0,.bool false,.int .i64 0,.pointer none,.pointer none,.pointer none]).cells (n * 6)).toList=(List.replicate n tv0).flatMap fTv:=by
 match n,h with
 | 0,_=>exact q90
 | 1,_=>exact q7h
 | 2,_=>exact q9g
 | 3,_=>exact q80
 | 4,_=>exact q9d
 | 5,_=>exact q8c
 | 6,_=>exact q8t
 | 7,_=>exact q79
 | 8,_=>exact q82
theorem Rb {w:World} {B g n sz:Nat} {E:TypeId} {xs:List Value} (h:w.ownsRow B E sz (.slice (some ⟨g,0,none⟩) n n) n xs):w.heap[g]? = some (.cells xs.toArray E (0,0)):=by
 obtain ⟨h1,h2⟩:=h
 rcases h2 with ⟨e,-⟩ | ⟨g',cap,cur,e,hB,hh,hc1,hc2,hs,ht⟩
 ·simp at e
 ·simp only [Value.slice.injEq,Option.some.injEq,Addr.mk.injEq,true_and] at e
  obtain ⟨⟨rfl,-⟩,rfl⟩:=e
  rw [hh]
  have:cur.toList=xs:=by rw [<- ht,List.take_of_length_le (by simp;omega)]
  rw [<- this]
theorem qbs {w w':World} {c:Cf} {rs:List (List O)} {ps ds:List Int} {ov pv dv:Value} {ss:List Sv} {R:List Nat} {s:Value} {b p q tb:Nat} (hS:Tg w s c rs ps ds ov pv dv ss R) (h0:Z7 c.t c.c c.wd c.v rs ps=0) (F:Fr [] w w') (hO:q9q w' b (Mc.new c rs ds) ov pv dv p (.slice (some ⟨tb,0,none⟩) c.t.toNat c.t.toNat) (.slice none 0 0) (.slice none 0 0)) (hA:Rar w' p q (Pl.begun c.t c.c c.wd)) (hT:Ob w' tb 141 ((List.replicate c.t.toNat tv0).flatMap fTv).toArray)
  (hb:w.heap.size<=b) (hp:w.heap.size<=p) (hq:w.heap.size<=q) (ht:w.heap.size<=tb) (hn:b≠p/\b≠q/\b≠tb/\p≠q/\p≠tb/\q≠tb) :
  ∃ own y,jc w.heap.size own w' b (Mc.new c rs ds) y/\y.p=p/\y.q=q:=by
 obtain ⟨n1,n2,n3,n4,n5,n6⟩:=hn
 have hc:=(q6w h0).1
 have h8:=hc.t8
 have hz:∀ k,k∈R->(if k=b then 1 else if k=p then 2 else if k=q then 3 else if k=tb then 4 else 0)=0:=fun k hk=>by
  have:=hS.lt k hk
  rw [qd (by omega),qd (by omega),qd (by omega),qd (by omega)]
 refine ⟨fun k=>if k=b then 1 else if k=p then 2 else if k=q then 3 else if k=tb then 4 else 0,⟨R,ov,pv,dv,.slice none 0 0,.slice none 0 0,ss,p,q,tb,List.replicate c.t.toNat tv0,[]⟩,⟨?_,⟨hS.rows.kept F (by simp),hS.dr.up F,hS.drR,fun k hk=>⟨hz k hk,qj (hS.lt k hk) F.size⟩⟩,hA,qf rfl,?_,?_,?_,hT,by simp [Mc.new],by simp [Mc.new];omega,fun i x z e1 e2=>?_,Sq.nil _,fun hne=>absurd rfl hne,⟨rfl,.inl ⟨rfl,rfl⟩⟩,fun k hk=>by simp [Value.ownBlock] at hk,rfl,fun x hx=>by simp at hx,fun k hk=>?_⟩,rfl,rfl⟩
 ·unfold Lay.tv;simp only [List.length_replicate];exact hO
 ·simp [Ne.symm n1]
 ·simp [Ne.symm n2,Ne.symm n4]
 ·simp [Ne.symm n3,Ne.symm n5,Ne.symm n6]
 ·have hx:x=Th.new:=by
   unfold Mc.new at e1;simp only [List.getElem?_replicate] at e1
   split at e1
   ·exact (qi e1).symm
   ·cases e1
  have hzz:z=tv0:=by
   simp only [List.getElem?_replicate] at e2
   split at e2
   ·exact (qi e2).symm
   ·cases e2
  rw [hx,hzz]
  exact ⟨[],⟨⟨rfl,rfl,rfl⟩,.inr (.inr (.inr ⟨rfl,rfl,rfl,rfl,rfl,rfl,rfl⟩))⟩,by simp⟩
 ·split at hk
  ·omega
  split at hk
  ·omega
  split at hk
  ·omega
  split at hk
  ·omega
  exact absurd rfl hk
theorem qck:∃ i,Tryz.prog.info? 141=some i/\i.zero=some (.agg #[.int .i64 0,.bool false,.int .i64 0,.pointer none,.pointer none,.pointer none])/\i.size=6/\i.bytes=48:=by
 have h:=tvI
 cases hi:Tryz.prog.info? 141 with
 | none=>rw [hi] at h;cases h
 | some i=>rw [hi] at h;simp only [Option.map_some,Option.some.injEq,Prod.mk.injEq] at h;exact ⟨i,rfl,h.1,h.2.1,h.2.2⟩
theorem Kn (c:Cf) (rs:List (List O)) (ps ds:List Int) (ov pv dv:Value) (ss:List Sv) (R:List Nat) (s:Value) (w:World) (hS:Tg w s c rs ps ds ov pv dv ss R) (h0:Z7 c.t c.c c.wd c.v rs ps=0) :
  Calls Tryz.prog 24 #[s] w fun e w'=>∃ b own y,e = .returned (.tuple #[.pointer (some ⟨b,0,none⟩),.int .i64 0])/\jc w.heap.size own w' b (Mc.new c rs ds) y/\Fr [] w w'/\w.heap.size<=b:=by
 obtain ⟨i,thI,thZ,thS,thB⟩:=qck
 obtain rfl:=hS.val
 have HS:=q9 hS
 have HC:=q9 h0
 obtain ⟨hc,hfm,-,-⟩:=q6w h0
 have HFM:=q9 hfm
 have HTOP:=q9 (show 21+c.t+3 * c.c<=c.wd from hc.top)
 have HTN:=q9 (show c.t=((c.t.toNat:Nat):Int) by have:=hc.t1;omega)
 have HT8:=q9 (show c.t.toNat<=8 by have:=hc.t8;omega)
 obtain ⟨vo,vp,vd,hval,hr1,hp1,hd1⟩:=hS.scr
 simp only [Value.agg.injEq,Array.mk.injEq,List.cons.injEq,and_true,true_and] at hval
 obtain ⟨rfl,rfl,rfl⟩:=hval
 obtain ⟨ao,co,hov,-,-,-⟩:=hS.rows.sq
 obtain ⟨ap,cp,hpv,-,-,-⟩:=hS.pk
 obtain ⟨ad,cd,hdv,-,-,-⟩:=hS.dr
 subst hov hpv hdv
 clear hr1 hp1 hd1 hfm hc hS h0
 have F0:=(Fr.refl [] w).alloc (.cells #[.int .i64 c.t,.int .i64 c.c,.int .i64 c.wd,.int .i64 c.v,.slice ao ss.length co,.slice ap ps.length cp,.slice ad ds.length cd] 27)
 have o0:=Ob.new w 27 #[.int .i64 c.t,.int .i64 c.c,.int .i64 c.wd,.int .i64 c.v,.slice ao ss.length co,.slice ap ps.length cp,.slice ad ds.length cd]
 have HU:=q9 (HS.out.up F0)
 go_enter Tryz.func24,Tryz.ntmps24
 go_wp2_with fail
 generalize World.alloc w _=w0 at *
 generalize w.heap.size=bs at o0 ⊢
 refine (Ro.Yy c.t c.c c.wd c.v rs ps ds _ w0 HU.out.scr).mono ?_;rintro e w1 ⟨rfl,F1⟩
 rw [HC.out]
 have HF:=q9 (F0.trans F1)
 replace o0:=Ob.up o0 F1
 clear F1 F0
 go_wp2_with fail
 refine qy (by kernel_rfl) [] (fun w2 F2=>?_)
 refine epq [true,true,true,false,true,true,true,false,false,false,false,false] 6 F2 ?_
 apply qg
 refine ⟨fun wf Ff=>?_,?_⟩
 ·have oF:=Ob.up o0 Ff
  have k0:=qb (oF.cell (i:=0) rfl)
  have k1:=qb (oF.cell (i:=1) rfl)
  have k2:=qb (oF.cell (i:=2) rfl)
  have k3:=qb (oF.cell (i:=3) rfl)
  have k4:=qb (oF.cell (i:=4) rfl)
  have k5:=qb (oF.cell (i:=5) rfl)
  have k6:=qb (oF.cell (i:=6) rfl)
  simp only [sel]
  repeat (go_big_quiet_step (fail))
  exact wpQuiet_nil rfl
 refine jb [3,7] (by kernel_rfl) (by simp) (fun w3 F3 j hj o ho=>?_)
 have E:=F2.trans F3
 clear F2 F3 o0
 simp only [List.mem_cons,List.not_mem_nil,or_false] at hj
 rcases hj with rfl | rfl
 focus
  obtain rfl:=qi ho
  go_wp2_with fail
  refine (q1j c.t c.c c.wd c.v HFM.out HTOP.out w3).mono ?_;rintro e w4 ⟨p,q,rfl,hp,hq,A,F4⟩
  have hp1:=qh E.size hp
  have hq1:=qh E.size hq
  have hpq:=A.ne
  replace E:=E.trans F4
  clear F4 ho hp hq
  go_wp2_with fail
  refine ql ⟨E,?_⟩
  refine eoq 7 (fun w5 F5=>?_)
  replace E:=E.trans F5
  replace A:=A.kept F5
  clear F5
  go_wp2_with (refine wpList_make_full w5 rfl _ _ 61 rfl 0 141 _ _ 6 Tryz.underlying61 thI thZ thS .i64 .i64 c.t c.t c.t.toNat rfl rfl HTN.out HTN.out (by rw [thB];have:=HT8.out;omega) (by have:=HT8.out;unfold maxLen;omega) (Nat.zero_le _) ?_;intro w6 hown hgr)
  have htb:w1.heap.size<=w5.heap.size:=E.size
  have hlt5:=A.lt
  have B:=Rb hown
  rw [q5u _ HT8.out] at B
  have F6:=Fr.grown hgr
  replace E:=E.trans F6
  replace A:=A.kept F6
  clear F6 hown hgr
  generalize w5.heap.size=tb at *
  have HPQ:=q9 (show p≠q/\p≠tb/\q≠tb from ⟨hpq,by omega,by omega⟩)
  clear hpq hlt5
 rotate_left
 focus
  obtain rfl:=qi ho
  go_wp2_with (refine wpList_make_full w3 rfl _ _ 61 rfl 0 141 _ _ 6 Tryz.underlying61 thI thZ thS .i64 .i64 c.t c.t c.t.toNat rfl rfl HTN.out HTN.out (by rw [thB];have:=HT8.out;omega) (by have:=HT8.out;unfold maxLen;omega) (Nat.zero_le _) ?_;intro w4 hown hgr)
  have htb:w1.heap.size<=w3.heap.size:=E.size
  have B:=Rb hown
  rw [q5u _ HT8.out] at B
  have F4:=Fr.grown hgr
  replace E:=E.trans F4
  clear F4 hown hgr ho
  generalize w3.heap.size=tb at *
  refine ql ⟨E,?_⟩
  refine eoq 3 (fun w5 F5=>?_)
  replace E:=E.trans F5
  replace B:=F5.heap B (by simp)
  clear F5
  go_wp2_with fail
  refine (q1j c.t c.c c.wd c.v HFM.out HTOP.out w5).mono ?_;rintro e w6 ⟨p,q,rfl,hp,hq,A,F6⟩
  have hp1:=qh E.size hp
  have hq1:=qh E.size hq
  have hpq:=A.ne
  have hbl:=(Array.getElem?_eq_some_iff.1 B).1
  have HPQ:=q9 (show p≠q/\p≠tb/\q≠tb from ⟨hpq,by omega,by omega⟩)
  replace B:=F6.heap B (by simp)
  replace E:=E.trans F6
  clear F6 hp hq hpq hbl
  go_wp2_with fail
 rotate_left
 all_goals
  refine ql ⟨E,?_⟩
  refine eoq 8 (fun w11 F11=>?_)
  replace E:=E.trans F11
  replace A:=A.kept F11
  replace B:=F11.heap B (by simp)
  clear F11
  go_wp2_with fail
  refine ql ⟨E,?_⟩
  refine eoq 9 (fun w12 F12=>?_)
  replace E:=E.trans F12
  replace A:=A.kept F12
  replace B:=F12.heap B (by simp)
  clear F12
  go_wp2_with fail
  have FA:=(Fr.refl [] w12).alloc (.cells (McC (Mc.new c rs ds) (.slice ao ss.length co) (.slice ap ps.length cp) (.slice ad ds.length cd) p (.slice (some ⟨tb,0,none⟩) c.t.toNat c.t.toNat) (.slice none 0 0) (.slice none 0 0)) 64)
  have oM:q9q _ w12.heap.size (Mc.new c rs ds) (.slice ao ss.length co) (.slice ap ps.length cp) (.slice ad ds.length cd) p (.slice (some ⟨tb,0,none⟩) c.t.toNat c.t.toNat) (.slice none 0 0) (.slice none 0 0):=Ob.new w12 64 _
  have hsz:w1.heap.size<=w12.heap.size/\tb<w12.heap.size/\p<w12.heap.size/\q<w12.heap.size:=⟨E.size,(Array.getElem?_eq_some_iff.1 B).1,A.lt.1,A.lt.2⟩
  replace A:=A.kept FA
  replace B:=FA.heap B (by simp)
  replace E:=E.trans FA
  unfold McC Mc.new at FA oM A B E
  simp only at FA oM A B E
  clear FA
  refine ql ⟨E,?_⟩
  refine eoq 10 (fun w13 F13=>?_)
  replace E:=E.trans F13
  replace A:=A.kept F13
  replace B:=F13.heap B (by simp)
  replace oM:=Ob.up oM F13
  clear F13
  generalize w12.heap.size=b at *
  go_wp2_with fail
  refine ql ⟨E,?_⟩
  refine eoq 11 (fun w14 F14=>?_)
  replace E:=E.trans F14
  replace A:=A.kept F14
  replace B:=F14.heap B (by simp)
  replace oM:=Ob.up oM F14
  clear F14
  go_wp2_with fail
  refine ql ⟨E,?_⟩
  refine zr (by kernel_rfl) (fun w15 F15=>?_)
  have HE:=q9 (qc (HF.out.trans (E.trans F15)) (qc (A.kept F15) (qc (F15.heap B (by simp)) (qc (Ob.up oM F15) hsz))))
  clear E A B oM F15 hsz
  go_wp2_with fail
  refine bodyPost_ret (v:=.tuple #[.pointer (some ⟨b,0,none⟩),.int .i64 0]) (by simp [results,Tryz.results24,go_sem]) rfl ?_
  obtain ⟨E,A,B,oM,s1,s2,s3,s4⟩:=HE.out
  have hw:=HF.out.size
  have hd:=HPQ.out
  obtain ⟨own,y,hM,e1,e2⟩:=qbs (b:=b) (p:=p) (q:=q) (tb:=tb) HS.out HC.out E oM A B (by omega) (by omega) (by omega) (by omega) ⟨by omega,by omega,by omega,hd.1,hd.2.1,hd.2.2⟩
  exact ⟨b,own,y,rfl,hM,E,by omega⟩
theorem FrO.ob {N0:Nat} {w w':World} {b:Nat} {T:TypeId} {cs:Array Value} (h:FrO N0 w w') (ho:Ob w b T cs) (hb:b<N0):Ob w' b T cs:=by
 obtain ⟨S,hS,F⟩:=h
 exact Ob.kept ho F (fun hi=>by have:=hS b hi;omega)
theorem FrO.sq {α:Type} {f:α->List Value} {N0:Nat} {w w':World} {v:Value} {xs:List α} (h:FrO N0 w w') (hs:Sq f w v xs) (hb:xs≠[]->∀ k,k∈v.ownBlock.toList->k<N0):Sq f w' v xs:=by
 obtain ⟨S,hS,F⟩:=h
 exact hs.keptN F (fun hne g hg hi=>by have:=hS g hi;have:=hb hne g hg;omega)
def q3f (c:Cf) (rs:List (List O)) (ds:List Int) (ps:List Int):Mc:=ps.foldl Mc.pick (Mc.new c rs ds)
theorem q6r {c:Cf} {rs:List (List O)} {ds ps:List Int} {i:Nat} {p:Int} (h:ps[i]? = some p):q3f c rs ds (ps.take (i+1))=(q3f c rs ds (ps.take i)).pick p:=by
 unfold q3f
 rw [List.take_add_one,h,Option.toList_some,List.foldl_append];rfl
theorem q20 {c:Cf} {rs:List (List O)} {ps0:List Int} (ds:List Int) (h0:Z7 c.t c.c c.wd c.v rs ps0=0):∀ (ps:List Int) (N:Nat) (m:Mc),MInv N m->MInv (N+4 * ps.length) (ps.foldl Mc.pick m)
 | [],N,m,h=>h
 | p :: ps,N,m,h=>by
  have:=q20 ds h0 ps (N+4) (m.pick p) (h.pick p)
  rw [List.foldl_cons,List.length_cons,show N+4 * (ps.length+1)=N+4+4 * ps.length by omega]
  exact this
theorem q77 {c:Cf} {rs:List (List O)} {ps0:List Int} (ds:List Int) (h0:Z7 c.t c.c c.wd c.v rs ps0=0) (ps:List Int):MInv (1+4 * ps.length) (q3f c rs ds ps):=q20 ds h0 ps 1 _ (q1v ds h0)
def PkAt (N0:Nat) (c:Cf) (rs:List (List O)) (ds ps:List Int) (b:Nat) (w1:World) (u:Value) (wr:World):Prop:=∃ i:Nat,i<=ps.length/\u = .int .i64 (i:Nat)/\(∃ own y,jc N0 own wr b (q3f c rs ds (ps.take i)) y)/\FrO N0 w1 wr
theorem q8d (c:Cf) (rs:List (List O)) (ps ds:List Int) (ov pv dv:Value) (ss:List Sv) (R:List Nat) (s:Value) (w:World) (hS:Tg w s c rs ps ds ov pv dv ss R) (h0:Z7 c.t c.c c.wd c.v rs ps=0) (hp:ps.length<=8000) :
  Calls Tryz.prog 15 #[s] w (q8s w (q3f c rs ds ps).a):=by
 obtain rfl:=hS.val
 have HS:=q9 hS
 have HC:=q9 h0
 obtain ⟨ao,co,hov,-,-,-⟩:=hS.rows.sq
 obtain ⟨ap,cp,hpv,-,-,-⟩:=hS.pk
 obtain ⟨ad,cd,hdv,-,-,-⟩:=hS.dr
 subst hov hpv hdv
 have hpk:=hS.pk
 have hpl:=fun hne=>Q7 hpk hne
 clear hS h0
 have F0:=(Fr.refl [] w).alloc (.cells #[.int .i64 c.t,.int .i64 c.c,.int .i64 c.wd,.int .i64 c.v,.slice ao ss.length co,.slice ap ps.length cp,.slice ad ds.length cd] 27)
 have o0:=Ob.new w 27 #[.int .i64 c.t,.int .i64 c.c,.int .i64 c.wd,.int .i64 c.v,.slice ao ss.length co,.slice ap ps.length cp,.slice ad ds.length cd]
 have HU:=q9 (HS.out.up F0)
 have hbl:=Ob.lt o0
 have HF0:=q9 F0
 clear F0
 go_enter Tryz.func15,Tryz.ntmps15
 go_wp2_with fail
 generalize World.alloc w _=w0 at *
 have hw0:=HF0.out.size
 generalize hbs:w.heap.size=bs at o0 hbl ⊢
 refine (Kn c rs ps ds _ _ _ ss R _ w0 HU.out HC.out).mono ?_;rintro e w1 ⟨b,own,y,rfl,hM,F1,hb⟩
 have o1:=Ob.up o0 F1
 have HO:=q9 (qc o1 hbl)
 have HM:=q9 hM
 have HF1:=q9 F1
 have HP:=q9 (qc (HU.out.pk.up F1) (fun hne g hg=>qj (hpl hne g hg) hw0))
 clear o0 o1 hM F1 hpk hpl
 have HBS:=q9 hbs
 clear hbs hbl hb
 go_wp2_with fail
 go_loopw [5] (fun u wr=>PkAt w0.heap.size c rs ds ps b w1 u wr) (fun u _=>ps.length - (intOf u).toNat)
 case atStart=>exact ⟨0,Nat.zero_le _,rfl,⟨own,y,HM.out⟩,FrO.refl _ _⟩
 case round =>
  obtain ⟨i,hi,rfl,⟨own2,y2,M2⟩,G⟩:=hrel
  have o2:=G.ob HO.out.1 HO.out.2
  have c5:=o2.cell (i:=5) rfl
  have hs2:=G.sq HP.out.1 HP.out.2
  have HG:=q9 G
  have HM2:=q9 M2
  clear M2 G o2
  by_cases hlt:i<ps.length
  ·have HI2:=q9 (show i+1<=ps.length/\ps.length - (i+1)<ps.length - i by omega)
   have hltz:(i:Int)<(ps.length:Int):=by omega
   have hi0:(0:Int)<=(i:Int):=by omega
   obtain ⟨p,hpi⟩:∃ p,ps[i]? = some p:=⟨ps[i],List.getElem?_eq_getElem hlt⟩
   obtain ⟨gp,op,rfl,d0⟩:=Zn hs2 hpi
   have HPI:=q9 hpi
   have hmv:=q77 ds HC.out (ps.take i)
   rw [List.length_take,Nat.min_eq_left hi] at hmv
   have HMV:=q9 hmv
   clear hpi hs2 hmv hlt
   go_wp2_with fail
   refine (q8x HMV.out (by omega) HM2.out (qh HF1.out.size HG.out.size) p).mono ?_;rintro e w3 ⟨rfl,hM3,G3⟩
   rw [<- q6r HPI.out] at hM3
   have HM3:=q9 (qc hM3 (HG.out.trans G3))
   clear hM3 G3 d0 c5
   go_wp2_with fail
   go_roundw
   case rel=>exact ⟨i+1,HI2.out.1,by simp,HM3.out.1,HM3.out.2⟩
   case measure=>exact meas rfl HI2.out.2
  ·obtain rfl:i=ps.length:=by omega
   have c7:wr.cell? ⟨b,7,none⟩=some (.pointer (some ⟨y2.p,0,none⟩)):=(zw HM2.out.ob).2.2.2.2.2.2.2.1
   clear hs2
   go_wp2_with fail
   go_ret
   have hA:=HM2.out.ar
   rw [List.take_length] at hA
   have h1:=HM2.out.base y2.p (by rw [HM2.out.cp];decide)
   have h2:=HM2.out.base y2.q (by rw [HM2.out.cq];decide)
   have hb1:=HBS.out
   obtain ⟨S,hS,F⟩:=HG.out
   exact ⟨y2.p,y2.q,rfl,by omega,by omega,hA,(HF0.out.trans HF1.out).own F (fun k hk=>by have:=hS k hk;omega)⟩
end Go.Proofs.YtppajakfaomkaaaGreatDoor.Mx
namespace Go.Proofs.YtppajakfaomkaaaGreatDoor.Wd
open Go.RowKit Ar Og Ref Mx Op10
theorem q6g {w:World} {α:Type} {f:α->List Value} {v:Value} {xs:List α} (h:Sq f w v xs) (hne:xs≠[]):∀ k,k∈v.ownBlock.toList->k<w.heap.size:=Q7 h hne
theorem qcg {w:World} {c:Cf} {rs:List (List O)} {ss:List Sv} {ps ds:List Int} {vo vp vd:Value} (h1:Rws w vo rs ss) (h2:Law.Ints w .i64 vp ps) (h3:Sq fI w vp ps) (h4:Law.Ints w .i64 vd ds) (h5:Sq fI w vd ds) :
  Tg w (.agg #[.int .i64 c.t,.int .i64 c.c,.int .i64 c.wd,.int .i64 c.v,vo,vp,vd]) c rs ps ds vo vp vd ss (List.range w.heap.size):=by
 refine ⟨rfl,⟨vo,vp,vd,rfl,h1.r,h2,h4⟩,⟨h1.sq,h1.len,fun i s r e1 e2=>⟨h1.row i s r e1 e2,fun hne k hk=>List.mem_range.2 (q6g (h1.row i s r e1 e2) hne k hk)⟩,fun hne k hk=>List.mem_range.2 (q6g h1.sq (fun e=>hne (by have:=h1.len;rw [e] at this;exact List.eq_nil_of_length_eq_zero this.symm)) k hk)⟩,h5,fun hne k hk=>List.mem_range.2 (q6g h5 hne k hk),h3,fun k hk=>List.mem_range.1 hk⟩
end Go.Proofs.YtppajakfaomkaaaGreatDoor.Wd
namespace Go.Proofs.YtppajakfaomkaaaGreatDoor.Mx
open Go.RowKit Ar Ref Og Mp
theorem q61 (l:List Int) (p v:Int):(yp l p v).length=l.length:=by unfold yp;split <;> simp
def Ln (n:Nat) (s:St):Prop:=s.l.length=n
theorem Za {n:Nat} {s:St} (h:Ln n s) (p:Int):Ln n (s.load p):=h
theorem Xj {n:Nat} {s:St} (h:Ln n s) (p v:Int):Ln n (s.store p v):=(q61 _ _ _).trans h
theorem q1i {n:Nat} {s:St} (h:Ln n s) (p v:Int):Ln n (s.add p v):=(q61 _ _ _).trans h
theorem Xc {n:Nat} {s:St} (h:Ln n s) (p o v:Int):Ln n (s.swap p o v):=by
 unfold St.swap;split
 ·exact (q61 _ _ _).trans h
 ·exact h
theorem qaz {n:Nat} {s:St} (h:Ln n s) (x:Wk):Ln n (x.step s).2:=by unfold Wk.step;split <;> exact h
theorem ln_cl {n:Nat} {s:St} (h:Ln n s) (x:Cl):Ln n (x.step s).2:=by
 unfold Cl.step Cl.act;split
 ·simp only;repeat' split
  all_goals first | exact Za h _ | exact Xj h _ _ | exact q1i h _ _ | exact Xc h _ _ _
 ·exact h
theorem qc4 {n:Nat} {s:St} (h:Ln n s) (x:Lok):Ln n (x.step s).2:=by
 unfold Lok.step Lok.act;split
 ·simp only;repeat' split
  all_goals first | exact Za h _ | exact Xc h _ _ _
 ·exact h
theorem ln_km {n:Nat} {s:St} (h:Ln n s) (x:Km):Ln n (x.step s).2:=by
 unfold Km.step Km.act;split
 ·simp only;repeat' split
  all_goals first | exact Za h _ | exact Xj h _ _ | exact q1i h _ _ | exact Xc h _ _ _
 ·exact h
theorem ln_nd {n:Nat} {s:St} (h:Ln n s) (x:Nd):Ln n (x.step s).2:=by
 unfold Nd.step Nd.act;split
 ·simp only;repeat' split
  all_goals first | exact Za h _ | exact q1i h _ _ | exact Xc h _ _ _
 ·exact h
theorem ln_sl {n:Nat} {s:St} (h:Ln n s) (x:Sl):Ln n (x.step s).2:=by
 unfold Sl.step Sl.act;split
 ·simp only;repeat' split
  all_goals first | exact Za h _ | exact Xj h _ _ | exact Xc h _ _ _
 ·exact h
theorem ln_ld {n:Nat} {s:St} (h:Ln n s) (x:Ld):Ln n (x.step s).2:=by
 unfold Ld.step Ld.act;split
 ·simp only;repeat' split
  all_goals first | exact Za h _ | exact Xc h _ _ _
 ·exact h
theorem ln_sp {n:Nat} {s:St} (h:Ln n s) (x:Sp):Ln n (x.step s).2:=by
 unfold Sp.step Sp.act;split
 ·simp only;repeat' split
  all_goals first | exact Za h _ | exact Xj h _ _ | exact Xc h _ _ _
 ·exact h
theorem ln_bd {n:Nat} {s:St} (h:Ln n s) (x:Bd):Ln n (x.step s).2:=by
 unfold Bd.step
 repeat' split
 all_goals first | exact Za h _ | exact Xj h _ _ | exact q1i h _ _ | exact Xc h _ _ _ | exact h
theorem ln_md {n:Nat} {s:St} (h:Ln n s) (x:Md):Ln n (x.step s).2:=by
 unfold Md.step
 split
 ·exact h
 ·simp only
  repeat' split
  all_goals first | exact h | exact ln_ld h _ | exact ln_sl h _ | exact Za h _ | exact ln_nd h _ | exact ln_bd h _ | exact ln_sp h _
theorem ln_pt {n:Nat} {s:St} (h:Ln n s) (x:Pt):Ln n (x.step s).2:=by
 unfold Pt.step
 repeat' split
 all_goals first | exact h | exact ln_md h _ | exact ln_cl h _ | exact qaz h _
theorem ln_gt {n:Nat} {s:St} (h:Ln n s) (x:Gt):Ln n (x.step s).2:=by
 unfold Gt.step
 repeat' split
 all_goals first | exact h | exact qc4 h _ | exact qaz h _
theorem ln_sn {n:Nat} {s:St} (h:Ln n s) (x:Sn):Ln n (x.step s).2:=by
 unfold Sn.step
 repeat' split
 all_goals first | exact h | exact ln_km h _ | exact qaz h _ | exact qc4 h _ | exact Za h _ | exact Xj h _ _
theorem q96 {n:Nat} {m:Mc} (h:Ln n m.a) (t:Int) (k:Nat):Ln n (m.steps t k).a:=by
 unfold Mc.steps
 simp only
 split
 ·exact ln_pt h _
 ·split
  ·exact ln_gt h _
  ·split
   ·exact ln_sn h _
   ·exact h
theorem q8y {n:Nat} {m:Mc} (h:Ln n m.a):Ln n m.notes.a:=by
 have e:m.notes.a=m.a:=by
  unfold Mc.notes
  simp only
  split
  ·split
   ·simp only;split <;> rfl
   ·split <;> rfl
  ·split <;> rfl
 rw [e];exact h
theorem qab {n:Nat} {m:Mc} (h:Ln n m.a) (t:Int):Ln n (m.pick t).a:=by
 unfold Mc.pick
 split
 ·exact h
 ·simp only
  have h1:Ln n (if (m.th t).busy=true then m else m.begins t).a:=by split <;> exact h
  generalize (if (m.th t).busy=true then m else m.begins t)=m1 at *
  split
  ·have h2:=q96 h1 t (by assumption)
   split
   ·exact q8y h2
   ·exact h2
  ·exact h1
theorem q9v {n:Nat}:∀ (ps:List Int) (m:Mc),Ln n m.a->Ln n (ps.foldl Mc.pick m).a
 | [],_,h=>h
 | p :: ps,m,h=>q9v ps _ (qab h p)
theorem runP_len {c:Cf} (hc:c.Ok) (rs:List (List O)) (ds ps:List Int):((q3f c rs ds ps).a.l.length:Int)=c.wd:=by
 have h:=q9v ps (Mc.new c rs ds) (n:=c.wd.toNat) (Pl.Y6 (wd:=c.wd) hc.t1 hc.t8 (by have:=hc.c2;have:=hc.t1;omega) hc.top).1
 have e:(q3f c rs ds ps).a.l.length=c.wd.toNat:=h
 have:=hc.w1
 omega
structure Mem where
 F:Int->Int->Int
 hn:Int
 ht:Int->Int
 top:Int
def upd (F:Int->Int->Int) (b g v:Int):Int->Int->Int:=fun a f=>if a=b/\f=g then v else F a f
theorem upd_same (F:Int->Int->Int) (b g v:Int):upd F b g v b g=v:=qf ⟨rfl,rfl⟩
theorem xg {F:Int->Int->Int} {b g v a f:Int} (h:f≠g):upd F b g v a f=F a f:=qd (fun e=>h e.2)
theorem Um {F:Int->Int->Int} {b g v a f:Int} (h:a≠b):upd F b g v a f=F a f:=qd (fun e=>h e.1)
def Mem.set (M:Mem) (b g v:Int):Mem:={ M with F:=upd M.F b g v }
def Al (c:Cf) (a:Int):Prop:=∃ k:Nat,a=ku c+(k:Int) * za c
theorem q8g {c:Cf} (hc:c.Ok) {a b:Int} (ha:Al c a) (hb:Al c b) (h:a≠b):a+za c<=b\/b+za c<=a:=by
 obtain ⟨i,rfl⟩:=ha
 obtain ⟨j,rfl⟩:=hb
 have hs:0<za c:=by have:=hc.c2;have:=hc.t1;unfold za;omega
 generalize za c=S at *
 rcases Nat.lt_trichotomy i j with hij | hij | hij
 ·left
  have:((i:Int)+1) * S<=(j:Int) * S:=Int.mul_le_mul_of_nonneg_right (by omega) (by omega)
  rw [Int.add_mul,Int.one_mul] at this
  omega
 ·exact absurd (by rw [hij]) h
 ·right
  have:((j:Int)+1) * S<=(i:Int) * S:=Int.mul_le_mul_of_nonneg_right (by omega) (by omega)
  rw [Int.add_mul,Int.one_mul] at this
  omega
theorem qd3 {c:Cf} (hc:c.Ok) {a b f g:Int} (ha:Al c a) (hb:Al c b) (hf:0<=f/\f<za c) (hg:0<=g/\g<za c) (h:a+f=b+g):a=b/\f=g:=by
 by_cases e:a=b
 ·exact ⟨e,by omega⟩
 ·rcases q8g hc ha hb e with h1 | h1 <;> omega
theorem Z2 {c:Cf} (hc:c.Ok) {a:Int} (h:Al c a):ku c<=a/\15<=a:=by
 obtain ⟨k,rfl⟩:=h
 have hs:0<=(k:Int) * za c:=Int.mul_nonneg (by omega) (by have:=hc.c2;have:=hc.t1;unfold za;omega)
 have:=hc.t1
 unfold ku at *
 omega
structure KI (c:Cf) (K:Int->Prop) (up:Int->Int) (M:Mem):Prop where
 al:∀ a,K a->Al c a/\a+za c<=c.wd/\a+za c<=M.top
 top:Al c M.top
 hd:∃ a,K a/\M.hn=2 * a/\M.F a 0=0
 mn:∀ a,K a->0<=M.F a 0/\M.F a 0<up a/\up a<=64
 nx:∀ a,K a->(M.F a 2 / 2=0/\up a=64)\/(K (M.F a 2 / 2)/\M.F (M.F a 2 / 2) 0=up a)
 ld:∀ a,K a->M.F a 3=0\/(K (M.F a 3)/\(M.F a 3=a\/(M.F (M.F a 3) 4=a/\M.F (M.F a 3) 2 % 2=1)))
 mt:∀ a,K a->M.F a 4=0\/M.F a 4=1\/(K (M.F a 4)/\M.F a 2 / 2=M.F a 4/\M.F a 2 % 2=1)
 rp:∀ a,K a->M.F a 5=0\/(K (M.F a 5)/\M.F (M.F a 5) 0=M.F a 0)
 ht:∀ k,0<=k->k<4->M.ht k=0\/K (M.ht k)
 cl:∀ a i,K a->0<=i->i<c.c->1<=M.F a (7+3 * i)->M.F a (7+3 * i)≠2->M.F a 0<=M.F a (8+3 * i)/\M.F a (8+3 * i)<up a
 cf:∀ a i,K a->0<=i->i<c.c->M.F a 1<=i->M.F a (7+3 * i)=0\/M.F a (7+3 * i)=2
section
variable {c:Cf} {K:Int->Prop} {up:Int->Int} {M:Mem}
theorem KI.pos (hc:c.Ok) (h:KI c K up M) {a:Int} (ha:K a):15<=a:=(Z2 hc (h.al a ha).1).2
theorem KI.setFree (h:KI c K up M) (b g v:Int) (hg:g=1\/g=6) (hv:g=1->M.F b 1<=v):KI c K up (M.set b g v):=by
 have f0:∀ a,upd M.F b g v a 0=M.F a 0:=fun a=>xg (by omega)
 have f2:∀ a,upd M.F b g v a 2=M.F a 2:=fun a=>xg (by omega)
 have f3:∀ a,upd M.F b g v a 3=M.F a 3:=fun a=>xg (by omega)
 have f4:∀ a,upd M.F b g v a 4=M.F a 4:=fun a=>xg (by omega)
 have f5:∀ a,upd M.F b g v a 5=M.F a 5:=fun a=>xg (by omega)
 unfold Mem.set
 refine ⟨h.al,h.top,?_,?_,?_,?_,?_,?_,h.ht,?_,?_⟩ <;> simp only [f0,f2,f3,f4,f5]
 ·exact h.hd
 ·exact h.mn
 ·exact h.nx
 ·exact h.ld
 ·exact h.mt
 ·exact h.rp
 ·intro a i ha h0 h1
  rw [xg (show 7+3 * i≠g by omega),xg (show 8+3 * i≠g by omega)]
  exact h.cl a i ha h0 h1
 ·intro a i ha h0 h1 h2
  rw [xg (show 7+3 * i≠g by omega)]
  refine h.cf a i ha h0 h1 (Int.le_trans ?_ h2)
  by_cases e:a=b/\(1:Int)=g
  ·unfold upd;rw [qf e,e.1];exact hv e.2.symm
  ·unfold upd;rw [qd e];exact Int.le_refl _
theorem KI.setLead (h:KI c K up M) {b v:Int} (hv:K v) (hb:v=b\/(M.F v 4=b/\M.F v 2 % 2=1)):KI c K up (M.set b 3 v):=by
 have f0:∀ a,upd M.F b 3 v a 0=M.F a 0:=fun a=>xg (by omega)
 have f2:∀ a,upd M.F b 3 v a 2=M.F a 2:=fun a=>xg (by omega)
 have f4:∀ a,upd M.F b 3 v a 4=M.F a 4:=fun a=>xg (by omega)
 have f5:∀ a,upd M.F b 3 v a 5=M.F a 5:=fun a=>xg (by omega)
 unfold Mem.set
 refine ⟨h.al,h.top,?_,?_,?_,?_,?_,?_,h.ht,?_,?_⟩ <;> simp only [f0,f2,f4,f5]
 ·exact h.hd
 ·exact h.mn
 ·exact h.nx
 ·intro a ha
  by_cases e:a=b
  ·subst e;rw [upd_same];exact .inr ⟨hv,hb⟩
  ·rw [Um e];exact h.ld a ha
 ·exact h.mt
 ·exact h.rp
 ·intro a i ha h0 h1
  rw [xg (show 7+3 * i≠3 by omega),xg (show 8+3 * i≠3 by omega)]
  exact h.cl a i ha h0 h1
 ·intro a i ha h0 h1
  rw [xg (show 7+3 * i≠3 by omega),xg (show (1:Int)≠3 by omega)]
  exact h.cf a i ha h0 h1
theorem KI.setMate (hc:c.Ok) (h:KI c K up M) {b v:Int} (h0:M.F b 4=0) (hv:v=1\/(K v/\M.F b 2 / 2=v/\M.F b 2 % 2=1)):KI c K up (M.set b 4 v):=by
 have f0:∀ a,upd M.F b 4 v a 0=M.F a 0:=fun a=>xg (by omega)
 have f2:∀ a,upd M.F b 4 v a 2=M.F a 2:=fun a=>xg (by omega)
 have f3:∀ a,upd M.F b 4 v a 3=M.F a 3:=fun a=>xg (by omega)
 have f5:∀ a,upd M.F b 4 v a 5=M.F a 5:=fun a=>xg (by omega)
 unfold Mem.set
 refine ⟨h.al,h.top,?_,?_,?_,?_,?_,?_,h.ht,?_,?_⟩ <;> simp only [f0,f2,f3,f5]
 ·exact h.hd
 ·exact h.mn
 ·exact h.nx
 ·intro a ha
  rcases h.ld a ha with e | ⟨k,e | ⟨e1,e2⟩⟩
  ·exact .inl e
  ·exact .inr ⟨k,.inl e⟩
  ·refine .inr ⟨k,.inr ⟨?_,e2⟩⟩
   by_cases e:M.F a 3=b
   ·rw [e] at e1;have:=h.pos hc ha;omega
   ·rw [Um e];exact e1
 ·intro a ha
  by_cases e:a=b
  ·subst e;rw [upd_same];exact hv.imp (fun _=>hv) id |>.elim (fun _=>hv.elim (fun e=>.inr (.inl e)) (fun e=>.inr (.inr e))) (fun e=>.inr (.inr e))
  ·rw [Um e];exact h.mt a ha
 ·exact h.rp
 ·intro a i ha h0 h1
  rw [xg (show 7+3 * i≠4 by omega),xg (show 8+3 * i≠4 by omega)]
  exact h.cl a i ha h0 h1
 ·intro a i ha h0 h1
  rw [xg (show 7+3 * i≠4 by omega),xg (show (1:Int)≠4 by omega)]
  exact h.cf a i ha h0 h1
theorem KI.setNext (h:KI c K up M) {b v:Int} (h0:M.F b 2 % 2=0) (hv:(v / 2=0/\up b=64)\/(K (v / 2)/\M.F (v / 2) 0=up b)):KI c K up (M.set b 2 v):=by
 have f0:∀ a,upd M.F b 2 v a 0=M.F a 0:=fun a=>xg (by omega)
 have f3:∀ a,upd M.F b 2 v a 3=M.F a 3:=fun a=>xg (by omega)
 have f4:∀ a,upd M.F b 2 v a 4=M.F a 4:=fun a=>xg (by omega)
 have f5:∀ a,upd M.F b 2 v a 5=M.F a 5:=fun a=>xg (by omega)
 unfold Mem.set
 refine ⟨h.al,h.top,?_,?_,?_,?_,?_,?_,h.ht,?_,?_⟩ <;> simp only [f0,f3,f4,f5]
 ·exact h.hd
 ·exact h.mn
 ·intro a ha
  by_cases e:a=b
  ·subst e;rw [upd_same];exact hv
  ·rw [Um e];exact h.nx a ha
 ·intro a ha
  rcases h.ld a ha with e | ⟨k,e | ⟨e1,e2⟩⟩
  ·exact .inl e
  ·exact .inr ⟨k,.inl e⟩
  ·refine .inr ⟨k,.inr ⟨e1,?_⟩⟩
   by_cases e:M.F a 3=b
   ·rw [e] at e2;omega
   ·rw [Um e];exact e2
 ·intro a ha
  by_cases e:a=b
  ·subst e
   rcases h.mt a ha with k | k | ⟨k1,k2,k3⟩
   ·exact .inl k
   ·exact .inr (.inl k)
   ·omega
  ·rw [Um e];exact h.mt a ha
 ·exact h.rp
 ·intro a i ha h0 h1
  rw [xg (show 7+3 * i≠2 by omega),xg (show 8+3 * i≠2 by omega)]
  exact h.cl a i ha h0 h1
 ·intro a i ha h0 h1
  rw [xg (show 7+3 * i≠2 by omega),xg (show (1:Int)≠2 by omega)]
  exact h.cf a i ha h0 h1
theorem KI.setRepl (h:KI c K up M) {b v:Int} (hv:K v/\M.F v 0=M.F b 0):KI c K up (M.set b 5 v):=by
 have f0:∀ a,upd M.F b 5 v a 0=M.F a 0:=fun a=>xg (by omega)
 have f2:∀ a,upd M.F b 5 v a 2=M.F a 2:=fun a=>xg (by omega)
 have f3:∀ a,upd M.F b 5 v a 3=M.F a 3:=fun a=>xg (by omega)
 have f4:∀ a,upd M.F b 5 v a 4=M.F a 4:=fun a=>xg (by omega)
 unfold Mem.set
 refine ⟨h.al,h.top,?_,?_,?_,?_,?_,?_,h.ht,?_,?_⟩ <;> simp only [f0,f2,f3,f4]
 ·exact h.hd
 ·exact h.mn
 ·exact h.nx
 ·exact h.ld
 ·exact h.mt
 ·intro a ha
  by_cases e:a=b
  ·subst e;rw [upd_same];exact .inr hv
  ·rw [Um e];exact h.rp a ha
 ·intro a i ha h0 h1
  rw [xg (show 7+3 * i≠5 by omega),xg (show 8+3 * i≠5 by omega)]
  exact h.cl a i ha h0 h1
 ·intro a i ha h0 h1
  rw [xg (show 7+3 * i≠5 by omega),xg (show (1:Int)≠5 by omega)]
  exact h.cf a i ha h0 h1
theorem KI.setCell (h:KI c K up M) {b j v:Int} (hj:0<=j) {o:Int} (ho:o=7\/o=8\/o=9)
  (hv:K b->j<c.c->(o=7->v<1\/v=2\/(M.F b 0<=M.F b (8+3 * j)/\M.F b (8+3 * j)<up b))/\(o=8->M.F b (7+3 * j)<1\/M.F b (7+3 * j)=2)/\(o=7->v=2\/j<M.F b 1)):KI c K up (M.set b (o+3 * j) v):=by
 have f0:∀ a,upd M.F b (o+3 * j) v a 0=M.F a 0:=fun a=>xg (by omega)
 have f2:∀ a,upd M.F b (o+3 * j) v a 2=M.F a 2:=fun a=>xg (by omega)
 have f3:∀ a,upd M.F b (o+3 * j) v a 3=M.F a 3:=fun a=>xg (by omega)
 have f4:∀ a,upd M.F b (o+3 * j) v a 4=M.F a 4:=fun a=>xg (by omega)
 have f5:∀ a,upd M.F b (o+3 * j) v a 5=M.F a 5:=fun a=>xg (by omega)
 unfold Mem.set
 refine ⟨h.al,h.top,?_,?_,?_,?_,?_,?_,h.ht,?_,?_⟩ <;> simp only [f0,f2,f3,f4,f5]
 ·exact h.hd
 ·exact h.mn
 ·exact h.nx
 ·exact h.ld
 ·exact h.mt
 ·exact h.rp
 ·intro a i ha h0 h1
  by_cases e:a=b/\i=j
  ·obtain ⟨rfl,rfl⟩:=e
   obtain ⟨v1,v2,-⟩:=hv ha h1
   rcases ho with rfl | rfl | rfl
   ·rw [upd_same,xg (show 8+3 * i≠7+3 * i by omega)]
    intro h2 h3
    rcases v1 rfl with k | k | k
    ·omega
    ·exact absurd k h3
    ·exact k
   ·rw [upd_same,xg (show 7+3 * i≠8+3 * i by omega)]
    intro h2 h3
    rcases v2 rfl with k | k
    ·omega
    ·exact absurd k h3
   ·rw [xg (show 7+3 * i≠9+3 * i by omega),xg (show 8+3 * i≠9+3 * i by omega)]
    exact h.cl a i ha h0 h1
  ·have n7:¬ (a=b/\7+3 * i=o+3 * j):=fun k=>e ⟨k.1,by omega⟩
   have n8:¬ (a=b/\8+3 * i=o+3 * j):=fun k=>by
    rcases ho with rfl | rfl | rfl
    ·omega
    ·exact e ⟨k.1,by omega⟩
    ·omega
   unfold upd
   rw [qd n7,qd n8]
   exact h.cl a i ha h0 h1
 ·intro a i ha h0 h1
  rw [xg (show (1:Int)≠o+3 * j by omega)]
  intro h2
  by_cases e:a=b/\7+3 * i=o+3 * j
  ·obtain ⟨rfl,e2⟩:=e
   obtain rfl:o=7:=by omega
   obtain rfl:i=j:=by omega
   rw [upd_same]
   rcases (hv ha h1).2.2 rfl with k | k
   ·exact .inr k
   ·omega
  ·unfold upd;rw [qd e];exact h.cf a i ha h0 h1 h2
theorem KI.setHint (h:KI c K up M) {b v:Int} (hv:K v):KI c K up { M with ht:=fun k=>if k=b then v else M.ht k } :=
 ⟨h.al,h.top,h.hd,h.mn,h.nx,h.ld,h.mt,h.rp,fun k h0 h1=>by simp only;split;exact .inr hv;exact h.ht k h0 h1,h.cl,h.cf⟩
theorem KI.setHead (h:KI c K up M) {v:Int} (hv:K v/\M.F v 0=0):KI c K up { M with hn:=2 * v }:=⟨h.al,h.top,⟨v,hv.1,rfl,hv.2⟩,h.mn,h.nx,h.ld,h.mt,h.rp,h.ht,h.cl,h.cf⟩
theorem KI.setTop (hc:c.Ok) (h:KI c K up M) (n:Nat):KI c K up { M with top:=M.top+(n:Int) * za c }:=by
 have hs:0<=(n:Int) * za c:=Int.mul_nonneg (by omega) (by have:=hc.c2;have:=hc.t1;unfold za;omega)
 refine ⟨fun a ha=>⟨(h.al a ha).1,(h.al a ha).2.1,by have:=(h.al a ha).2.2;simp only;omega⟩,?_,h.hd,h.mn,h.nx,h.ld,h.mt,h.rp,h.ht,h.cl,h.cf⟩
 obtain ⟨k,hk⟩:=h.top
 exact ⟨k+n,by simp only;rw [hk];push_cast;rw [Int.add_mul];omega⟩
structure qcd (c:Cf) (K:Int->Prop) (up:Int->Int) (M:Mem) (a:Int):Prop where
 al:Al c a/\a+za c<=c.wd/\a+za c<=M.top
 mn:0<=M.F a 0/\M.F a 0<up a/\up a<=64
 nx:(M.F a 2 / 2=0/\up a=64)\/(K (M.F a 2 / 2)/\M.F (M.F a 2 / 2) 0=up a)
 ld:M.F a 3=0
 mt:M.F a 4=0
 rp:M.F a 5=0
 cl:∀ i,0<=i->i<c.c->1<=M.F a (7+3 * i)->M.F a (7+3 * i)≠2->M.F a 0<=M.F a (8+3 * i)/\M.F a (8+3 * i)<up a
 cf:∀ i,0<=i->i<c.c->M.F a 1<=i->M.F a (7+3 * i)=0\/M.F a (7+3 * i)=2
 c16:0<=M.F a 1/\M.F a 1<=16
theorem KI.grow {K':Int->Prop} {up':Int->Int} {M':Mem} (h:KI c K up M) (hK:∀ a,K a->K' a) (hu:∀ a,K a->up' a=up a) (hF:∀ a,K a->∀ f,M'.F a f=M.F a f) (e1:M'.hn=M.hn) (e2:∀ k,M'.ht k=M.ht k) (e3:M'.top=M.top) (hn:∀ a,K' a->¬ K a->qcd c K' up' M' a):KI c K' up' M':=by
 refine ⟨fun a ha=>?_,by rw [e3];exact h.top,?_,fun a ha=>?_,fun a ha=>?_,fun a ha=>?_,fun a ha=>?_,fun a ha=>?_,fun k h0 h1=>?_,fun a i ha=>?_,fun a i ha=>?_⟩
 ·by_cases k:K a
  ·rw [e3];exact h.al a k
  ·exact (hn a ha k).al
 ·obtain ⟨a,h1,h2,h3⟩:=h.hd
  exact ⟨a,hK a h1,by rw [e1];exact h2,by rw [hF a h1];exact h3⟩
 ·by_cases k:K a
  ·rw [hF a k,hu a k];exact h.mn a k
  ·exact (hn a ha k).mn
 ·by_cases k:K a
  ·rw [hF a k,hu a k]
   rcases h.nx a k with e | ⟨e,e'⟩
   ·exact .inl e
   ·exact .inr ⟨hK _ e,by rw [hF _ e];exact e'⟩
  ·exact (hn a ha k).nx
 ·by_cases k:K a
  ·rw [hF a k]
   rcases h.ld a k with e | ⟨e,e'⟩
   ·exact .inl e
   ·exact .inr ⟨hK _ e,by rw [hF _ e,hF _ e];exact e'⟩
  ·exact .inl (hn a ha k).ld
 ·by_cases k:K a
  ·rw [hF a k,hF a k]
   rcases h.mt a k with e | e | ⟨e,e'⟩
   ·exact .inl e
   ·exact .inr (.inl e)
   ·exact .inr (.inr ⟨hK _ e,e'⟩)
  ·exact .inl (hn a ha k).mt
 ·by_cases k:K a
  ·rw [hF a k,hF a k]
   rcases h.rp a k with e | ⟨e,e'⟩
   ·exact .inl e
   ·exact .inr ⟨hK _ e,by rw [hF _ e];exact e'⟩
  ·exact .inl (hn a ha k).rp
 ·rw [e2];exact (h.ht k h0 h1).imp id (hK _)
 ·by_cases k:K a
  ·rw [hF a k,hF a k,hF a k,hu a k];exact h.cl a i k
  ·exact (hn a ha k).cl i
 ·by_cases k:K a
  ·rw [hF a k,hF a k];exact h.cf a i k
  ·exact (hn a ha k).cf i
end
theorem Ud (l:List Int) (q:Int):qq l q=if 0<=q/\q<(l.length:Int) then l.getD q.toNat 0 else 0:=by
 unfold qq Ri nth
 simp only [Bool.and_eq_true,decide_eq_true_eq]
theorem vk (l:List Int) (p v q:Int):qq (yp l p v) q=if q=p/\0<=p/\p<(l.length:Int) then v else qq l q:=by
 by_cases hp:0<=p/\p<(l.length:Int)
 ·obtain ⟨k,rfl⟩:=Int.eq_ofNat_of_zero_le hp.1
  have hk:k<l.length:=by omega
  have e:yp l (k:Int) v=l.set k v:=by unfold yp Ri;simp [hk]
  rw [e,Ud,Ud l,List.length_set]
  by_cases hq:0<=q/\q<(l.length:Int)
  ·rw [qf hq,qf hq]
   by_cases h:q=(k:Int)
   ·subst h
    rw [qf ⟨rfl,hp⟩,Int.toNat_natCast,List.getD_eq_getElem?_getD,List.getElem?_set_self hk];rfl
   ·rw [qd (fun e=>h e.1),List.getD_eq_getElem?_getD,List.getElem?_set_ne (by omega),List.getD_eq_getElem?_getD]
  ·rw [qd hq,qd hq,qd (fun e=>hq (by rw [e.1];exact e.2))]
 ·have e:yp l p v=l:=by unfold yp Ri;rw [qd (by simpa using hp)]
  rw [e,qd (fun h=>hp h.2)]
theorem q9e {l:List Int} {q:Int} (h:q<0\/(l.length:Int)<=q):qq l q=0:=by
 rw [Ud,qd (by omega)]
theorem wu (l:List Int) (p v:Int):(yp l p v).length=l.length:=by unfold yp;split <;> simp
structure Rel (c:Cf) (l:List Int) (K:Int->Prop) (M:Mem):Prop where
 len:(l.length:Int)=c.wd
 F:∀ a,K a->∀ f,0<=f->f<za c->qq l (a+f)=M.F a f
 hn:qq l (xm c+2)=M.hn
 ht:∀ k,0<=k->k<4->qq l (3+c.t+k)=M.ht k
 top:qq l 2=M.top
 fz:∀ p,M.top<=p->qq l p=0
structure Gst where
 K:Int->Prop
 up:Int->Int
 M:Mem
structure OkG (c:Cf) (g:Gst) (l:List Int):Prop where
 ki:KI c g.K g.up g.M
 rel:Rel c l g.K g.M
structure Ext (c:Cf) (g g':Gst):Prop where
 K:∀ a,g.K a->g'.K a
 up:∀ a,g.K a->g'.up a=g.up a
 mn:∀ a,g.K a->g'.M.F a 0=g.M.F a 0
 nm:∀ a,g.K a->g.M.F a 2 % 2=1->g'.M.F a 2=g.M.F a 2
 ld:∀ a,g.K a->g.M.F a 3≠0->g'.M.F a 3=g.M.F a 3
 mt:∀ a,g.K a->g.M.F a 4≠0->g'.M.F a 4=g.M.F a 4
 rp:∀ a,g.K a->g.M.F a 5≠0->g'.M.F a 5=g.M.F a 5
 gv:∀ a i,g.K a->0<=i->i<c.c->3<=g.M.F a (7+3 * i)->g'.M.F a (7+3 * i)=g.M.F a (7+3 * i)/\g'.M.F a (8+3 * i)=g.M.F a (8+3 * i)/\g'.M.F a (9+3 * i)=g.M.F a (9+3 * i)
 ct:∀ a,g.K a->g.M.F a 1<=g'.M.F a 1
 top:g.M.top<=g'.M.top
theorem Ext.refl (c:Cf) (g:Gst):Ext c g g:=⟨fun _ h=>h,fun _ _=>rfl,fun _ _=>rfl,fun _ _ _=>rfl,fun _ _ _=>rfl,fun _ _ _=>rfl,fun _ _ _=>rfl,fun _ _ _ _ _ _=>⟨rfl,rfl,rfl⟩,fun _ _=>Int.le_refl _,Int.le_refl _⟩
theorem Ext.trans {c:Cf} {g g' g2:Gst} (h:Ext c g g') (k:Ext c g' g2):Ext c g g2 :=
 ⟨fun a e=>k.K a (h.K a e),fun a e=>(k.up a (h.K a e)).trans (h.up a e),fun a e=>(k.mn a (h.K a e)).trans (h.mn a e),
  fun a e e2=>(k.nm a (h.K a e) (by rw [h.nm a e e2];exact e2)).trans (h.nm a e e2),
  fun a e e2=>(k.ld a (h.K a e) (by rw [h.ld a e e2];exact e2)).trans (h.ld a e e2),
  fun a e e2=>(k.mt a (h.K a e) (by rw [h.mt a e e2];exact e2)).trans (h.mt a e e2),
  fun a e e2=>(k.rp a (h.K a e) (by rw [h.rp a e e2];exact e2)).trans (h.rp a e e2),
  fun a i e e0 e1 e2=>by
   obtain ⟨h1,h2,h3⟩:=h.gv a i e e0 e1 e2
   obtain ⟨k1,k2,k3⟩:=k.gv a i (h.K a e) e0 e1 (by rw [h1];exact e2)
   exact ⟨k1.trans h1,k2.trans h2,k3.trans h3⟩,
  fun a e=>Int.le_trans (h.ct a e) (k.ct a (h.K a e)),Int.le_trans h.top k.top⟩
structure Kp (c:Cf) (g:Gst) (l:List Int) (g':Gst) (l':List Int) (mc:Int->Int->Prop) (mp:Int->Prop):Prop where
 cell:∀ a i,g.K a->0<=i->i<c.c->¬ mc a i->(g.M.F a (7+3 * i)=0\/g.M.F a (7+3 * i)=2)->(g'.M.F a (7+3 * i)=0\/g'.M.F a (7+3 * i)=2)/\g'.M.F a (8+3 * i)=g.M.F a (8+3 * i)
 priv:∀ p,ku c<=p->p<g.M.top->(∀ a,g.K a->¬ (a<=p/\p<a+za c))->¬ mp p->qq l' p=qq l p/\∀ a,g'.K a->¬ (a<=p/\p<a+za c)
structure Goes (c:Cf) (g:Gst) (l:List Int) (g':Gst) (l':List Int) (mc:Int->Int->Prop) (mp:Int->Prop):Prop where
 ok:OkG c g' l'
 ext:Ext c g g'
 kp:Kp c g l g' l' mc mp
 cu:∀ a,g'.K a->(g.K a/\g'.M.F a 1<=g.M.F a 1+1)\/(0<=g'.M.F a 1/\g'.M.F a 1<=16)
 tu:g'.M.top<=g.M.top+3000
def no2:Int->Int->Prop:=fun _ _=>False
def no1:Int->Prop:=fun _=>False
section
variable {c:Cf} {g:Gst} {l:List Int}
theorem Goes.same (h:OkG c g l) (mc:Int->Int->Prop) (mp:Int->Prop):Goes c g l g l mc mp :=
 ⟨h,Ext.refl c g,⟨fun a i _ _ _ _ e=>⟨e,rfl⟩,fun p _ _ e _=>⟨rfl,e⟩⟩,fun a k=>.inl ⟨k,by omega⟩,by omega⟩
theorem Goes.weak {g':Gst} {l':List Int} {mc mc':Int->Int->Prop} {mp mp':Int->Prop} (h:Goes c g l g' l' mc mp) (h1:∀ a i,mc a i->mc' a i) (h2:∀ p,mp p->mp' p):Goes c g l g' l' mc' mp' :=
 ⟨h.ok,h.ext,⟨fun a i e0 e1 e2 e3=>h.kp.cell a i e0 e1 e2 (fun k=>e3 (h1 a i k)),fun p e0 e1 e2 e3=>h.kp.priv p e0 e1 e2 (fun k=>e3 (h2 p k))⟩,h.cu,h.tu⟩
def Gst.set (g:Gst) (b f v:Int):Gst:={ g with M:=g.M.set b f v }
theorem Rel.low (hc:c.Ok) (h:OkG c g l) {a:Int} (ha:g.K a):14+c.t<=a/\a+za c<=c.wd/\a+za c<=g.M.top/\0<za c:=by
 obtain ⟨h1,h2,h3⟩:=h.ki.al a ha
 have:=(Z2 hc h1).1
 have:=hc.c2;have:=hc.t1
 unfold ku at *
 exact ⟨by omega,h2,h3,by unfold za;omega⟩
theorem Rel.setF (hc:c.Ok) (h:OkG c g l) {b f:Int} (hb:g.K b) (hf:0<=f/\f<za c) (v:Int):Rel c (yp l (b+f) v) g.K (g.M.set b f v):=by
 obtain ⟨l1,l2,l3,l4⟩:=Rel.low hc h hb
 have hl:=h.rel.len
 have hin:0<=b+f/\b+f<(l.length:Int):=by have:=hc.t1;omega
 refine ⟨by rw [wu];exact hl,fun a ha f' h0 h1=>?_,?_,fun k h0 h1=>?_,?_,fun p hp=>?_⟩
 ·rw [vk]
  unfold Mem.set upd
  simp only
  by_cases e:a=b/\f'=f
  ·rw [qf ⟨by omega,hin⟩,qf e]
  ·rw [qd (fun k=>e (qd3 hc (h.ki.al a ha).1 (h.ki.al b hb).1 ⟨h0,h1⟩ hf k.1)),qd e]
   exact h.rel.F a ha f' h0 h1
 ·rw [vk,qd (by unfold xm;omega)];exact h.rel.hn
 ·rw [vk,qd (by omega)];exact h.rel.ht k h0 h1
 ·rw [vk,qd (by have:=hc.t1;omega)];exact h.rel.top
 ·rw [vk,qd (by have:(g.M.set b f v).top=g.M.top:=rfl;omega)];exact h.rel.fz p hp
theorem R8 (hc:c.Ok) (h:OkG c g l) {b f:Int} (hb:g.K b) (hf:0<=f/\f<za c) (v:Int):∀ p,ku c<=p->p<g.M.top->(∀ a,g.K a->¬ (a<=p/\p<a+za c))->qq (yp l (b+f) v) p=qq l p/\∀ a,(g.set b f v).K a->¬ (a<=p/\p<a+za c):=fun p _ _ e =>
 ⟨by rw [vk,qd (fun k=>e b hb (by omega))],e⟩
theorem Xk (hc:c.Ok) (h:OkG c g l) {b f:Int} (hb:g.K b) (hf:0<=f/\f<=6) (v:Int) (ki:KI c g.K g.up (g.M.set b f v)) (e:Ext c g (g.set b f v)) (hu:f=1->v<=g.M.F b 1+1):Goes c g l (g.set b f v) (yp l (b+f) v) no2 no1:=by
 have hs:f<za c:=by have:=hc.c2;have:=hc.t1;unfold za;omega
 refine ⟨⟨ki,Rel.setF hc h hb ⟨hf.1,hs⟩ v⟩,e,⟨fun a i ha h0 h1 _ k=>?_,fun p h0 h1 h2 _=>R8 hc h hb ⟨hf.1,hs⟩ v p h0 h1 h2⟩,fun a k=>.inl ⟨k,?_⟩,by show g.M.top<=_;omega⟩
 rotate_left
 ·unfold Gst.set Mem.set upd
  simp only
  split
  ·rename_i e1;rw [e1.1];exact hu e1.2.symm
  ·omega
 have e7:(g.set b f v).M.F a (7+3 * i)=g.M.F a (7+3 * i):=xg (by omega)
 have e8:(g.set b f v).M.F a (8+3 * i)=g.M.F a (8+3 * i):=xg (by omega)
 rw [e7,e8]
 exact ⟨k,rfl⟩
theorem Yn {b f v:Int} (hf:0<=f/\f<=6) (h0:f≠0) (h2:f=2->g.M.F b 2 % 2=0) (h3:f=3->g.M.F b 3=0) (h4:f=4->g.M.F b 4=0) (h5:f=5->g.M.F b 5=0) (h1:f=1->g.M.F b 1<=v):Ext c g (g.set b f v):=by
 have eq:∀ a f',(a≠b\/f'≠f)->(g.set b f v).M.F a f'=g.M.F a f':=fun a f' k=>k.elim (fun e=>Um e) (fun e=>xg e)
 refine ⟨fun _ k=>k,fun _ _=>rfl,fun a _=>eq a 0 (.inr (by omega)),fun a _ k=>?_,fun a _ k=>?_,fun a _ k=>?_,fun a _ k=>?_,fun a i _ i0 i1 k=>⟨eq a _ (.inr (by omega)),eq a _ (.inr (by omega)),eq a _ (.inr (by omega))⟩,fun a _=>?_,Int.le_refl _⟩
 ·refine eq a 2 ?_
  by_cases e:a=b
  ·right;intro e2;subst e;have:=h2 e2.symm;omega
  ·exact .inl e
 ·refine eq a 3 ?_
  by_cases e:a=b
  ·right;intro e2;subst e;exact k (h3 e2.symm)
  ·exact .inl e
 ·refine eq a 4 ?_
  by_cases e:a=b
  ·right;intro e2;subst e;exact k (h4 e2.symm)
  ·exact .inl e
 ·refine eq a 5 ?_
  by_cases e:a=b
  ·right;intro e2;subst e;exact k (h5 e2.symm)
  ·exact .inl e
 ·by_cases e:a=b/\(1:Int)=f
  ·obtain ⟨rfl,e2⟩:=e
   have:(g.set a f v).M.F a 1=v:=by unfold Gst.set Mem.set;simp only;rw [<- e2];exact upd_same _ _ _ _
   rw [this];exact h1 e2.symm
  ·have:(g.set b f v).M.F a 1=g.M.F a 1:=by
    unfold Gst.set Mem.set upd;simp only;exact qd e
   rw [this];exact Int.le_refl _
theorem q2l (hc:c.Ok) (h:OkG c g l) {b v:Int} (hb:g.K b) (hv:g.M.F b 1<=v) (hu:v<=g.M.F b 1+1):Goes c g l (g.set b 1 v) (yp l (b+1) v) no2 no1 :=
 Xk hc h hb (by omega) v (h.ki.setFree b 1 v (.inl rfl) (fun _=>hv)) (Yn (by omega) (by omega) (by omega) (by omega) (by omega) (by omega) (fun _=>hv)) (fun _=>hu)
theorem Zt (hc:c.Ok) (h:OkG c g l) {b:Int} (v:Int) (hb:g.K b):Goes c g l (g.set b 6 v) (yp l (b+6) v) no2 no1 :=
 Xk hc h hb (by omega) v (h.ki.setFree b 6 v (.inr rfl) (by omega)) (Yn (by omega) (by omega) (by omega) (by omega) (by omega) (by omega) (by omega)) (by omega)
theorem Tq (hc:c.Ok) (h:OkG c g l) {b v:Int} (hb:g.K b) (h0:g.M.F b 3=0) (hv:g.K v) (hb2:v=b\/(g.M.F v 4=b/\g.M.F v 2 % 2=1)):Goes c g l (g.set b 3 v) (yp l (b+3) v) no2 no1 :=
 Xk hc h hb (by omega) v (h.ki.setLead hv hb2) (Yn (by omega) (by omega) (by omega) (fun _=>h0) (by omega) (by omega) (by omega)) (by omega)
theorem q71 (hc:c.Ok) (h:OkG c g l) {b v:Int} (hb:g.K b) (h0:g.M.F b 4=0) (hv:v=1\/(g.K v/\g.M.F b 2 / 2=v/\g.M.F b 2 % 2=1)):Goes c g l (g.set b 4 v) (yp l (b+4) v) no2 no1 :=
 Xk hc h hb (by omega) v (h.ki.setMate hc h0 hv) (Yn (by omega) (by omega) (by omega) (by omega) (fun _=>h0) (by omega) (by omega)) (by omega)
theorem Ji (hc:c.Ok) (h:OkG c g l) {b v:Int} (hb:g.K b) (h0:g.M.F b 2 % 2=0) (hv:(v / 2=0/\g.up b=64)\/(g.K (v / 2)/\g.M.F (v / 2) 0=g.up b)):Goes c g l (g.set b 2 v) (yp l (b+2) v) no2 no1 :=
 Xk hc h hb (by omega) v (h.ki.setNext h0 hv) (Yn (by omega) (by omega) (fun _=>h0) (by omega) (by omega) (by omega) (by omega)) (by omega)
theorem q5j (hc:c.Ok) (h:OkG c g l) {b v:Int} (hb:g.K b) (h0:g.M.F b 5=0) (hv:g.K v/\g.M.F v 0=g.M.F b 0):Goes c g l (g.set b 5 v) (yp l (b+5) v) no2 no1 :=
 Xk hc h hb (by omega) v (h.ki.setRepl hv) (Yn (by omega) (by omega) (by omega) (by omega) (by omega) (fun _=>h0) (by omega)) (by omega)
theorem Vy (hc:c.Ok) (h:OkG c g l) {b j o v:Int} (hb:g.K b) (hj:0<=j/\j<c.c) (ho:o=7\/o=8\/o=9) (hs:g.M.F b (7+3 * j)<3)
  (hv:(o=7->v<1\/v=2\/(g.M.F b 0<=g.M.F b (8+3 * j)/\g.M.F b (8+3 * j)<g.up b))/\(o=8->g.M.F b (7+3 * j)<1\/g.M.F b (7+3 * j)=2)/\(o=7->v=2\/j<g.M.F b 1)) :
  Goes c g l (g.set b (o+3 * j) v) (yp l (b+(o+3 * j)) v) (fun a i=>a=b/\i=j) no1:=by
 have hsz:o+3 * j<za c:=by unfold za;omega
 have eq:∀ a f',(a≠b\/f'≠o+3 * j)->(g.set b (o+3 * j) v).M.F a f'=g.M.F a f':=fun a f' k=>k.elim (fun e=>Um e) (fun e=>xg e)
 have eq2:∀ a i o',(o'=7\/o'=8\/o'=9)->¬ (a=b/\i=j)->(g.set b (o+3 * j) v).M.F a (o'+3 * i)=g.M.F a (o'+3 * i):=fun a i o' k1 k2=>by
  refine eq a _ ?_
  by_cases e:a=b
  ·right;intro e2;exact k2 ⟨e,by omega⟩
  ·exact .inl e
 refine ⟨⟨h.ki.setCell hj.1 ho (fun _ _=>hv),Rel.setF hc h hb ⟨by omega,hsz⟩ v⟩,⟨fun _ k=>k,fun _ _=>rfl,fun a _=>eq a 0 (.inr (by omega)),fun a _ _=>eq a 2 (.inr (by omega)),fun a _ _=>eq a 3 (.inr (by omega)),fun a _ _=>eq a 4 (.inr (by omega)),fun a _ _=>eq a 5 (.inr (by omega)),fun a i _ i0 i1 k=>?_,fun a _=>by rw [eq a 1 (.inr (by omega))];exact Int.le_refl _,Int.le_refl _⟩,⟨fun a i ha h0 h1 hn k=>?_,fun p h0 h1 h2 _=>R8 hc h hb ⟨by omega,hsz⟩ v p h0 h1 h2⟩,fun a k=>.inl ⟨k,by rw [eq a 1 (.inr (by omega))];omega⟩,by show g.M.top<=_;omega⟩
 ·have hne:¬ (a=b/\i=j):=by rintro ⟨rfl,rfl⟩;omega
  exact ⟨eq2 a i 7 (.inl rfl) hne,eq2 a i 8 (.inr (.inl rfl)) hne,eq2 a i 9 (.inr (.inr rfl)) hne⟩
 ·rw [eq2 a i 7 (.inl rfl) hn,eq2 a i 8 (.inr (.inl rfl)) hn];exact ⟨k,rfl⟩
theorem Y7 (hc:c.Ok) (h:OkG c g l) {b j v:Int} (hb:g.K b) (hj:0<=j/\j<c.c) (hv:(g.M.F b (7+3 * j)=0/\v=2)\/(g.M.F b (7+3 * j)=1/\3<=v)) :
  Goes c g l (g.set b (7+3 * j) v) (yp l (b+(7+3 * j)) v) no2 no1:=by
 have hcl:=h.ki.cl b j hb hj.1 hj.2
 have k:=Vy hc h hb hj (o:=7) (v:=v) (.inl rfl) (by omega) ⟨fun _=>by rcases hv with ⟨e1,e2⟩ | ⟨e1,e2⟩;exact .inr (.inl e2);exact .inr (.inr (hcl (by omega) (by omega))),fun e=>by omega,fun _=>by rcases hv with ⟨e1,e2⟩ | ⟨e1,e2⟩;exact .inl e2;exact .inr (by by_cases q:g.M.F b 1<=j;(have:=h.ki.cf b j hb hj.1 hj.2 q;omega);omega)⟩
 refine ⟨k.ok,k.ext,⟨fun a i ha h0 h1 _ e=>?_,k.kp.priv⟩,k.cu,k.tu⟩
 by_cases hab:a=b/\i=j
 ·obtain ⟨rfl,rfl⟩:=hab
  have e7:(g.set a (7+3 * i) v).M.F a (7+3 * i)=v:=upd_same _ _ _ _
  have e8:(g.set a (7+3 * i) v).M.F a (8+3 * i)=g.M.F a (8+3 * i):=xg (by omega)
  rw [e7,e8]
  rcases hv with ⟨e1,e2⟩ | ⟨e1,e2⟩
  ·exact ⟨.inr e2,rfl⟩
  ·omega
 ·exact k.kp.cell a i ha h0 h1 hab e
theorem X0 (hc:c.Ok) (h:OkG c g l) {p:Int} (v:Int) (hp:0<=p/\p<3+c.t/\p≠2):Goes c g l g (yp l p v) no2 no1:=by
 have hl:=h.rel.len
 have ne:∀ q,q≠p->qq (yp l p v) q=qq l q:=fun q k=>by rw [vk,qd (fun e=>k e.1)]
 refine ⟨⟨h.ki,⟨by rw [wu];exact hl,fun a ha f h0 h1=>?_,?_,fun k h0 h1=>?_,?_,fun q hq=>?_⟩⟩,Ext.refl c g,⟨fun a i _ _ _ _ k=>⟨k,rfl⟩,fun q h0 h1 h2 _=>⟨ne q (by unfold ku at h0;omega),h2⟩⟩,fun a k=>.inl ⟨k,by first | omega | (simp only;omega)⟩,by first | omega | (simp only;omega)⟩
 ·have:=(Rel.low hc h ha).1
  rw [ne _ (by omega)];exact h.rel.F a ha f h0 h1
 ·rw [ne _ (by unfold xm;omega)];exact h.rel.hn
 ·rw [ne _ (by omega)];exact h.rel.ht k h0 h1
 ·rw [ne _ (by omega)];exact h.rel.top
 ·obtain ⟨a,ha,-⟩:=h.ki.hd
  obtain ⟨l1,l2,l3,l4⟩:=Rel.low hc h ha
  rw [ne _ (by omega)];exact h.rel.fz q hq
theorem q70 (hc:c.Ok) (h:OkG c g l) {k v:Int} (hk:0<=k/\k<4) (hv:g.K v):Goes c g l { g with M:={ g.M with ht:=fun j=>if j=k then v else g.M.ht j } } (yp l (3+c.t+k) v) no2 no1:=by
 have hl:=h.rel.len
 have ht:=hc.t1
 have hw:=hc.top
 have hc2:=hc.c2
 have ne:∀ q,q≠3+c.t+k->qq (yp l (3+c.t+k) v) q=qq l q:=fun q e=>by rw [vk,qd (fun e2=>e e2.1)]
 refine ⟨⟨h.ki.setHint hv,⟨by rw [wu];exact hl,fun a ha f h0 h1=>?_,?_,fun j h0 h1=>?_,?_,fun q hq=>?_⟩⟩,⟨fun _ e=>e,fun _ _=>rfl,fun _ _=>rfl,fun _ _ _=>rfl,fun _ _ _=>rfl,fun _ _ _=>rfl,fun _ _ _=>rfl,fun _ _ _ _ _ _=>⟨rfl,rfl,rfl⟩,fun _ _=>Int.le_refl _,Int.le_refl _⟩,⟨fun a i _ _ _ _ e=>⟨e,rfl⟩,fun q h0 h1 h2 _=>⟨ne q (by unfold ku at h0;omega),h2⟩⟩,fun a k=>.inl ⟨k,by first | omega | (simp only;omega)⟩,by first | omega | (simp only;omega)⟩
 ·have:=(Rel.low hc h ha).1
  rw [ne _ (by omega)];exact h.rel.F a ha f h0 h1
 ·rw [ne _ (by unfold xm;omega)];exact h.rel.hn
 ·simp only
  by_cases e:j=k
  ·subst e;rw [vk,qf ⟨rfl,by omega,by omega⟩,qf rfl]
  ·rw [ne _ (by omega),qd e];exact h.rel.ht j h0 h1
 ·rw [ne _ (by omega)];exact h.rel.top
 ·obtain ⟨a,ha,-⟩:=h.ki.hd
  obtain ⟨l1,l2,l3,l4⟩:=Rel.low hc h ha
  have hq':g.M.top<=q:=hq
  rw [ne _ (by omega)];exact h.rel.fz q hq
theorem q72 (hc:c.Ok) (h:OkG c g l) {v:Int} (hv:g.K v/\g.M.F v 0=0):Goes c g l { g with M:={ g.M with hn:=2 * v } } (yp l (xm c+2) (2 * v)) no2 no1:=by
 have hl:=h.rel.len
 have ht:=hc.t1
 have hw:=hc.top
 have hc2:=hc.c2
 have ne:∀ q,q≠xm c+2->qq (yp l (xm c+2) (2 * v)) q=qq l q:=fun q e=>by rw [vk,qd (fun e2=>e e2.1)]
 refine ⟨⟨h.ki.setHead hv,⟨by rw [wu];exact hl,fun a ha f h0 h1=>?_,?_,fun j h0 h1=>?_,?_,fun q hq=>?_⟩⟩,⟨fun _ e=>e,fun _ _=>rfl,fun _ _=>rfl,fun _ _ _=>rfl,fun _ _ _=>rfl,fun _ _ _=>rfl,fun _ _ _=>rfl,fun _ _ _ _ _ _=>⟨rfl,rfl,rfl⟩,fun _ _=>Int.le_refl _,Int.le_refl _⟩,⟨fun a i _ _ _ _ e=>⟨e,rfl⟩,fun q h0 h1 h2 _=>⟨ne q (by unfold ku at h0;unfold xm;omega),h2⟩⟩,fun a k=>.inl ⟨k,by first | omega | (simp only;omega)⟩,by first | omega | (simp only;omega)⟩
 ·have:=(Rel.low hc h ha).1
  rw [ne _ (by unfold xm;omega)];exact h.rel.F a ha f h0 h1
 ·rw [vk,qf ⟨rfl,by unfold xm;omega,by unfold xm;omega⟩]
 ·rw [ne _ (by unfold xm;omega)];exact h.rel.ht j h0 h1
 ·rw [ne _ (by unfold xm;omega)];exact h.rel.top
 ·obtain ⟨a,ha,-⟩:=h.ki.hd
  obtain ⟨l1,l2,l3,l4⟩:=Rel.low hc h ha
  have hq':g.M.top<=q:=hq
  rw [ne _ (by unfold xm;omega)];exact h.rel.fz q hq
theorem q8o (hc:c.Ok) (h:OkG c g l) (n:Nat) (hn:(n:Int) * za c<=3000):Goes c g l { g with M:={ g.M with top:=g.M.top+(n:Int) * za c } } (yp l 2 (g.M.top+(n:Int) * za c)) no2 no1:=by
 have hl:=h.rel.len
 have ht:=hc.t1
 have hw:=hc.top
 have hc2:=hc.c2
 have hs:0<=(n:Int) * za c:=Int.mul_nonneg (by omega) (by unfold za;omega)
 have ne:∀ q,q≠2->qq (yp l 2 (g.M.top+(n:Int) * za c)) q=qq l q:=fun q e=>by rw [vk,qd (fun e2=>e e2.1)]
 refine ⟨⟨h.ki.setTop hc n,⟨by rw [wu];exact hl,fun a ha f h0 h1=>?_,?_,fun j h0 h1=>?_,?_,fun q hq=>?_⟩⟩,⟨fun _ e=>e,fun _ _=>rfl,fun _ _=>rfl,fun _ _ _=>rfl,fun _ _ _=>rfl,fun _ _ _=>rfl,fun _ _ _=>rfl,fun _ _ _ _ _ _=>⟨rfl,rfl,rfl⟩,fun _ _=>Int.le_refl _,by simp only;omega⟩,⟨fun a i _ _ _ _ e=>⟨e,rfl⟩,fun q h0 h1 h2 _=>⟨ne q (by unfold ku at h0;omega),h2⟩⟩,fun a k=>.inl ⟨k,by first | omega | (simp only;omega)⟩,by first | omega | (simp only;omega)⟩
 ·have:=(Rel.low hc h ha).1
  rw [ne _ (by omega)];exact h.rel.F a ha f h0 h1
 ·rw [ne _ (by unfold xm;omega)];exact h.rel.hn
 ·rw [ne _ (by omega)];exact h.rel.ht j h0 h1
 ·rw [vk,qf ⟨rfl,by omega,by omega⟩]
 ·obtain ⟨a,ha,-⟩:=h.ki.hd
  obtain ⟨l1,l2,l3,l4⟩:=Rel.low hc h ha
  simp only at hq
  rw [ne _ (by omega)];exact h.rel.fz q (by omega)
theorem q67 (hc:c.Ok) (h:OkG c g l) {p:Int} (v:Int) (h1:ku c<=p) (h2:p<g.M.top) (h3:∀ a,g.K a->¬ (a<=p/\p<a+za c)):Goes c g l g (yp l p v) no2 (fun q=>q=p):=by
 have hl:=h.rel.len
 unfold ku at h1
 have ne:∀ q,q≠p->qq (yp l p v) q=qq l q:=fun q k=>by rw [vk,qd (fun e=>k e.1)]
 refine ⟨⟨h.ki,⟨by rw [wu];exact hl,fun a ha f h0 h1=>?_,?_,fun k h0 h1=>?_,?_,fun q hq=>?_⟩⟩,Ext.refl c g,⟨fun a i _ _ _ _ k=>⟨k,rfl⟩,fun q h0 h1 h2 h3=>⟨ne q h3,h2⟩⟩,fun a k=>.inl ⟨k,by first | omega | (simp only;omega)⟩,by first | omega | (simp only;omega)⟩
 ·rw [ne _ (fun e=>h3 a ha ⟨by omega,by omega⟩)];exact h.rel.F a ha f h0 h1
 ·rw [ne _ (by unfold xm;omega)];exact h.rel.hn
 ·rw [ne _ (by omega)];exact h.rel.ht k h0 h1
 ·rw [ne _ (by have:=hc.t1;omega)];exact h.rel.top
 ·rw [ne _ (by omega)];exact h.rel.fz q hq
end
theorem Zv {a:Int} (h0:0<=a) (h1:a<=1000000000):wrap64 a=a:=w64 (by omega) (by omega)
theorem Xa (s:St) (p v:Int):(s.store p v).l=yp s.l p v:=rfl
theorem qd4 (s:St) (p v:Int):(s.add p v).l=yp s.l p (wrap64 (qq s.l p+v)):=rfl
theorem je {s:St} {p o v:Int} (h:s.can p o=true):(s.swap p o v).l=yp s.l p v:=by unfold St.swap;rw [qf h];rfl
theorem wm {s:St} {p o v:Int} (h:s.can p o=false):(s.swap p o v).l=s.l:=by unfold St.swap;rw [qd (by rw [h];simp)];rfl
theorem jo {s:St} {p o:Int} (h:s.can p o=true):qq s.l p=o:=by
 unfold St.can at h;simp only [Bool.and_eq_true,beq_iff_eq] at h;exact h.2
section
variable {c:Cf} {g:Gst} {l:List Int}
theorem yd (hc:c.Ok):16<=za c/\za c<=55:=by have:=hc.c2;have:=hc.t1;have:=hc.c16;unfold za;omega
theorem Ta (hc:c.Ok) (h:OkG c g l) {a:Int} (ha:g.K a):15<=a/\a+za c<=20000:=by
 have:=(Rel.low hc h ha).1;have:=(Rel.low hc h ha).2.1;have:=hc.t1;have:=hc.w2;omega
theorem rd (hc:c.Ok) (h:OkG c g l) {a f:Int} (ha:g.K a) (h0:0<=f) (h1:f<za c):qq l (wrap64 (a+f))=g.M.F a f:=by
 have:=Ta hc h ha
 rw [Zv (by omega) (by omega)];exact h.rel.F a ha f h0 h1
theorem rd0 (hc:c.Ok) (h:OkG c g l) {a:Int} (ha:g.K a):qq l (wrap64 a)=g.M.F a 0:=by
 have:=rd hc h ha (f:=0) (by omega) (by have:=yd hc;omega)
 rwa [Int.add_zero] at this
theorem kg (hc:c.Ok) (h:OkG c g l):¬ g.K (xm c):=fun k=>by have:=(Rel.low hc h k).1;unfold xm at this;omega
theorem q7v (hc:c.Ok) (h:OkG c g l) {a i:Int} (ha:g.K a) (hi:0<=i/\i<c.c):Qg a i=a+(7+3 * i)/\7+3 * i<za c/\9+3 * i<za c:=by
 have:=Ta hc h ha
 have:=hc.c16
 refine ⟨?_,by unfold za;omega,by unfold za;omega⟩
 unfold Qg
 rw [Zv (by omega) (by unfold za at *;omega)];omega
structure WkI (c:Cf) (g:Gst) (x:Wk):Prop where
 cc:x.c=c
 key:0<=x.key/\x.key<=63
 x2:x.line=2\/x.line=3->g.K x.x
 c5:x.line=5\/x.line=6->(g.K x.cur/\g.M.F x.cur 0<=x.key)\/x.cur=xm c
 n6:x.line=6->g.K x.n/\(x.cur=xm c->g.M.F x.n 0=0)/\(g.K x.cur->g.M.F x.n 0=g.up x.cur)
 e0:x.line=0->g.K x.at_/\g.M.F x.at_ 0<=x.key/\x.key<g.up x.at_
 ln:x.line=0\/x.live=true
theorem WkI.ext {g':Gst} {x:Wk} (h:WkI c g x) (e:Ext c g g') (hh:¬ g'.K (xm c)):WkI c g' x:=by
 refine ⟨h.cc,h.key,fun k=>e.K _ (h.x2 k),fun k=>?_,fun k=>?_,fun k=>?_,h.ln⟩
 ·rcases h.c5 k with ⟨h1,h2⟩ | h1
  ·exact .inl ⟨e.K _ h1,by rw [e.mn _ h1];exact h2⟩
  ·exact .inr h1
 ·obtain ⟨h1,h2,h3⟩:=h.n6 k
  refine ⟨e.K _ h1,fun q=>by rw [e.mn _ h1];exact h2 q,fun q=>?_⟩
  rcases h.c5 (.inr k) with ⟨h4,-⟩ | h4
  ·rw [e.mn _ h1,e.up _ h4];exact h3 h4
  ·rw [h4] at q;exact absurd q hh
 ·obtain ⟨h1,h2,h3⟩:=h.e0 k
  exact ⟨e.K _ h1,by rw [e.mn _ h1];exact h2,by rw [e.up _ h1];exact h3⟩
theorem WkI.new {key:Int} (hk:0<=key/\key<=63):WkI c g (Wk.new c key) :=
 ⟨rfl,hk,fun k=>by simp [Wk.new] at k,fun k=>by simp [Wk.new] at k,fun k=>by simp [Wk.new] at k,fun k=>by simp [Wk.new] at k,.inr rfl⟩
theorem J9 (x:Wk) (s:St):(x.step s).2.l=s.l:=by
 unfold Wk.step;split <;> rfl
theorem WkI.step (hc:c.Ok) {s:St} (h:OkG c g s.l) {x:Wk} (hx:WkI c g x):WkI c g (x.step s).1:=by
 unfold Wk.step
 by_cases hl:x.live=true
 ·rw [qf hl]
  simp only
  have hlv:=hl
  unfold Wk.live at hlv
  simp only [Bool.or_eq_true,decide_eq_true_eq] at hlv
  have toHead:∀ y:Wk,y.c=c->y.key=x.key->WkI c g y.head:=fun y e1 e2 =>
   ⟨e1,by show 0<=y.key/\y.key<=63;rw [e2];exact hx.key,fun k=>by simp [Wk.head] at k,fun _=>.inr (by show xm y.c=xm c;rw [e1]),fun k=>by simp [Wk.head] at k,fun k=>by simp [Wk.head] at k,.inr rfl⟩
  have ends:∀ y:Wk,y.c=c->y.key=x.key->g.K y.cur->g.M.F y.cur 0<=x.key->x.key<g.up y.cur->WkI c g y.ends:=fun y e1 e2 e3 e4 e5 =>
   ⟨e1,by show 0<=y.key/\y.key<=63;rw [e2];exact hx.key,fun k=>by simp [Wk.ends] at k,fun k=>by simp [Wk.ends] at k,fun k=>by simp [Wk.ends] at k,fun _=>⟨e3,by show g.M.F y.cur 0<=y.key;rw [e2];exact e4,by show y.key<g.up y.cur;rw [e2];exact e5⟩,.inl rfl⟩
  unfold Wk.next Wk.looks
  by_cases l1:x.line=1
  ·rw [qf l1,qf l1]
   have hk:=hx.key
   have hh:qq s.l (Zw x.c x.key)=g.M.ht (x.key / 16):=by
    rw [hx.cc];unfold Zw;exact h.rel.ht _ (by omega) (by omega)
   rw [hh]
   by_cases v0:g.M.ht (x.key / 16)=0
   ·rw [qf v0];exact toHead _ hx.cc rfl
   ·rw [qd v0]
    have hK:=(h.ki.ht (x.key / 16) (by omega) (by omega)).resolve_left v0
    exact ⟨hx.cc,hx.key,fun _=>hK,fun k=>by simp at k,fun k=>by simp at k,fun k=>by simp at k,.inr rfl⟩
  ·rw [qd l1,qd l1]
   by_cases l2:x.line=2
   ·rw [qf l2,qf l2]
    by_cases v0:qq s.l (wrap64 (x.x+6))=0
    ·rw [qf v0];exact ⟨hx.cc,hx.key,fun _=>hx.x2 (.inl l2),fun k=>by simp at k,fun k=>by simp at k,fun k=>by simp at k,.inr rfl⟩
    ·rw [qd v0];exact toHead _ hx.cc rfl
   ·rw [qd l2,qd l2]
    by_cases l3:x.line=3
    ·rw [qf l3,qf l3]
     have hK:=hx.x2 (.inr l3)
     rw [rd0 hc h hK]
     split
     ·rename_i hv
      exact ⟨hx.cc,hx.key,fun k=>by simp at k,fun _=>.inl ⟨hK,hv⟩,fun k=>by simp at k,fun k=>by simp at k,.inr rfl⟩
     ·exact toHead _ hx.cc rfl
    ·rw [qd l3,qd l3]
     by_cases l5:x.line=5
     ·rw [qf l5,qf l5]
      rcases hx.c5 (.inl l5) with ⟨hK,hm⟩ | hh
      ·rw [rd hc h hK (by omega) (by have:=yd hc;omega)]
       unfold atW
       rcases h.ki.nx x.cur hK with ⟨e1,e2⟩ | ⟨e1,e2⟩
       ·rw [qf e1];exact ends _ hx.cc rfl hK hm (by show x.key<g.up x.cur;have:=hx.key;omega)
       ·have:g.M.F x.cur 2 / 2≠0:=fun e=>by rw [e] at e1;have:=h.ki.pos hc e1;omega
        rw [qd this]
        exact ⟨hx.cc,hx.key,fun k=>by simp at k,fun _=>.inl ⟨hK,hm⟩,fun _=>⟨e1,fun q=>by simp only at q;rw [q] at hK;exact absurd hK (kg hc h),fun _=>e2⟩,fun k=>by simp at k,.inr rfl⟩
      ·obtain ⟨a,ha,e1,e2⟩:=h.ki.hd
       have hp:qq s.l (wrap64 (x.cur+2))=2 * a:=by
        rw [hh,Zv (by unfold xm;have:=hc.t1;omega) (by unfold xm;have:=hc.t8;omega),h.rel.hn,e1]
       rw [hp]
       have ea:atW (2 * a)=a:=by unfold atW;omega
       rw [ea,qd (by have:=h.ki.pos hc ha;omega)]
       exact ⟨hx.cc,hx.key,fun k=>by simp at k,fun _=>.inr hh,fun _=>⟨ha,fun _=>e2,fun q=>by simp only at q;rw [hh] at q;exact absurd q (kg hc h)⟩,fun k=>by simp at k,.inr rfl⟩
     ·rw [qd l5,qd l5]
      have l6:x.line=6:=by omega
      obtain ⟨hn,hn1,hn2⟩:=hx.n6 l6
      rw [rd0 hc h hn]
      split
      ·rename_i hv
       exact ⟨hx.cc,hx.key,fun k=>by simp at k,fun _=>.inl ⟨hn,hv⟩,fun k=>by simp at k,fun k=>by simp at k,.inr rfl⟩
      ·rename_i hv
       rcases hx.c5 (.inr l6) with ⟨hK,hm⟩ | hh
       ·refine ends _ hx.cc rfl hK hm ?_
        have:=hn2 hK;omega
       ·have:=hn1 hh;have:=hx.key;omega
 ·rw [qd hl];exact hx
structure ClI (c:Cf) (g:Gst) (x:Cl):Prop where
 cc:x.c=c
 K:g.K x.chunk
 key:g.M.F x.chunk 0<=x.key/\x.key<g.up x.chunk
 i3:3<=x.line->0<=x.i/\x.i<c.c
 own:3<=x.line/\x.line<=5->(g.M.F x.chunk (7+3 * x.i)=0\/g.M.F x.chunk (7+3 * x.i)=2)/\x.i<g.M.F x.chunk 1
 k4:4<=x.line/\x.line<=5->g.M.F x.chunk (8+3 * x.i)=x.key
 ln:0<=x.line/\x.line<=8
def Cl.mine (x:Cl):Int->Int->Prop:=fun a i=>(3<=x.line/\x.line<=5)/\a=x.chunk/\i=x.i
theorem ClI.keep {g':Gst} {l':List Int} {mc:Int->Int->Prop} {mp:Int->Prop} {x:Cl} (h:ClI c g x) (e:Goes c g l g' l' mc mp) (hm:∀ a i,x.mine a i->¬ mc a i):ClI c g' x:=by
 refine ⟨h.cc,e.ext.K _ h.K,?_,h.i3,fun k=>?_,fun k=>?_,h.ln⟩
 ·rw [e.ext.mn _ h.K,e.ext.up _ h.K];exact h.key
 ·obtain ⟨h1,h2⟩:=h.own k
  have h3:=h.i3 k.1
  exact ⟨(e.kp.cell _ _ h.K h3.1 h3.2 (hm _ _ ⟨k,rfl,rfl⟩) h1).1,Int.lt_of_lt_of_le h2 (e.ext.ct _ h.K)⟩
 ·have k':3<=x.line/\x.line<=5:=⟨by omega,k.2⟩
  obtain ⟨h1,h2⟩:=h.own k'
  have h3:=h.i3 k'.1
  rw [(e.kp.cell _ _ h.K h3.1 h3.2 (hm _ _ ⟨k',rfl,rfl⟩) h1).2];exact h.k4 k
theorem ClI.rest {g':Gst} {x y:Cl} (hx:ClI c g x) (e:Ext c g g') (h1:y.c=x.c) (h2:y.chunk=x.chunk) (h3:y.key=x.key) (h4:3<=y.line->0<=y.i/\y.i<c.c) (h5:y.line<3\/5<y.line) (h6:0<=y.line/\y.line<=8):ClI c g' y :=
 ⟨h1.trans hx.cc,by rw [h2];exact e.K _ hx.K,by rw [h2,h3,e.mn _ hx.K,e.up _ hx.K];exact hx.key,h4,fun k=>by omega,fun k=>by omega,h6⟩
theorem ClI.step (hc:c.Ok) {s:St} (h:OkG c g s.l) (hB:∀ a,g.K a->0<=g.M.F a 1/\g.M.F a 1<=900000000) {x:Cl} (hx:ClI c g x):∃ g',Goes c g s.l g' (x.step s).2.l x.mine no1/\ClI c g' (x.step s).1/\(∀ a i,(x.step s).1.mine a i->x.mine a i\/(x.line=2/\a=x.chunk/\i=g.M.F a 1)):=by
 have hsz:=yd hc
 have hK:=hx.K
 have hkb:=Ta hc h hK
 have hb:=hB _ hK
 unfold Cl.step
 by_cases hl:x.live=true
 ·rw [qf hl]
  simp only
  unfold Cl.live at hl
  simp only [Bool.and_eq_true,decide_eq_true_eq] at hl
  have same:Goes c g s.l g s.l x.mine no1:=Goes.same h _ _
  have nomine:∀ (y:Cl) (a i:Int),(y.line<3\/5<y.line)->y.mine a i->x.mine a i\/(x.line=2/\a=x.chunk/\i=g.M.F a 1):=fun y a i k1 k2=>by obtain ⟨k2,-⟩:=k2;omega
  unfold Cl.act Cl.told Cl.next
  by_cases l1:x.line=1
  ·rw [qf l1,qf l1,qf l1]
   split
   ·exact ⟨g,same,hx.rest (Ext.refl _ _) rfl rfl rfl (fun k=>by simp at k) (.inl (by simp)) (by simp),fun a i k=>nomine _ a i (.inl (by simp)) k⟩
   ·exact ⟨g,same,hx.rest (Ext.refl _ _) rfl rfl rfl (fun k=>by simp at k) (.inl (by simp)) (by simp),fun a i k=>nomine _ a i (.inl (by simp)) k⟩
  ·rw [qd l1,qd l1,qd l1]
   by_cases l2:x.line=2
   ·rw [qf l2,qf l2,qf l2]
    have e1:=rd hc h hK (f:=1) (by omega) (by omega)
    have hw:wrap64 (x.chunk+1)=x.chunk+1:=Zv (by omega) (by omega)
    have hw2:wrap64 (g.M.F x.chunk 1+1)=g.M.F x.chunk 1+1:=Zv (by omega) (by omega)
    rw [e1,qd4,e1,hw,hw2]
    have G:=(q2l hc h hK (v:=g.M.F x.chunk 1+1) (by omega) (by omega)).weak (mc':=x.mine) (mp':=no1) (fun _ _ k=>k.elim) (fun _ k=>k)
    by_cases hv:0<=g.M.F x.chunk 1/\g.M.F x.chunk 1<x.c.c
    ·rw [qf hv]
     have e7:(g.set x.chunk 1 (g.M.F x.chunk 1+1)).M.F x.chunk (7+3 * g.M.F x.chunk 1)=g.M.F x.chunk (7+3 * g.M.F x.chunk 1):=xg (by omega)
     have e11:(g.set x.chunk 1 (g.M.F x.chunk 1+1)).M.F x.chunk 1=g.M.F x.chunk 1+1:=upd_same _ _ _ _
     rw [hx.cc] at hv
     refine ⟨_,G,⟨hx.cc,hK,?_,fun _=>hv,fun _=>?_,fun k=>by simp at k,by simp⟩,fun a i k=>?_⟩
     ·have e0:(g.set x.chunk 1 (g.M.F x.chunk 1+1)).M.F x.chunk 0=g.M.F x.chunk 0:=xg (by omega)
      show (g.set x.chunk 1 (g.M.F x.chunk 1+1)).M.F x.chunk 0<=_/\_
      rw [e0];exact hx.key
     ·show ((g.set x.chunk 1 (g.M.F x.chunk 1+1)).M.F x.chunk (7+3 * g.M.F x.chunk 1)=0\/(g.set x.chunk 1 (g.M.F x.chunk 1+1)).M.F x.chunk (7+3 * g.M.F x.chunk 1)=2)/\g.M.F x.chunk 1<(g.set x.chunk 1 (g.M.F x.chunk 1+1)).M.F x.chunk 1
      rw [e7,e11]
      exact ⟨h.ki.cf _ _ hK hv.1 hv.2 (Int.le_refl _),by omega⟩
     ·obtain ⟨-,rfl,rfl⟩:=k;exact .inr ⟨l2,rfl,rfl⟩
    ·rw [qd hv]
     exact ⟨_,G,hx.rest G.ext rfl rfl rfl (fun k=>by simp at k) (.inl (by simp)) (by simp),fun a i k=>nomine _ a i (.inl (by simp)) k⟩
   ·rw [qd l2,qd l2]
    have h3:=hx.i3 (by omega)
    obtain ⟨sa,sz7,sz9⟩:=q7v hc h hK h3
    have hsa:x.sa=x.chunk+(7+3 * x.i):=sa
    have hrd:qq s.l x.sa=g.M.F x.chunk (7+3 * x.i):=by rw [hsa];exact h.rel.F _ hK _ (by omega) (by omega)
    by_cases l3:x.line=3
    ·obtain ⟨o1,o2⟩:=hx.own (by omega)
     rw [qf l3,qd l2,qf l3,Xa,hsa,Zv (by omega) (by omega),show x.chunk+(7+3 * x.i)+1=x.chunk+(8+3 * x.i) by omega]
     have G:=Vy hc h hK h3 (o:=8) (v:=x.key) (.inr (.inl rfl)) (by omega) ⟨fun k=>by omega,fun _=>by omega,fun k=>by omega⟩
     refine ⟨_,G.weak (fun a i k=>⟨by omega,k.1,k.2⟩) (fun _ k=>k),⟨hx.cc,hK,?_,fun _=>h3,fun _=>?_,fun _=>upd_same _ _ _ _,by simp⟩,fun a i k=>.inl ⟨by omega,k.2⟩⟩
     ·rw [G.ext.mn _ hK,G.ext.up _ hK];exact hx.key
     ·have e7:(g.set x.chunk (8+3 * x.i) x.key).M.F x.chunk (7+3 * x.i)=g.M.F x.chunk (7+3 * x.i):=xg (by omega)
      exact ⟨by show (g.set x.chunk (8+3 * x.i) x.key).M.F x.chunk (7+3 * x.i)=0\/(g.set x.chunk (8+3 * x.i) x.key).M.F x.chunk (7+3 * x.i)=2;rw [e7];exact o1,Int.lt_of_lt_of_le o2 (G.ext.ct _ hK)⟩
    ·rw [qd l3]
     by_cases l4:x.line=4
     ·obtain ⟨o1,o2⟩:=hx.own (by omega)
      have hk4:=hx.k4 (by omega)
      rw [qf l4,qd l2,qd l3,qf l4,Xa,hsa,Zv (by omega) (by omega),show x.chunk+(7+3 * x.i)+2=x.chunk+(9+3 * x.i) by omega]
      have G:=Vy hc h hK h3 (o:=9) (v:=x.data) (.inr (.inr rfl)) (by omega) ⟨fun k=>by omega,fun k=>by omega,fun k=>by omega⟩
      have e7:(g.set x.chunk (9+3 * x.i) x.data).M.F x.chunk (7+3 * x.i)=g.M.F x.chunk (7+3 * x.i):=xg (by omega)
      have e8:(g.set x.chunk (9+3 * x.i) x.data).M.F x.chunk (8+3 * x.i)=g.M.F x.chunk (8+3 * x.i):=xg (by omega)
      refine ⟨_,G.weak (fun a i k=>⟨by omega,k.1,k.2⟩) (fun _ k=>k),⟨hx.cc,hK,?_,fun _=>h3,fun _=>?_,fun _=>?_,by simp⟩,fun a i k=>.inl ⟨by omega,k.2⟩⟩
      ·rw [G.ext.mn _ hK,G.ext.up _ hK];exact hx.key
      ·exact ⟨by show (g.set x.chunk (9+3 * x.i) x.data).M.F x.chunk (7+3 * x.i)=0\/(g.set x.chunk (9+3 * x.i) x.data).M.F x.chunk (7+3 * x.i)=2;rw [e7];exact o1,Int.lt_of_lt_of_le o2 (G.ext.ct _ hK)⟩
      ·exact e8.trans hk4
     ·rw [qd l4]
      by_cases l5:x.line=5
      ·obtain ⟨o1,o2⟩:=hx.own (by omega)
       have hk4:=hx.k4 (by omega)
       rw [qf l5,qf l5,qd l2,qd l3,qd l4,qf l5]
       cases hcn:s.can x.sa 0 with
       | true =>
        have hp:=jo hcn
        rw [hrd] at hp
        simp only [if_true]
        rw [je hcn,hsa]
        have G:=Vy hc h hK h3 (o:=7) (v:=1) (.inl rfl) (by omega) ⟨fun _=>.inr (.inr (by rw [hk4];exact hx.key)),fun k=>by omega,fun _=>.inr o2⟩
        exact ⟨_,G.weak (fun a i k=>⟨by omega,k.1,k.2⟩) (fun _ k=>k),hx.rest G.ext rfl rfl rfl (fun _=>h3) (.inr (by simp)) (by simp),fun a i k=>nomine _ a i (.inr (by simp)) k⟩
       | false =>
        simp only [Bool.false_eq_true,if_false]
        rw [wm hcn]
        exact ⟨g,same,hx.rest (Ext.refl _ _) rfl rfl rfl (fun k=>by simp at k) (.inl (by simp)) (by simp),fun a i k=>nomine _ a i (.inl (by simp)) k⟩
      ·rw [qd l5,qd l5]
       by_cases l6:x.line=6
       ·rw [qf l6,qf l6,qd l2,qd l3,qd l4,qd l5,qf l6]
        exact ⟨g,same,hx.rest (Ext.refl _ _) rfl rfl rfl (fun _=>h3) (.inr (by simp)) (by simp),fun a i k=>nomine _ a i (.inr (by simp)) k⟩
       ·rw [qd l6,qd l6]
        by_cases l7:x.line=7
        ·rw [qf l7,qd l2,qd l3,qd l4,qd l5,qd l6,qf l7]
         cases hcn:s.can x.sa 1 with
         | true =>
          have hp:=jo hcn
          rw [hrd] at hp
          rw [je hcn,hsa]
          have G:=(Y7 hc h hK h3 (v:=vq x.g) (.inr ⟨hp,Y4 _⟩)).weak (mc':=x.mine) (mp':=no1) (fun _ _ k=>k.elim) (fun _ k=>k)
          exact ⟨_,G,hx.rest G.ext rfl rfl rfl (fun _=>h3) (.inr (by simp)) (by simp),fun a i k=>nomine _ a i (.inr (by simp)) k⟩
         | false =>
          rw [wm hcn]
          exact ⟨g,same,hx.rest (Ext.refl _ _) rfl rfl rfl (fun _=>h3) (.inr (by simp)) (by simp),fun a i k=>nomine _ a i (.inr (by simp)) k⟩
        ·rw [qd l7,qd l2,qd l3,qd l4,qd l5,qd l6,qd l7]
         exact ⟨g,same,hx.rest (Ext.refl _ _) rfl rfl rfl (fun k=>by simp at k) (.inl (by simp)) (by simp),fun a i k=>nomine _ a i (.inl (by simp)) k⟩
 ·rw [qd hl]
  exact ⟨g,Goes.same h _ _,hx,fun a i k=>.inl k⟩
end
end Go.Proofs.YtppajakfaomkaaaGreatDoor.Mx
