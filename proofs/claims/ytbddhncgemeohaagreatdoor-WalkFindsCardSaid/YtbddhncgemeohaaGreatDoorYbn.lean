/- Parts. -/
import Derived.Test.YtbddhncgemeohaaGreatDoorYbg
import Derived.Test.YtbddhncgemeohaaGreatDoorYbj
import Derived.Test.YtbddhncgemeohaaGreatDoorYbl
import Derived.Test.YtbddhncgemeohaaGreatDoorYbm
set_option linter.unusedVariables false
set_option linter.unusedSimpArgs false
set_option maxRecDepth 100000
set_option maxHeartbeats 12800000
namespace Go.Proofs.YtbddhncgemeohaaGreatDoor.Mx
open Go.RowKit Ar Ref Vw Ch Rf
section
variable {c:Cf} {g:Gst} {l:List Int}
theorem Rt (hc:c.Ok) (h:OkG c g l) {n:Nat} (hn:c.c=(n:Int)):∀ (L:List Int) (k:Nat) (a:Int) (acc:List Int),Pth g a L->(∀ x∈acc,∀ y∈L,x≠y)->L.length<k->Zm (qx l) l.length n k a acc=acc++L
 | [],k,a,acc,p,_,hk=>by
  obtain ⟨j,rfl⟩:∃ j,k=j+1:=⟨k - 1,by simp at hk;omega⟩;unfold Zm;rw [qg (.inl p),List.append_nil]
 | x :: r,k,a,acc,p,hd,hk=>by
  obtain ⟨j,rfl⟩:∃ j,k=j+1:=⟨k - 1,by simp at hk;omega⟩
  have ap:=p.apart hc h
  obtain ⟨rfl,kx,p,q,q2⟩:=p
  have hb:=Kq hc h kx
  unfold Zm
  rw [qf]
  ·rw [h.rel.F _ kx 2 Ly Nt,show atW (g.M.F a 2)=g.M.F a 2 / 2 from rfl,Rt hc h hn r j _ (acc++[a]) p ?_ (by simp at hk;omega),List.append_assoc];rfl
   intro y hy z hz
   rcases List.mem_append.1 hy with h' | h'
   ·exact hd y h' z Pv
   ·simp at h';subst h'
    exact (List.pairwise_cons.1 ap).1 z hz
  ·rintro (e | e | e)
   ·have:=Rel.low hc h kx;have:=hc.t1;omega
   ·rw [R6 hc h hn kx] at e;cases e
   ·exact hd a e a Ma rfl
theorem Chn.Kn (hc:c.Ok) (h:OkG c g l) {L:List Int} (C:Chn c g l L) {n:Nat} (hn:c.c=(n:Int)):Rf.Kn (qx l) l.length n c.t=L:=by have hl:=C.len hc h hn;obtain ⟨a,ha,e1,e2⟩:=h.ki.hd;unfold Rf.Kn;rw [show (9:Int)+c.t=zq c+2 by unfold zq;omega,h.rel.hn,show atW g.M.hn=g.M.hn / 2 from rfl,Rt hc h hn L _ _ [] C.p Ma Ly];rfl
theorem qbv (hc:c.Ok) (h:OkG c g l) {L:List Int} (key:Int) (hL:∀ x∈L,g.K x):ofW (qx l) L key=keyOf g L key 0:=by
 suffices H:∀ z:Int,L.foldl (fun b x=>if qx l x<=key then x else b) z=keyOf g L key z from H 0
 unfold keyOf;intro z;induction L generalizing z with
 | nil=>rfl
 | cons x r ih =>
  have e:=h.rel.F x (hL x Ma) 0 Ly Nt;rw [Int.add_zero] at e;rw [List.foldl_cons,List.foldl_cons,e];exact ih (fun y hy=>hL y A01) _
end
section
variable {c:Cf} {g:Gst} {l:List Int}
theorem qaa:∀ {L1 L2:List Int} {a:Int},(∀ x,g.K x->x≠0)->Sg g.M.F a L1 0->Pth g a L2->(∀ x∈L1,g.K x)->L1=L2
 | [],[],_,_,_,_,_=>rfl
 | [],y :: r,a,h0,p,q,_=>by
  obtain ⟨e,k,-⟩:=q;have e2:a=0:=p;exact absurd (e.symm.trans e2) (h0 y k)
 | x :: r,[],a,h0,p,q,hK=>by
  have e2:a=0:=q
  have e:a=x:=p.1
  exact absurd (e.symm.trans e2) (h0 x (hK x Ma))
 | x :: r,y :: s,a,h0,p,q,hK=>by
  obtain ⟨e,p⟩:=p
  obtain ⟨e',k,q,-⟩:=q
  have exy:x=y:=e.symm.trans e'
  subst exy
  rw [qaa h0 p q (fun z hz=>hK z Pv)]
structure WkF (c:Cf) (g:Gst) (L:List Int) (x:Wk) (k:Nat):Prop where
 b1:x.line=1->4+2 * L.length<=k
 b2:x.line=2->Bn g x.x/\3+2 * L.length<=k
 b3:x.line=3->x.x∈L/\2+2 * L.length<=k
 b5:x.line=5->(x.cur=zq c/\1+2 * L.length<=k)\/∃ i,L[i]? = some x.cur/\1+2 * (L.length - 1 - i)<=k
 b6:x.line=6->(x.cur=zq c/\L[0]? = some x.n/\2 * L.length<=k)\/∃ i,L[i]? = some x.cur/\L[i+1]? = some x.n/\2 * (L.length - 1 - i)<=k
 b0:x.line=0->x.at_∈L
theorem WkF.new (L:List Int) (key:Int):WkF c g L (Wk.new c key) (4+2 * L.length) :=
 ⟨fun _=>Nat.le_refl _,fun k=>by simp [Wk.new] at k,fun k=>by simp [Wk.new] at k,fun k=>by simp [Wk.new] at k,fun k=>by simp [Wk.new] at k,fun k=>by simp [Wk.new] at k⟩
theorem WkF.step (hc:c.Ok) {s:St} (h:OkG c g s.l) {L:List Int} (C:Chn c g s.l L) {x:Wk} (hx:WkI c g x) {k:Nat} (hf:WkF c g L x k) (h0:x.line≠0):1<=k/\WkF c g L (x.step s).1 (k - 1):=by
 have hl:x.live=true:=hx.ln.resolve_left h0;have hlv:=hl;unfold Wk.live at hlv;simp only [Bool.or_eq_true,decide_eq_true_eq] at hlv;have h00:∀ x,g.K x->x≠0:=fun x hk=>by have:=Rel.low hc h hk;have:=hc.t1;omega
 have eL:g.L=L:=qaa h00 h.bg.cl C.p h.bg.K
 have hne:1<=L.length:=Gy
 have e:(x.step s).1=x.next (qx s.l x.looks):=by unfold Wk.step;rw [qg hl]
 rw [e]
 have head5:∀ (y:Wk) (j:Nat),y.c=c->1+2 * L.length<=j->WkF c g L y.head j:=fun y j e1 e2 =>
  ⟨fun q=>by simp [Wk.head] at q,fun q=>by simp [Wk.head] at q,fun q=>by simp [Wk.head] at q,fun _=>.inl ⟨by show zq y.c=zq c;rw [e1],e2⟩,fun q=>by simp [Wk.head] at q,fun q=>by simp [Wk.head] at q⟩
 have ends0:∀ (y:Wk) (j:Nat),y.cur∈L->WkF c g L y.ends j:=fun y j e1 =>
  ⟨fun q=>by simp [Wk.ends] at q,fun q=>by simp [Wk.ends] at q,fun q=>by simp [Wk.ends] at q,fun q=>by simp [Wk.ends] at q,fun q=>by simp [Wk.ends] at q,fun _=>e1⟩
 have at5:∀ (y:Wk) (i j:Nat),y.line=5->L[i]? = some y.cur->1+2 * (L.length - 1 - i)<=j->WkF c g L y j:=fun y i j e1 e2 e3 =>
  ⟨fun q=>by omega,fun q=>by exfalso;omega,fun q=>by exfalso;omega,fun _=>.inr ⟨i,e2,e3⟩,fun q=>by exfalso;omega,fun q=>by exfalso;omega⟩
 unfold Wk.next;rcases (by omega:x.line=1\/x.line=2\/x.line=3\/x.line=5\/x.line=6) with l1 | l2 | l3 | l5 | l6
 ·have hk:=hf.b1 l1;refine ⟨by omega,?_⟩;have hky:=hx.key;have lk:x.looks=yn x.c x.key:=by unfold Wk.looks;rw [qg l1]
  rw [lk,qg l1]
  have hh:qx s.l (yn x.c x.key)=g.M.ht (x.key / 16):=Gc
  rw [hh];split
  ·exact Ho
  ·rename_i v0;have hB:=(h.bg.ht (x.key / 16) Ly Ly).resolve_left v0;exact ⟨fun q=>by simp at q,fun _=>⟨hB,by omega⟩,fun q=>by simp at q,fun q=>by simp at q,fun q=>by simp at q,fun q=>by simp at q⟩
 ·obtain ⟨hB,hk⟩:=hf.b2 l2;refine ⟨by omega,?_⟩;have lk:x.looks=wrap64 (x.x+6):=by unfold Wk.looks;rw [qf Ly,qg l2]
  rw [lk,qf Ly,qg l2];have hK:=hx.x2 (.inl l2);rw [rd hc h hK Ly O7];split
  ·rename_i v0
   have hm:x.x∈L:=by
    rcases hB with q | ⟨-,-,q⟩
    ·rw [<- eL];exact q
    ·omega
   exact ⟨fun q=>by simp at q,fun q=>by simp at q,fun _=>⟨hm,by omega⟩,fun q=>by simp at q,fun q=>by simp at q,fun q=>by simp at q⟩
  ·exact Ho
 ·obtain ⟨hm,hk⟩:=hf.b3 l3;refine ⟨by omega,?_⟩;rw [qf Ly,qf Ly,qg l3];split
  ·obtain ⟨i,hi⟩:=List.mem_iff_getElem?.1 hm;exact at5 { x with cur:=x.x,line:=5 } i _ rfl hi Ly
  ·exact Ho
 ·have hk:=hf.b5 l5;have lk:x.looks=wrap64 (x.cur+2):=by unfold Wk.looks;rw [qf Ly,qf Ly,qf Ly,qg l5]
  rw [lk,qf Ly,qf Ly,qf Ly,qg l5];rcases hk with ⟨hcur,hk⟩ | ⟨i,hi,hk⟩
  ·refine ⟨by omega,?_⟩;obtain ⟨a,ha,e1,e2⟩:=h.ki.hd
   have hp:qx s.l (wrap64 (x.cur+2))=2 * a:=by rw [hcur,Zk Ox Oy,h.rel.hn,e1]
   have ea:atW (2 * a)=a:=by unfold atW;omega
   rw [hp,ea,qf (h00 a ha)]
   have hL0:L[0]? = some a:=by
    have p:=C.p;rw [e1,show 2 * a / 2=a by omega] at p;cases L with
    | nil=>exact absurd rfl C.ne
    | cons y r=>rw [<- p.1];rfl
   exact ⟨fun q=>by simp at q,fun q=>by simp at q,fun q=>by simp at q,fun q=>by simp at q,fun _=>.inl ⟨hcur,hL0,by omega⟩,fun q=>by simp at q⟩
  ·refine ⟨by omega,?_⟩;have hm:=List.mem_of_getElem? hi;have hK:=C.p.mem _ hm;have hil:=(List.getElem?_eq_some_iff.1 hi).1;rw [rd hc h hK Ly Nt,show atW (g.M.F x.cur 2)=g.M.F x.cur 2 / 2 from rfl];have hnx:=C.p.next hi;split
   ·exact ends0 _ _ hm
   ·rename_i v0
    have hi2:L[i+1]? = some (g.M.F x.cur 2 / 2):=by
     cases q:L[i+1]? with
     | none=>exact absurd (hnx.2 q).1 v0
     | some y=>rw [(hnx.1 y q).1]
    have hil2:=(List.getElem?_eq_some_iff.1 hi2).1;exact ⟨fun q=>by simp at q,fun q=>by simp at q,fun q=>by simp at q,fun q=>by simp at q,fun _=>.inr ⟨i,hi,hi2,by omega⟩,fun q=>by simp at q⟩
 ·have hk:=hf.b6 l6;obtain ⟨hn,hn1,hn2⟩:=hx.n6 l6;have lk:x.looks=wrap64 x.n:=by unfold Wk.looks;rw [qf Ly,qf Ly,qf Ly,qf Ly]
  rw [lk,qf Ly,qf Ly,qf Ly,qf Ly,rd0 hc h hn];rcases hk with ⟨hcur,hL0,hk⟩ | ⟨i,hi,hi2,hk⟩
  ·refine ⟨by omega,?_⟩;rw [qg (by have:=hn1 hcur;have:=hx.key;omega)];exact at5 { x with cur:=x.n,line:=5 } 0 _ rfl hL0 Ly
  ·have hil2:=(List.getElem?_eq_some_iff.1 hi2).1;refine ⟨by omega,?_⟩;split
   ·exact at5 { x with cur:=x.n,line:=5 } (i+1) _ rfl hi2 Ly
   ·exact ends0 _ _ (List.mem_of_getElem? hi)
theorem WkF.end_ (hc:c.Ok) (h:OkG c g l) {L:List Int} (C:Chn c g l L) {x:Wk} (hx:WkI c g x) {k:Nat} (hf:WkF c g L x k) (h0:x.line=0):x.at_=ofW (qx l) L x.key:=by obtain ⟨q1,q2,q3⟩:=hx.e0 h0;have hky:=hx.key;obtain ⟨r1,r2,r3⟩:=C.of hc h (key:=x.key) Ly Ly;rw [qbv hc h x.key C.p.mem];exact q6p hc h C.p (hf.b0 h0) r1 ⟨q2,q3⟩ ⟨r2,r3⟩
end
end Go.Proofs.YtbddhncgemeohaaGreatDoor.Mx
namespace Go.Proofs.YtbddhncgemeohaaGreatDoor.Dw
open Go.RowKit Ar Og Ref Mx Vw Wd Ch Rf
theorem q7v {c:Cf} {rs:List (List O)} {ps0:List Int} (ds ps:List Int) (h0:Z0 c.t c.c c.wd c.v rs ps0=0) (hp:ps.length<=8000):∃ g,OkG c g (q4q c rs ds ps).a.l:=Ft
theorem qbg (x:Wk) (s:St):(x.step s).1.c=x.c/\(x.step s).1.key=x.key:=Ed
def FiAt (c:Cf) (g:Gst) (L l:List Int) (W:World) (b p q:Nat) (key:Int) (iv:Value) (wr:World):Prop:=∃ (i k:Nat) (x:Wk) (s:St),iv = .int .i64 i/\i+wkM c g x<=141/\x.line≠0/\WkI c g x/\WkF c g L x k/\i+k=4+2 * L.length/\s.n=(i:Int)/\s.l=l/\x.c=c/\x.key=key/\q4z wr b x/\Ar wr p q s/\Fr [b,p,q] W wr
def FwAt (l:List Int) (W:World) (v:Value) (wr:World):Prop:=∃ k:Nat,k<=l.length/\v = .int .i64 k/\Fr [] W wr
theorem q67 (c:Cf) (rs:List (List O)) (ps ds:List Int) (ov pv dv:Value) (ss:List Sv) (R:List Nat) (k:Int) (hk:0<=k/\k<=255) (w:World) (t:Fl w)
  (hS:Tf w (.agg #[.int .i64 c.t,.int .i64 c.c,.int .i64 c.wd,.int .i64 c.v,ov,pv,dv]) c rs ps ds ov pv dv ss R) :
  Calls Tryz.prog 3 #[.agg #[.int .i64 c.t,.int .i64 c.c,.int .i64 c.wd,.int .i64 c.v,ov,pv,dv],.int .u8 k] w fun e w'=>e = .returned (.bool true)/\Fr [] w w':=by
 have HS:=qb hS;have F0:=(Fr.refl [] w).alloc (.cells #[.int .i64 c.t,.int .i64 c.c,.int .i64 c.wd,.int .i64 c.v,ov,pv,dv] 27);have o1:=Ob.new w 27 #[.int .i64 c.t,.int .i64 c.c,.int .i64 c.wd,.int .i64 c.v,ov,pv,dv];clear hS;go_enter Tryz.func3,Tryz.ntmps3;go_wp2_with fail;generalize World.alloc w _=w0 at *;generalize hb1:w.heap.size=b1 at *;refine (U2 w0 (t.up F0)).mono ?_;rintro e w1 ⟨rfl,F1⟩;have G:=F0.trans F1;replace o1:=o1.up F1;clear F0 F1;have HX:=qb (qd hb1 o1.lt);clear hb1;have d0:=Ob.cell (i:=0) o1 rfl;have d1:=Ob.cell (i:=1) o1 rfl;have d2:=Ob.cell (i:=2) o1 rfl;have d3:=Ob.cell (i:=3) o1 rfl;have d4:=Ob.cell (i:=4) o1 rfl;have d5:=Ob.cell (i:=5) o1 rfl;have d6:=Ob.cell (i:=6) o1 rfl;go_wp2_with fail;refine (q2u c.t c.c c.wd c.v rs ps ds _ 400 _ (HS.out.scr.up G)).mono ?_;rintro e w2 ⟨rfl,F2⟩;replace G:=G.trans F2;replace o1:=o1.up F2;clear d0 d1 d2 d3 d4 d5 d6 F2;have d0:=Ob.cell (i:=0) o1 rfl;have d1:=Ob.cell (i:=1) o1 rfl;have d2:=Ob.cell (i:=2) o1 rfl;have d3:=Ob.cell (i:=3) o1 rfl;have d4:=Ob.cell (i:=4) o1 rfl;have d5:=Ob.cell (i:=5) o1 rfl;have d6:=Ob.cell (i:=6) o1 rfl;cases hw:Ka c.t c.c c.wd c.v rs ps ds 400 with
 | true =>
  exact Hz
 | false =>
  have HW:=qb (Jq hw);clear hw;have HT:=qb (qd t hk);clear t hk;have HC0:=qb (q1d HW.out.2.2.2.2.2).1;go_wp2_with fail;refine qq Me ?_;refine za [] w2 #[true,true,true,true,true,false,false] 5 2 rfl ?_;refine jw [true,true,true,false,false,false,false] 2 (n:=81) (listed':=#[true,true,true,false,false,false,false]) rfl Me Me Me Me Me rfl Me (fun _ _ d _ _ h=>by cases d <;> exact h) ((Fr.refl _ w2).drew) ?_;apply qh;refine ⟨fun wf Ff=>?_,?_⟩
  ·exact Iq
  have HG:=qb G;clear d0 d1 d2 d3 d4 d5 d6 o1 G;refine jc [3,4] Me Ma (fun w3 F3 i hi o ho=>?_);have D3:=(Fr.refl [] w2).drew.trans F3;rcases (by simpa using hi:i=3\/i=4) with rfl | rfl
  case' inl =>
   obtain rfl:=qj ho;clear ho hi;go_wp2_with fail;refine (Je c rs ps ds ov pv dv ss R _ _ (HS.out.up (HG.out.trans D3)) HW.out.2.2.2.2.2 O2).mono ?_;rintro e w4 ⟨pr,qr,rfl,hpr,hqr,Hr,F4⟩;have D4:=D3.trans F4;go_wp2_with fail;refine qo ⟨D4,?_⟩;refine loq 4 (fun w5 F5=>?_);have D5:=D4.trans F5;have oz:=Ob.new w5 23 #[.int .i64 0,.int .i64 0,.int .i64 0,.int .i64 0];have FA:=(Fr.refl [] w5).alloc (.cells #[.int .i64 0,.int .i64 0,.int .i64 0,.int .i64 0] 23);have hbc:=D5.size;have hne0:pr≠w5.heap.size/\qr≠w5.heap.size:=by have:=Hr.lt;have:=F5.size;omega
   go_wp2_with fail;generalize World.alloc w5 _=w6 at *;generalize w5.heap.size=bc at *;refine qo ⟨D5.trans FA,?_⟩;refine qy (k:=5) rfl Me (fun w7 F7=>?_);have o7:=oz.up F7;have E7:=F5.trans (FA.trans F7);replace Hr:=Hr.kept E7;have G:=HG.out.trans (D4.trans E7)
  case' inr =>
   obtain rfl:=qj ho;clear ho hi;have oz:=Ob.new w3 23 #[.int .i64 0,.int .i64 0,.int .i64 0,.int .i64 0];have FA:=(Fr.refl [] w3).alloc (.cells #[.int .i64 0,.int .i64 0,.int .i64 0,.int .i64 0] 23);have hbc:=D3.size;go_wp2_with fail;generalize World.alloc w3 _=w4 at *;generalize w3.heap.size=bc at *;refine qo ⟨D3.trans FA,?_⟩;refine loq 3 (fun w5 F5=>?_);have D5:=(D3.trans FA).trans F5;replace oz:=oz.up F5;go_wp2_with fail;refine (Je c rs ps ds ov pv dv ss R _ _ (HS.out.up (HG.out.trans D5)) HW.out.2.2.2.2.2 O2).mono ?_;rintro e w6 ⟨pr,qr,rfl,hpr,hqr,Hr,F6⟩;have hne0:pr≠bc/\qr≠bc:=by have:=oz.lt;omega
   go_wp2_with fail;refine qo ⟨D5.trans F6,?_⟩;refine qy (k:=5) rfl Me (fun w7 F7=>?_);have o7:=(oz.up F6).up F7;replace Hr:=Hr.kept F7;have G:=HG.out.trans ((D5.trans F6).trans F7)
  all_goals
   have hbw:w.heap.size<=bc:=qi HG.out.size hbc
   have hbl:=o7.lt
   have hrl:=Hr.lt
   clear hpr hqr
   obtain ⟨z0,z1,z2,z3⟩:=Pl.xj o7
   have zf:=o7.frozen
   have F8:Fr [bc] w7 ((((w7.setCell ⟨bc,0,none⟩ (.int .i64 c.t)).setCell ⟨bc,1,none⟩ (.int .i64 c.c)).setCell ⟨bc,2,none⟩ (.int .i64 c.wd)).setCell ⟨bc,3,none⟩ (.int .i64 c.v)):=(((Fr.setCell (S:=[bc]) (b:=bc) _ Ma).setCell' (b:=bc) _ Ma).setCell' (b:=bc) _ Ma).setCell' (b:=bc) _ Ma
   have o8:Ob ((((w7.setCell ⟨bc,0,none⟩ (.int .i64 c.t)).setCell ⟨bc,1,none⟩ (.int .i64 c.c)).setCell ⟨bc,2,none⟩ (.int .i64 c.wd)).setCell ⟨bc,3,none⟩ (.int .i64 c.v)) bc 23 #[.int .i64 c.t,.int .i64 c.c,.int .i64 c.wd,.int .i64 c.v]:=Ob.set (i:=3) (Ob.set (i:=2) (Ob.set (i:=1) (Ob.set (i:=0) o7 (.int .i64 c.t)) (.int .i64 c.c)) (.int .i64 c.wd)) (.int .i64 c.v)
   go_wp2_with fail
   clear z0 z1 z2 z3 zf o7
   generalize World.setCell (World.setCell (World.setCell (World.setCell w7 _ _) _ _) _ _) _ _=w8 at *
   replace Hr:=Hr.kept F8 (by simpa using hne0.1) (by simpa using hne0.2)
   have G8:=G.own F8 (by simpa using hbw)
   have hbc8:=o8.lt
   have hr8:=Hr.lt
   clear F8 G hbl hrl
   have hgl:=q7v ds ps HW.out.2.2.2.2.2 O2
   obtain ⟨n,hn⟩:=Int.eq_ofNat_of_zero_le (show 0<=c.c by have:=HC0.out.c2;have:=HC0.out.t1;omega)
   have HN0:=qb (show c.c=(n:Int)/\1<=n/\n<=16/\1<=c.t/\c.t<=8 by have:=HC0.out.c2;have:=HC0.out.t1;have:=HC0.out.c16;have:=HC0.out.t8;omega)
   generalize (q4q c rs ds ps).a=s at *
   obtain ⟨g,hg⟩:=hgl
   obtain ⟨L,hC⟩:=qal HC0.out hg
   have HGI:=qb (qd hg (qd hC (hC.Kn HC0.out hg hn)))
   have HRr:=qb Hr
   clear hg hC hn
   refine (Tu pr qr s _ Hr).mono ?_;rintro e w9 ⟨pa,qa,rfl,hpa,hqa,Ha,F9⟩
   have G9:=G8.trans F9
   have o9:=o8.up F9
   have HR9:=qb (HRr.out.kept F9 Ma Ma)
   have hal:=Ha.lt
   have hGs:=G8.size
   clear G8 o8 F9 Hr HRr
   obtain ⟨c0,c1,c2,c3⟩:=Pl.xj o9
   have hk:=HT.out.2
   go_wp2_with fail
   refine (Ue c HC0.out (k % 64) Ly _).mono ?_;rintro e w10 ⟨b,rfl,hb,D,F10⟩
   have hfl:=qe3 HT.out.1
   have HN:=qb (show (b≠pa/\b≠qa)/\(0≠b/\0≠pa/\0≠qa)/\(bc≠b/\bc≠pa/\bc≠qa)/\(w.heap.size<=b/\w.heap.size<=pa/\w.heap.size<=qa)/\(pr≠b/\pr≠pa/\pr≠qa)/\(qr≠b/\qr≠pa/\qr≠qa) by omega)
   have A:=Ha.kept F10
   have HG2:=qb (G9.trans F10)
   have HO:=qb (o9.up F10)
   have HRf:=qb (HR9.out.kept F10 Ma Ma)
   have hlv:(R5 s.l).l=s.l:=rfl
   have hnv:(R5 s.l).n=0:=rfl
   generalize R5 s.l=sa at *
   clear c0 c1 c2 c3 Ha F10 G9 o9 hal hpa hqa hb hfl hGs hbc8 hr8 hne0 hbw HR9
   go_wp2_with fail
   go_loopw [9] (fun iv wr=>FiAt c g L s.l w10 b pa qa (k % 64) iv wr) (fun iv _=>200 - (intOf iv).toNat)
   case' atStart=>exact ⟨0,4+2 * L.length,Wk.new c (k % 64),sa,rfl,by rw [qb9];omega,by simp [Wk.new],WkI.new (by have:=HT.out.2;omega),WkF.new L _,by omega,by rw [hnv];rfl,hlv,rfl,rfl,D,A,Fr.refl _ _⟩
   obtain ⟨i,kk,x,s2,rfl,hi,h0,hW,hF,hik,hsn,hl,hxc,hxk,D2,A2,F⟩:=hrel
   have hOK:OkG c g s2.l:=by rw [hl];exact HGI.out.1
   have hCC:Chn c g s2.l L:=⟨HGI.out.2.1.p,HGI.out.2.1.ne,HGI.out.2.1.first⟩
   have hst:=Zl D2 ((HT.out.1.up HG2.out).kept F Od) A2 HN.out.1 HN.out.2.1.2 (fun l5=>qbh HC0.out hOK hW l5)
   have HST:=qb hst
   have hsame:(x.step s2).1.c=x.c/\(x.step s2).1.key=x.key:=qbg x s2
   have hln:(x.step s2).2.n=((i+1:Nat):Int):=by
    unfold Wk.step
    rw [qg (hW.ln.resolve_left h0)]
    show inc s2.n=_
    unfold inc
    rw [hsn,w64 Ly Ly];rfl
   have hff:=WkF.step HC0.out hOK hCC hW hF h0
   have HI:=qb (qd hi (qd (qde HC0.out hOK hW h0) (qd (hW.step HC0.out hOK) (qd ((Jd x s2).trans hl) (qd hff (qd hik (qd hln (qd (hsame.1.trans hxc) (hsame.2.trans hxk)))))))))
   have HF:=qb F
   clear hst hOK hCC hsame hln hff D2 A2 F hi h0 hW hF hik hsn hl hxc hxk D A hlv hnv
   go_wp2_with fail
   refine HST.out.mono ?_;rintro e w11 ⟨rfl,D3,A3,F3⟩
   have HF3:=qb (HF.out.trans F3)
   clear F3
   by_cases hz:(x.step s2).1.line=0
   ·have HZ:=qb hz
    rw [decide_eq_true hz]
    clear hz HST
    generalize (x.step s2).1=x3 at *
    generalize (x.step s2).2=s3 at *
    have hend:=WkF.end_ HC0.out HGI.out.1 HGI.out.2.1 HI.out.2.2.1 HI.out.2.2.2.2.1.2 HZ.out
    rw [HI.out.2.2.2.2.2.2.2.2,<- HGI.out.2.2] at hend
    have HEND:=qb hend
    have HR11:=qb (HRf.out.kept HF3.out (by simp;exact HN.out.2.2.2.2.1) (by simp;exact HN.out.2.2.2.2.2))
    have HO11:=qb (HO.out.kept HF3.out (by simp;exact HN.out.2.2.1))
    have HD3:=qb D3
    have HA3:=qb A3
    have hll:=(Jl (qx s.l) s.l.length n c.t).le
    rw [HGI.out.2.2] at hll
    have hhi:=HR11.out.hi
    have HLL:=qb (qd hll hhi)
    have hsl:=HI.out.2.2.2.1
    have HSL:=qb hsl
    clear hend D3 A3 hll hhi hsl
    obtain ⟨cap,hcap,rr0,rr1,rr2,rr3,rr4,rr5,rr6,hcc⟩:=Ref.Zy HR11.out
    have HCC:=qb (qd rr0 hcc)
    clear rr0 rr1 rr2 rr3 rr4 rr5 rr6 hcc
    go_wp2_with fail
    go_loopw [10] (fun v wr=>FwAt s.l w11 v wr) (fun v _=>s.l.length - (intOf v).toNat)
    case' atStart=>exact ⟨0,Nat.zero_le _,rfl,Fr.refl _ _⟩
    obtain ⟨j,hj,rfl,F⟩:=hrel
    have r0:=F.cell HCC.out.1 Ma
    have HFj:=qb F
    clear F
    by_cases hlt:j<s.l.length
    ·have hcell:=HFj.out.cell (HCC.out.2 j hlt) Ma
     have hpk:qx s3.l j=nth s.l j:=by rw [HSL.out];exact U6 hlt
     have HPK:=qb (show ∀ wz,Fr [] wr wz->Calls Tryz.prog 11 #[.pointer (some ⟨pa,0,none⟩),.int .i64 j] wz fun e w'=>e = .returned (.int .i64 (nth s.l j))/\wz=w' from fun wz Fz=>hpk ▸ ja wz pa qa s3 j ((HA3.out.kept HFj.out Ma Ma).kept Fz Ma Ma))
     have q1:decide ((j:Int)<(s.l.length:Int))=true:=by simp;omega
     have q2:decide (j<s.l.length)=true:=decide_eq_true hlt
     have b1:(0:Int)<=(j:Int):=by omega
     have b2:(j:Int)<(s.l.length:Int):=by omega
     have hhi:=HLL.out.2
     have i0:=qc r0
     have i1:=qc hcell
     clear hpk hlt
     go_wp2_with fail
     refine wiq ?_
     repeat (go_big_quiet_step ((go_at_call 11;exact Calls.in_same (HPK.out _ (In.fr _)))))
     refine wpQuiet_nil ?_
     intro w13 F13
     have HG13:=qb (HFj.out.trans F13)
     clear i0 i1 r0 hcell F13 HPK
     go_wp2_with fail
     go_roundw
     case rel=>exact ⟨j+1,by omega,by go_num,HG13.out⟩
     case measure=>simp [intOf];omega
     all_goals (exfalso;omega)
    ·obtain rfl:j=s.l.length:=by omega
     have q1:decide ((s.l.length:Int)<(s.l.length:Int))=false:=by simp
     clear hlt hj
     have HC:=qb (show ∀ wz,Fr [] wr wz->Calls Tryz.prog 12 #[.pointer (some ⟨b,0,none⟩)] wz fun e w'=>e = .returned (.int .i64 x3.at_)/\wz=w' from fun wz Fz=>by
      have:=Xp ((HD3.out.up HFj.out).up Fz)
      rw [qg HZ.out] at this
      exact this)
     have HX2:=qb (show ∀ wz,Fr [] wr wz->Calls Tryz.prog 14 #[.pointer (some ⟨pa,0,none⟩)] wz fun e w'=>e = .returned (.int .i64 ((i:Int)+1))/\wz=w' from fun wz Fz=>by
      have:=Yz wz pa qa _ ((HA3.out.kept HFj.out Ma Ma).kept Fz Ma Ma)
      rw [HI.out.2.2.2.2.2.2.1] at this
      exact this)
     have HOF:=qb (show ∀ wz,Fr [] wr wz->Calls Tryz.prog 13 #[.agg #[.int .i64 c.t,.int .i64 n,.int .i64 c.wd,.int .i64 c.v],.pointer (some ⟨pr,0,none⟩),.int .i64 (k % 64)] wz fun e w'=>e = .returned (.int .i64 x3.at_)/\Fr [] wz w' from fun wz Fz=>by
      have:=q5l c.t c.wd c.v (k % 64) n pr qr s wz HN0.out.2.2.2.1 HN0.out.2.2.2.2 HN0.out.2.1 HN0.out.2.2.1 ((HR11.out.kept HFj.out Ma Ma).kept Fz Ma Ma)
      rw [HEND.out,<- HSL.out] at *
      exact this)
     have HALL:=qb (show ∀ wz,Fr [] wr wz->_ from fun wz Fz=>Uq c.t c.wd c.v n pr qr s wz HN0.out.2.2.2.1 HN0.out.2.2.2.2 HN0.out.2.1 HN0.out.2.2.1 ((HR11.out.kept HFj.out Ma Ma).kept Fz Ma Ma))
     obtain ⟨e0,e1,e2,e3⟩:=Pl.xj (HO11.out.up HFj.out)
     rw [HN0.out.1] at e1
     have hk:=HT.out.2
     have hi7:=HI.out.1
     go_wp2_with fail
     refine qq Me ?_
     refine za [] wr #[true,true,true,true,true,true,true,true,true,true,true,true,true,true,true,true,true,true,true,true,true,true,true,true,true,true,true,false] 27 1 rfl ?_
     refine jw [true,true,true,true,true,true,true,true,true,true,true,true,true,true,true,true,true,true,true,true,true,false,false,false,false,false,false,false] 6 (n:=81) (listed':=#[true,true,true,true,true,true,true,true,true,true,true,true,true,true,true,true,true,true,true,true,true,false,false,false,false,false,false,false]) rfl Me Me Me Me Me rfl Me (fun _ _ d _ _ h=>by cases d <;> exact h) ((Fr.refl _ wr).drew) ?_
     apply qh
     refine ⟨fun wf Ff=>?_,?_⟩
     ·have i0:=qc (Ff.cell e0 Ma)
      have i1:=qc (Ff.cell e1 Ma)
      have i2:=qc (Ff.cell e2 Ma)
      have i3:=qc (Ff.cell e3 Ma)
      simp only [sel]
      repeat (go_big_quiet_step ((first | (go_at_call 12;exact Calls.in_same (HC.out _ (Ff.trans (In.fr _)))) | (go_at_call 14;exact Calls.in_same (HX2.out _ (Ff.trans (In.fr _)))) | (go_at_call 13;exact Calls.in_ (HOF.out _ (Ff.trans (In.fr _)))))))
      exact wpQuiet_nil rfl
     refine loq 21 (fun w14 F14=>?_)
     have D14:=(Fr.refl [] wr).drew.trans F14
     clear HC HX2 HOF
     go_wp2_with fail
     refine (HALL.out _ D14).mono ?_;rintro e w15 ⟨⟨u,rfl,hu⟩,F15⟩
     rw [HGI.out.2.2] at hu
     obtain ⟨au,cu,rfl,-,-⟩:=kg hu
     have hle:=HLL.out
     have hcount:i+1<=4+2 * L.length:=by have:=HI.out.2.2.2.2.2.1;have:=HI.out.2.2.2.2.1.1;omega
     have q5:decide ((i:Int)+1<=4+2 * (L.length:Int))=true:=by simp;omega
     clear hu e0 e1 e2 e3 HALL
     go_wp2_with fail
     refine qo ⟨D14.trans F15,?_⟩
     refine jw [false,false,false,false,false,false,false,false,false,false,false,false,false,false,false,false,false,false,false,false,false,false,true,true,true,true,true,false] 0 (n:=81) (listed':=#[true,true,true,true,true,true,true,true,true,true,true,true,true,true,true,true,true,true,true,true,true,true,true,true,true,true,true,false]) rfl Me Me Me Me Me rfl Me (fun _ _ d _ _ h=>by cases d <;> exact h) (D14.trans F15) ?_
     apply qh
     refine ⟨fun wf Ff=>?_,?_⟩
     ·simp only [sel]
      repeat (go_big_quiet_step (fail))
      exact wpQuiet_nil rfl
     refine qy (k:=27) rfl Me (fun w16 F16=>?_)
     go_wp2
     go_ret
     exact ⟨rfl,(HG2.out.own HF3.out (by have:=HN.out.2.2.2.1;simp;omega)).trans (HFj.out.trans ((D14.trans F15).trans F16))⟩
   ·rw [decide_eq_false hz]
    have HZ:=qb hz
    have q1:decide ((i:Int)+1>4000)=false:=by have:=HI.out.1;simp;omega
    have q2:decide (i+1>4000)=false:=by have:=HI.out.1;simp;omega
    have hi7:=HI.out.1
    clear hz
    go_wp2_with fail
    go_roundw
    case rel=>exact ⟨i+1,kk - 1,_,_,by go_num,by have:=HI.out.2.1;omega,HZ.out,HI.out.2.2.1,HI.out.2.2.2.2.1.2,by have:=HI.out.2.2.2.2.2.1;have:=HI.out.2.2.2.2.1.1;omega,HI.out.2.2.2.2.2.2.1,HI.out.2.2.2.1,HI.out.2.2.2.2.2.2.2.1,HI.out.2.2.2.2.2.2.2.2,D3,A3,HF3.out⟩
    case measure =>
     show 200 - ((i:Int)+1).toNat<200 - ((i:Int)).toNat
     omega
    all_goals (exfalso;omega)
end Go.Proofs.YtbddhncgemeohaaGreatDoor.Dw
namespace Go.Proofs.YtbddhncgemeohaaGreatDoor.Dw
open Go.RowKit Ar Og Ref Mx Vw Wd
theorem q3r {H:Type} {enc:TypeId×Value->H} {r:Reach} {b0:Nat} {d:DataW H} {p:List MemPlace} {s:Value} (k:Int) (W:World) (t0:Fl W) (hs:Value.okWide Tryz.prog W r b0 27 s) (h:DataW.Trod enc Tryz.prog W 0 (fun _=>true) true 27 s d p) (hk:0<=k/\k<=255) :
  Calls Tryz.prog 3 #[s,.int .u8 k] W fun e w'=>e = .returned (.bool true)/\Fr [] W w':=by
 obtain ⟨t,c,wd,vv,vo,vp,vd,rs,ss,ps,ds,rfl,k1,k2,k3,k4,k5⟩:=Op10.q1w hs h;exact q67 ⟨t,c,wd,vv⟩ rs ps ds vo vp vd ss (List.range W.heap.size) k hk W t0 (qao (c:=⟨t,c,wd,vv⟩) k1 k2 k3 k4 k5)
end Go.Proofs.YtbddhncgemeohaaGreatDoor.Dw
namespace Go.Proofs.YtbddhncgemeohaaGreatDoor.Mx
open Go.RowKit Ar Ref Vw Ch Rf
theorem R4 {f:Int->Int} {len n:Nat}:∀ (k:Nat) (a:Int) (acc:List Int),∀ x∈acc,x∈Zm f len n k a acc
 | 0,_,_,x,hx=>hx
 | k+1,a,acc,x,hx=>by
  unfold Zm;split
  ·exact hx
  ·exact R4 k _ _ x (by simp [hx])
theorem U1 {f f':Int->Int} {len n:Nat}:∀ (k:Nat) (a:Int) (acc:List Int),(∀ x∈Zm f len n k a acc,f' (x+2)=f (x+2))->Zm f' len n k a acc=Zm f len n k a acc
 | 0,_,_,_=>rfl
 | k+1,a,acc,h=>by
  unfold Zm at h ⊢;split
  ·rfl
  ·rename_i hn;rw [qf hn] at h;rw [h a (R4 k _ _ a Ma)];exact U1 k _ _ h
theorem q5s {f f':Int->Int} {len n:Nat} {t:Int} (h0:f' (9+t)=f (9+t)) (h:∀ x∈Kn f len n t,f' (x+2)=f (x+2)):Kn f' len n t=Kn f len n t:=by unfold Kn at h ⊢;rw [h0];exact U1 _ _ _ h
theorem q96 {f f':Int->Int} {key:Int} {L:List Int} (h:∀ x∈L,f' x=f x):ofW f' L key=ofW f L key:=by
 suffices H:∀ z:Int,L.foldl (fun b x=>if f' x<=key then x else b) z=L.foldl (fun b x=>if f x<=key then x else b) z from H 0
 intro z;induction L generalizing z with
 | nil=>rfl
 | cons x r ih =>
  rw [List.foldl_cons,List.foldl_cons,h x Ma];exact ih (fun y hy=>h y A01) _
section
variable {c:Cf} {g:Gst} {l:List Int}
theorem qdm (hc:c.Ok) (h:OkG c g l) {L:List Int} (C:Chn c g l L) {f:Int->Int} (h0:f (zq c+2)=qx l (zq c+2)) (hx:∀ x∈L,f x=qx l x/\f (x+2)=qx l (x+2)) {key:Int} (ht:f (yn c key)=0\/f (yn c key)∈L\/f (wrap64 (f (yn c key)+6))≠0):Stl c f L key:=by
 have hsz:=xk hc
 have e0:∀ x∈L,f x=g.M.F x 0:=fun x hm=>by have e:=h.rel.F x (C.p.mem x hm) 0 Ly Ly;rw [Int.add_zero] at e;rw [(hx x hm).1,e]
 have e2:∀ x∈L,f (x+2)=g.M.F x 2:=fun x hm=>by rw [(hx x hm).2,h.rel.F x (C.p.mem x hm) 2 Ly Ly]
 obtain ⟨a,ha,q1,q2⟩:=h.ki.hd;have hba:=Kq hc h ha;have hla:=Rel.low hc h ha;have ht1:=hc.t1
 have hne:1<=L.length:=Gy
 refine ⟨hne,fun x hx0=>?_,?_,fun i x hi=>?_,fun x hm=>?_,fun x hm=>?_,ht⟩
 ·refine ⟨?_,?_⟩
  ·rw [h0,h.rel.hn];have p:=C.p;cases L with
   | nil=>simp at hx0
   | cons y r=>
    have:y=x:=by simpa using hx0
    rw [p.1,this]
  ·rw [e0 x (List.mem_of_getElem? hx0)];exact C.first x hx0
 ·rw [h0,h.rel.hn,q1];omega
 ·have hm:=List.mem_of_getElem? hi;have hn:=C.p.next hi;have hb:=q8f hc h (C.p.mem x hm);rw [e2 x hm];refine ⟨by omega,by omega,fun y hy=>⟨(hn.1 y hy).1,?_⟩,fun hy=>(hn.2 hy).1⟩;rw [e0 x hm,e0 y (List.mem_of_getElem? hy),(hn.1 y hy).2];exact (h.ki.mn x (C.p.mem x hm)).2.1
 ·have q:=Rel.low hc h (C.p.mem x hm);have q2:=Kq hc h (C.p.mem x hm);unfold zq;omega
 ·rw [e0 x hm];have:=h.ki.mn x (C.p.mem x hm);omega
end
structure HtOk (c:Cf) (L:List Int) (n:Nat) (k h:Int) (l:List Int):Prop where
 all:Kn (qx l) l.length n c.t=L
 stl:Stl c (qx (vg l (yn c k) h)) L k
 of_:ofW (qx (vg l (yn c k) h)) L k=ofW (qx l) L k
theorem Stl.ge {c:Cf} {f:Int->Int} {L:List Int} {ky:Int} (h:Stl c f L ky):∀ (i:Nat) x,L[i]? = some x->(i:Int)<=f x
 | 0,x,hx=>by have:=(h.up x (List.mem_of_getElem? hx)).1;simpa using this
 | i+1,x,hx=>by
  have hl:=(List.getElem?_eq_some_iff.1 hx).1;obtain ⟨z,hz⟩:∃ z,L[i]? = some z:=⟨L[i],List.getElem?_eq_getElem Ly⟩;have h1:=h.ge i z hz;have h2:=((h.nx i z hz).2.2.1 x hx).2;omega
theorem Stl.few {c:Cf} {f:Int->Int} {L:List Int} {ky:Int} (h:Stl c f L ky):L.length<=64:=by
 rcases Nat.lt_or_ge 64 L.length with q | q
 ·obtain ⟨z,hz⟩:∃ z,L[64]? = some z:=⟨L[64],List.getElem?_eq_getElem q⟩;have h1:=h.ge 64 z hz;have h2:=(h.up z (List.mem_of_getElem? hz)).2;omega
 ·exact q
section
variable {c:Cf} {g:Gst} {l:List Int}
theorem qan (hc:c.Ok) {x:Int} (h:Al c x) {d:Int} (hd:0<=d/\d<=6):x+d≠28+c.t+3 * c.c:=by
 obtain ⟨m,rfl⟩:=h;have h2:=hc.c2;have h1:=hc.t1;unfold jk z8;generalize hs:(7:Int)+3 * c.c=z;have hz:7<z:=by omega
 have hr:28+c.t+3 * c.c=14+c.t+z+7:=by omega
 rw [hr]
 have key:(m:Int) * z+d≠z+7:=by
  rcases Nat.lt_or_ge m 2 with q | q
  ·rcases (by omega:m=0\/m=1) with e | e
   ·subst e;simp;omega
   ·subst e;simp;omega
  ·have:2 * z<=(m:Int) * z:=Int.mul_le_mul_of_nonneg_right Ly Ly;omega
 omega
theorem qb8 (hc:c.Ok) (h:OkG c g l) {L:List Int} (C:Chn c g l L) {n:Nat} (hn:c.c=(n:Int)) {k:Int} (hk:0<=k/\k<=63) {lr:List Int} (hlr:lr=l\/lr=vg l (28+c.t+3 * c.c) 1) {v:Int} (hv:v=0\/v∈L\/(v=22+c.t+3 * c.c/\qx lr (28+c.t+3 * c.c)=1)):HtOk c L n k v lr:=by
 have h2:=hc.c2;have h1:=hc.t1;have h8:=hc.t8;have h16:=hc.c16;have hlen:lr.length=l.length:=by rcases hlr with rfl | rfl;rfl;exact kw _ _ _
 have hwl:=h.rel.len;obtain ⟨a,ha,-,-⟩:=h.ki.hd;have hlow:=Rel.low hc h ha
 have far:∀ q,q≠28+c.t+3 * c.c->qx lr q=qx l q:=fun q hq=>by
  rcases hlr with rfl | rfl
  ·rfl
  ·rw [xn,qf (fun e=>hq e.1)]
 have fr2:∀ q,q≠yn c k->qx (vg lr (yn c k) v) q=qx lr q:=fun q hq=>by rw [xn,qf (fun e=>hq e.1)]
 have hin:yn c k<=6+c.t/\0<=yn c k:=by unfold yn;omega
 have hal:∀ x∈L,Al c x:=fun x hx=>(h.ki.al x (C.p.mem x hx)).1
 have hpo:∀ x∈L,14+c.t<=x:=fun x hx=>(Rel.low hc h (C.p.mem x hx)).1
 have e0:∀ x∈L,qx lr x=qx l x:=fun x hx=>far x (by have:=qan hc (hal x hx) (d:=0) Ly;omega)
 have e2:∀ x∈L,qx lr (x+2)=qx l (x+2):=fun x hx=>far _ (qan hc (hal x hx) (d:=2) Ly)
 have f0:∀ x∈L,qx (vg lr (yn c k) v) x=qx lr x:=fun x hx=>fr2 x (by have:=hpo x hx;omega)
 have f2:∀ x∈L,qx (vg lr (yn c k) v) (x+2)=qx lr (x+2):=fun x hx=>fr2 _ (by have:=hpo x hx;omega)
 have hall:Kn (qx lr) lr.length n c.t=L:=by have e:=C.Kn hc h hn;rw [hlen,q5s (f:=qx l) (f':=qx lr) (far _ Ly) (fun x hx=>e2 x (by rw [e] at hx;exact hx)),e]
 refine ⟨hall,qdm hc h C ?_ (fun x hx=>⟨(f0 x hx).trans (e0 x hx),(f2 x hx).trans (e2 x hx)⟩) ?_,q96 f0⟩
 ·rw [fr2 _ Mw,far _ Mw]
 ·have hh:qx (vg lr (yn c k) v) (yn c k)=v:=by rw [xn,qg ⟨rfl,hin.2,by rw [hlen];omega⟩]
  rw [hh];rcases hv with q | q | ⟨q1,q2⟩
  ·exact .inl q
  ·exact .inr (.inl q)
  ·refine .inr (.inr ?_);have q3:wrap64 (v+6)=28+c.t+3 * c.c:=by rw [w64 Ly Ly];omega
   rw [q3,fr2 _ Ly,q2];decide
end
end Go.Proofs.YtbddhncgemeohaaGreatDoor.Mx
