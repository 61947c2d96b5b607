/- Parts. -/
import Derived.Test.YtleclbldlladmaaGreatVaz
import Derived.Test.YtleclbldlladmaaGreatVbe
set_option linter.unusedVariables false
set_option linter.unusedSimpArgs false
set_option maxRecDepth 100000
set_option maxHeartbeats 12800000
namespace Go.Proofs.YtleclbldlladmaaGreat.Mx
open Go.RowKit Ar Ref Og Mp
section
variable {c:Cf} {g:Gst} {l:List Int}
structure PtI (c:Cf) (g:Gst) (l:List Int) (x:Pt):Prop where
 cc:x.c=c
 key:0<=x.key/\x.key<=63
 wkey:x.w.key=x.key
 wi:x.m=none->x.x=none->WkI c g x.w
 xi:x.m=none->∀ y,x.x=some y->ClI c g y
 mi:∀ y,x.m=some y->MdI c g l y
 wb:x.m=none->x.x=none->WkB c (Bn g) (Bn g) x.w
def Pt.mineC (x:Pt):Int->Int->Prop:=fun a i=>x.m=none/\∃ y,x.x=some y/\y.mine a i
def Pt.mineP (c:Cf) (x:Pt):Int->Prop:=fun q=>∃ y,x.m=some y/\y.mineP c q
theorem PtI.new {key:Int} (hk:0<=key/\key<=63) (d:Int) (ds:List Int):PtI c g l (Pt.new c key d ds) :=
 ⟨rfl,hk,rfl,fun _ _=>WkI.new hk,fun _ y e=>Lr,fun y e=>Lr,fun _ _=>WkB.new _ _ _⟩
theorem PtI.keep (hc:c.Ok) (h:OkG c g l) {g':Gst} {l':List Int} {mc:Int->Int->Prop} {mp:Int->Prop} {x:Pt} (hx:PtI c g l x) (e:Goes c g l g' l' mc mp) (h1:∀ a i,x.mineC a i->¬ mc a i) (h2:∀ q,x.mineP c q->¬ mp q):PtI c g' l' x :=
 ⟨hx.cc,hx.key,hx.wkey,fun k1 k2=>(hx.wi k1 k2).ext e.ext (Ql hc e.ok),fun k1 y k2=>(hx.xi k1 y k2).keep e (fun a i hm=>h1 a i ⟨k1,y,k2,hm⟩),fun y k=>(hx.mi y k).keep hc h e (fun q hq=>h2 q ⟨y,k,hq⟩),fun k1 k2=>(hx.wb k1 k2).more e.ext.bn e.ext.bn⟩
theorem OkG.hdB (hc:c.Ok) (h:OkG c g l):Bn g (g.M.hn / 2):=by obtain ⟨a,ha,e1,-⟩:=h.ki.hd;have:=h.p15 hc _ ha;have k:=h.bg.cl;rw [e1,show 2 * a / 2=a by omega] at k ⊢;left;exact Ex
theorem ClI.new {a key:Int} (ha:g.K a) (hb:Bn g a) (hk:g.M.F a 0<=key/\key<g.up a) (d:Int):ClI c g (Cl.new c a key d) :=
 ⟨rfl,ha,hk,fun k=>by simp [Cl.new] at k,fun k=>by simp [Cl.new] at k,fun k=>by simp [Cl.new] at k,by simp [Cl.new],hb⟩
theorem q0z (x:Wk) (s:St):(x.step s).1.key=x.key:=by
 unfold Wk.step;split
 ·unfold Wk.next Wk.head Wk.ends;(repeat' split) <;> rfl
 ·rfl
theorem PtI.step (hc:c.Ok) {s:St} (h:OkG c g s.l) (hT:g.M.top<=900000000000000) (hB:∀ a,g.K a->0<=g.M.F a 1/\g.M.F a 1<=900000000000000) {x:Pt} (hx:PtI c g s.l x) :
  ∃ g',Goes c g s.l g' (x.step s).2.l x.mineC (x.mineP c)/\PtI c g' (x.step s).2.l (x.step s).1/\(∀ a i,(x.step s).1.mineC a i->x.mineC a i\/(g.K a/\i=g.M.F a 1))/\∀ q,(x.step s).1.mineP c q->x.mineP c q\/g.M.top<=q:=by
 have same:=Goes.same h x.mineC (x.mineP c);have hcm:=hx.cc;unfold Pt.step;by_cases ho:x.over=true
 ·rw [qf ho];exact ⟨g,same,hx,fun a i k=>.inl k,fun q k=>.inl k⟩
 ·rw [qd ho];cases em:x.m with
  | some m =>
   simp only;obtain ⟨g',G,k,kq⟩:=(hx.mi m em).step hc h hT;have GG:Goes c g s.l g' (m.step s).2.l x.mineC (x.mineP c):=G.weak (fun _ _ k=>k.elim) (fun q k=>⟨m,em,k⟩);by_cases e0:(m.step s).1.f=[]
   ·rw [qf e0];refine ⟨g',GG,⟨hcm,hx.key,rfl,fun _ _=>?_,fun _ y e=>Lr,fun y e=>Lr,fun _ _=>(by simp only;rw [hcm];exact WkB.new _ _ _)⟩,fun a i k=>?_,fun q k=>?_⟩
    ·simp only;rw [hcm];exact WkI.new hx.key
    ·obtain ⟨-,y,e,-⟩:=k;cases e
    ·obtain ⟨y,e,-⟩:=k;cases e
   ·rw [qd e0];refine ⟨g',GG,⟨hcm,hx.key,hx.wkey,fun e=>Lr,fun e=>Lr,fun y e=>?_,fun e=>Lr⟩,fun a i k=>?_,fun q k=>?_⟩
    ·exact Hv
    ·obtain ⟨e,-⟩:=k;cases e
    ·obtain ⟨y,e,hq⟩:=k;simp only [Option.some.injEq] at e;rw [<- e] at hq;exact (kq q hq).imp (fun k=>⟨m,em,k⟩) id
  | none =>
   simp only;have nop:∀ (m':Option Md) (q:Int),(∀ y,m'=some y->∀ q,¬ y.mineP c q)->(∃ y,m'=some y/\y.mineP c q)->x.mineP c q\/g.M.top<=q:=fun m' q k1 ⟨y,k2,k3⟩=>absurd k3 (k1 y k2 q)
   cases ex:x.x with
   | some cl =>
    simp only;obtain ⟨g',G,k,km⟩:=(hx.xi em cl ex).step hc h hB;have GG:Goes c g s.l g' (cl.step s).2.l x.mineC (x.mineP c):=G.weak (fun a i k=>⟨em,cl,ex,k⟩) (fun _ k=>k.elim)
    have kc:∀ y:Pt,y.x=some (cl.step s).1->∀ a i,y.mineC a i->x.mineC a i\/(g.K a/\i=g.M.F a 1):=fun y e a i ⟨_,z,e2,hz⟩=>by
     rw [e] at e2;simp only [Option.some.injEq] at e2;rw [<- e2] at hz;rcases km a i hz with q | ⟨-,q2,q3⟩
     ·exact .inl ⟨em,cl,ex,q⟩
     ·rw [q2] at q3 ⊢;exact .inr ⟨(hx.xi em cl ex).K,q3⟩
    refine ⟨g',GG,?_,fun a i=>?_,fun q=>?_⟩
    ·split
     ·split
      ·exact Bv
      ·refine ⟨hcm,hx.key,hx.wkey,fun e=>Lr,fun e=>Lr,fun y e=>?_,fun e=>Lr⟩;simp only [Option.some.injEq] at e;rw [<- e,hcm];exact MdI.new hc k.K k.B _
     ·exact Bv
    ·split
     ·split
      ·exact kc _ rfl a i
      ·exact fun k=>absurd k.1 Lc
     ·exact kc _ rfl a i
    ·split
     ·split
      ·exact Cn
      ·rintro ⟨y,e,f,hf,hq⟩;simp only [Option.some.injEq] at e;rw [<- e] at hf;unfold Md.new at hf;rw [List.mem_singleton.1 hf] at hq;have:=hq.1;simp [Fm.new] at this
     ·exact Cn
   | none =>
    have k:=(hx.wi em ex).step hc h;have kB:=WkB.step hc h (hx.wi em ex) (hx.wb em ex) h.bg.nx (h.hdB hc) h.bg.ht (fun y q _=>q);have ea:=Uo x.w s;have ek:=q0z x.w s;simp only;rw [ea];refine ⟨g,same,?_,fun a i=>?_,fun q=>?_⟩
    ·split
     ·rename_i e0;obtain ⟨k1,k2,k3⟩:=k.e0 e0;rw [ek,hx.wkey] at k2 k3;refine ⟨hcm,hx.key,ek.trans hx.wkey,fun _ e=>Lr,fun _ y e=>?_,fun y e=>Mf,fun _ e=>Lr⟩;simp only [Option.some.injEq] at e;rw [<- e,hcm];exact ClI.new k1 (kB.b0 e0) ⟨k2,k3⟩ _
     ·exact ⟨hcm,hx.key,ek.trans hx.wkey,fun _ _=>k,fun _ y e=>(by first | cases e | (simp only at e;rw [ex] at e;cases e) | (rw [ex] at e;cases e)),fun y e=>Mf,fun _ _=>kB⟩
    ·split
     ·rintro ⟨-,y,e,hm⟩;simp only [Option.some.injEq] at e;rw [<- e] at hm;have:=hm.1;simp [Cl.new] at this
     ·rintro ⟨-,y,e,hm⟩;first | cases e | (simp only at e;rw [ex] at e;cases e) | (rw [ex] at e;cases e)
    ·split
     ·exact Cn
     ·exact Cn
structure ThI (c:Cf) (g:Gst) (l:List Int) (x:Th):Prop where
 tp:∀ y,x.p=some y->PtI c g l y
 tg:∀ y,x.g=some y->GtI c g y
 ts:∀ y,x.s=some y->SnI c g y
def Th.mineC (x:Th):Int->Int->Prop:=fun a i=>∃ y,x.p=some y/\y.mineC a i
def Th.mineP (c:Cf) (x:Th):Int->Prop:=fun q=>∃ y,x.p=some y/\y.mineP c q
theorem ThI.keep (hc:c.Ok) (h:OkG c g l) {g':Gst} {l':List Int} {mc:Int->Int->Prop} {mp:Int->Prop} {x:Th} (hx:ThI c g l x) (e:Goes c g l g' l' mc mp) (h1:∀ a i,x.mineC a i->¬ mc a i) (h2:∀ q,x.mineP c q->¬ mp q):ThI c g' l' x :=
 ⟨fun y k=>(hx.tp y k).keep hc h e (fun a i hm=>h1 a i ⟨y,k,hm⟩) (fun q hq=>h2 q ⟨y,k,hq⟩),fun y k=>(hx.tg y k).ext e.ext (Ql hc e.ok),fun y k=>(hx.ts y k).ext e.ext (Ql hc e.ok)⟩
theorem ThI.mine_lt {x:Th} (hx:ThI c g l x) {a i:Int} (k:x.mineC a i):g.K a/\i<g.M.F a 1:=by obtain ⟨y,h1,h2,z,h3,h4,rfl,rfl⟩:=k;have h5:=(hx.tp y h1).xi h2 z h3;exact ⟨h5.K,(h5.own h4).2⟩
theorem ThI.mineP_lt {x:Th} (hx:ThI c g l x) {q:Int} (k:x.mineP c q):q<g.M.top:=by obtain ⟨y,h1,m,h2,f,h3,h4,b,h5,h6,h7⟩:=k;have k1:=(((hx.tp y h1).mi m h2).f f h3).b h4 b h5;obtain ⟨-,-,O⟩:=k1.1.w6 h6;have:=O.top;have:=h7.2;omega
structure MaI (N:Nat) (c:Cf) (l:List Int) (ts:List Th) (g:Gst):Prop where
 ok:OkG c g l
 ct:∀ a,g.K a->0<=g.M.F a 1/\g.M.F a 1<=16+N
 tp:g.M.top<=20000+3000 * N
 th:∀ (i:Nat) (x:Th),ts[i]? = some x->ThI c g l x
 dc:∀ (i j:Nat) (x y:Th),ts[i]? = some x->ts[j]? = some y->i≠j->∀ a k,x.mineC a k->¬ y.mineC a k
 dp:∀ (i j:Nat) (x y:Th),ts[i]? = some x->ts[j]? = some y->i≠j->∀ q,x.mineP c q->¬ y.mineP c q
theorem MaI.more {N:Nat} {ts:List Th} (h:MaI N c l ts g):MaI (N+1) c l ts g :=
 ⟨h.ok,fun a ha=>by have:=h.ct a ha;omega,by have:=h.tp;omega,h.th,h.dc,h.dp⟩
theorem MaI.turn {N:Nat} (hc:c.Ok) {ts:List Th} (h:MaI N c l ts g) {n:Nat} {x x':Th} (hx:ts[n]? = some x) {g':Gst} {l':List Int} (G:Goes c g l g' l' x.mineC (x.mineP c)) (hx':ThI c g' l' x') (k1:∀ a i,x'.mineC a i->x.mineC a i\/(g.K a/\i=g.M.F a 1)) (k2:∀ q,x'.mineP c q->x.mineP c q\/g.M.top<=q) :
  MaI (N+1) c l' (ts.set n x') g':=by
 have hnl:=(List.getElem?_eq_some_iff.1 hx).1
 have other:∀ (i:Nat) (y:Th),i≠n->(ts.set n x')[i]? = some y->ts[i]? = some y:=fun i y hi hy=>by rwa [List.getElem?_set_ne (fun e=>hi e.symm)] at hy
 have self:∀ (y:Th),(ts.set n x')[n]? = some y->y=x':=fun y hy=>by rw [List.getElem?_set_self hnl] at hy;cases hy;rfl
 have sepC:∀ (j:Nat) (y:Th),j≠n->ts[j]? = some y->∀ a k,x'.mineC a k->¬ y.mineC a k:=fun j y hj hy a k hk hy2=>by
  rcases k1 a k hk with q | ⟨q1,q2⟩
  ·exact h.dc n j x y hx hy (fun e=>hj e.symm) a k q hy2
  ·have:=((h.th j y hy).mine_lt hy2).2;omega
 have sepP:∀ (j:Nat) (y:Th),j≠n->ts[j]? = some y->∀ q,x'.mineP c q->¬ y.mineP c q:=fun j y hj hy q hq hy2=>by
  rcases k2 q hq with r | r
  ·exact h.dp n j x y hx hy (fun e=>hj e.symm) q r hy2
  ·have:=(h.th j y hy).mineP_lt hy2;omega
 refine ⟨G.ok,fun a ha=>?_,by have:=G.tu;have:=h.tp;omega,fun i y hy=>?_,fun i j y z hy hz hij a k k3 k4=>?_,fun i j y z hy hz hij q k3 k4=>?_⟩
 ·rcases G.cu a ha with ⟨q1,q2⟩ | q
  ·have:=h.ct a q1;have:=G.ext.ct a q1;omega
  ·omega
 ·by_cases hi:i=n
  ·subst hi;rw [self y hy];exact hx'
  ·have hy':=other i y hi hy;exact (h.th i y hy').keep hc h.ok G (fun a k k3 k4=>h.dc n i x y hx hy' (fun e=>hi e.symm) a k k4 k3) (fun q k3 k4=>h.dp n i x y hx hy' (fun e=>hi e.symm) q k4 k3)
 ·by_cases hi:i=n
  ·subst hi;rw [self y hy] at k3;exact sepC j z (fun e=>hij e.symm) (other j z (fun e=>hij e.symm) hz) a k k3 k4
  ·by_cases hj:j=n
   ·subst hj;rw [self z hz] at k4;exact sepC i y hi (other i y hi hy) a k k4 k3
   ·exact h.dc i j y z (other i y hi hy) (other j z hj hz) hij a k k3 k4
 ·by_cases hi:i=n
  ·subst hi;rw [self y hy] at k3;exact sepP j z (fun e=>hij e.symm) (other j z (fun e=>hij e.symm) hz) q k3 k4
  ·by_cases hj:j=n
   ·subst hj;rw [self z hz] at k4;exact sepP i y hi (other i y hi hy) q k4 k3
   ·exact h.dp i j y z (other i y hi hy) (other j z hj hz) hij q k3 k4
end
theorem qae {N:Nat} {m:Mc} (h:MInv N m) {g:Gst} {l:List Int} {n:Nat} {x:Th} (hx:m.t[n]? = some x) (hn:x.next<((m.opsOf (n:Int)).length:Int)):ThI m.c g l (m.begun (n:Int))/\(∀ a i,¬ (m.begun (n:Int)).mineC a i)/\∀ q,¬ (m.begun (n:Int)).mineP m.c q:=by
 have ht:=h.th n x hx;have h0:=ht.n0;have hnl:=(List.getElem?_eq_some_iff.1 hx).1;have htl:=h.tl;have e:m.th (n:Int)=x:=by unfold Mc.th;rw [Int.toNat_natCast,List.getD_eq_getElem?_getD,hx];rfl
 have hk:=h.opk (n:Int) (Us (l:=m.opsOf (n:Int)) (i:=x.next.toNat) (0,0,0,0) Lb)
 have newp:∀ (key d:Int) (ds:List Int) (y:Pt),0<=key/\key<=63->some (Pt.new m.c key d ds)=some y->PtI m.c g l y/\(∀ a i,¬ y.mineC a i)/\∀ q,¬ y.mineP m.c q:=fun key d ds y hk e=>by simp only [Option.some.injEq] at e;rw [<- e];exact ⟨PtI.new hk d ds,fun a i ⟨_,z,e,_⟩=>Lr,fun q ⟨z,e,_⟩=>Lr⟩
 unfold Mc.begun;rw [e];simp only;generalize (m.opsOf (n:Int)).getD x.next.toNat (0,0,0,0)=o at *;split
 ·exact Cu
 ·split
  ·exact Cu
  ·split
   ·exact ⟨⟨fun y e=>Lr,fun y e=>by simp only [Option.some.injEq] at e;rw [<- e];exact GtI.new hk,fun y e=>Lr⟩,fun a i ⟨y,e,k⟩=>Lr,fun q ⟨y,e,k⟩=>Lr⟩
   ·exact ⟨⟨fun y e=>Lr,fun y e=>Lr,fun y e=>by simp only [Option.some.injEq] at e;rw [<- e];exact SnI.new ⟨by omega,by omega⟩ hk⟩,fun a i ⟨y,e,k⟩=>Lr,fun q ⟨y,e,k⟩=>Lr⟩
theorem qbn {N N':Nat} {m:Mc} {g:Gst} (h:MaI N m.c m.a.l m.t g) (hI:MInv N' m) (hN:N<=5000000) {n k:Nat} {x:Th} (hx:m.t[n]? = some x):∃ g',MaI (N+1) (m.steps (n:Int) k).c (m.steps (n:Int) k).a.l (m.steps (n:Int) k).t g'/\Ext m.c g g'/\(m.steps (n:Int) k).c=m.c:=by
 have e:m.th (n:Int)=x:=by unfold Mc.th;rw [Int.toNat_natCast,List.getD_eq_getElem?_getD,hx];rfl
 have hc:=hI.c;have hT:g.M.top<=900000000000000:=by have:=h.tp;omega
 have hB:∀ a,g.K a->0<=g.M.F a 1/\g.M.F a 1<=900000000000000:=fun a ha=>by have:=h.ct a ha;omega
 have ht:=h.th n x hx;unfold Mc.steps;simp only [e,Int.toNat_natCast];cases hp:x.p with
 | some p =>
  obtain ⟨g',G,k1,k2,k3⟩:=(ht.tp p hp).step hc h.ok hT hB;have GG:Goes m.c g m.a.l g' (p.step m.a).2.l x.mineC (x.mineP m.c):=G.weak (fun a i k=>⟨p,hp,k⟩) (fun q k=>⟨p,hp,k⟩);refine ⟨g',?_,G.ext,rfl⟩;refine h.turn hc hx GG ⟨fun y e=>?_,fun y e=>(ht.tg y e).ext G.ext (Ql hc G.ok),fun y e=>(ht.ts y e).ext G.ext (Ql hc G.ok)⟩ (fun a i=>?_) (fun q=>?_)
  ·exact Gm
  ·rintro ⟨y,e,hy⟩;simp only [Option.some.injEq] at e;rw [<- e] at hy;exact (k2 a i hy).imp (fun k=>⟨p,hp,k⟩) id
  ·rintro ⟨y,e,hy⟩;simp only [Option.some.injEq] at e;rw [<- e] at hy;exact (k3 q hy).imp (fun k=>⟨p,hp,k⟩) id
 | none =>
  have nop:∀ y:Th,y.p=x.p->(∀ a i,y.mineC a i->x.mineC a i\/(g.K a/\i=g.M.F a 1))/\∀ q,y.mineP m.c q->x.mineP m.c q\/g.M.top<=q:=fun y e =>
   ⟨fun a i ⟨z,e2,hz⟩=>.inl ⟨z,by rw [<- e];exact e2,hz⟩,fun q ⟨z,e2,hz⟩=>.inl ⟨z,by rw [<- e];exact e2,hz⟩⟩
  cases hg:x.g with
  | some y =>
   obtain ⟨g',G,k1⟩:=(ht.tg y hg).step hc h.ok;have GG:Goes m.c g m.a.l g' (y.step m.a).2.l x.mineC (x.mineP m.c):=G.weak (fun _ _ k=>k.elim) (fun _ k=>k.elim);refine ⟨g',?_,G.ext,rfl⟩;refine h.turn hc hx GG ⟨fun z e=>?_,fun z e=>?_,fun z e=>(ht.ts z e).ext G.ext (Ql hc G.ok)⟩ (nop _ hp.symm).1 (nop _ hp.symm).2
   ·exact Gh
   ·exact Gm
  | none =>
   cases hs:x.s with
   | some y =>
    obtain ⟨g',G,k1⟩:=(ht.ts y hs).step hc h.ok;have GG:Goes m.c g m.a.l g' (y.step m.a).2.l x.mineC (x.mineP m.c):=G.weak (fun _ _ k=>k.elim) (fun _ k=>k.elim);refine ⟨g',?_,G.ext,rfl⟩;refine h.turn hc hx GG ⟨fun z e=>?_,fun z e=>?_,fun z e=>?_⟩ (nop _ hp.symm).1 (nop _ hp.symm).2
    ·exact Gh
    ·first | cases e | (simp only at e;rw [hg] at e;cases e) | (rw [hg] at e;cases e)
    ·exact Gm
   | none=>exact ⟨g,h.more,Ext.refl _ _,rfl⟩
theorem q7s (m:Mc):m.notes.c=m.c/\m.notes.a=m.a/\m.notes.t=m.t:=by
 unfold Mc.notes;simp only;split
 ·split
  ·simp only;split <;> exact ⟨rfl,rfl,rfl⟩
  ·exact I3
 ·exact I3
theorem qcd {N N':Nat} {m:Mc} {g:Gst} (h:MaI N m.c m.a.l m.t g) (hI:MInv N' m) (hN:N<=4000000) (t:Int):∃ g',MaI (N+2) (m.pick t).c (m.pick t).a.l (m.pick t).t g'/\Ext m.c g g'/\(m.pick t).c=m.c:=by
 unfold Mc.pick;split
 ·exact ⟨g,h.more.more,Ext.refl _ _,rfl⟩
 ·rename_i ho;obtain ⟨n,x,rfl,hx,e,hb⟩:=Jc (by simpa using ho);simp only;have hnl:=(List.getElem?_eq_some_iff.1 hx).1
  have h1:MaI (N+1) (if (m.th (n:Int)).busy=true then m else m.begins (n:Int)).c (if (m.th (n:Int)).busy=true then m else m.begins (n:Int)).a.l (if (m.th (n:Int)).busy=true then m else m.begins (n:Int)).t g/\MInv (N'+1) (if (m.th (n:Int)).busy=true then m else m.begins (n:Int))/\(if (m.th (n:Int)).busy=true then m else m.begins (n:Int)).c=m.c/\n<(if (m.th (n:Int)).busy=true then m else m.begins (n:Int)).t.length:=by
   split
   ·exact ⟨h.more,hI.more,rfl,hnl⟩
   ·rename_i hb';rw [e] at hb';have hn:=hb (by simpa using hb');obtain ⟨b1,b2,b3⟩:=qae (g:=g) (l:=m.a.l) hI hx hn;refine ⟨?_,hI.begins hx hn,rfl,by simp [Mc.begins];exact hnl⟩;unfold Mc.begins;simp only [Int.toNat_natCast];exact h.turn hI.c hx (Goes.same h.ok _ _) b1 (fun a i k=>absurd k (b2 a i)) (fun q k=>absurd k (b3 q))
  generalize (if (m.th (n:Int)).busy=true then m else m.begins (n:Int))=m1 at *;obtain ⟨h1,hI1,hc1,hnl1⟩:=h1;split
  ·rename_i k hk;obtain ⟨g',h2,e2,hc2⟩:=qbn h1 hI1 Lb (k:=k) (List.getElem?_eq_getElem hnl1);generalize m1.steps (n:Int) k=m2 at *;obtain ⟨n1,n2,n3⟩:=q7s m2;refine ⟨g',?_,by rw [<- hc1];exact e2,?_⟩
   ·split
    ·simp only;rw [n1,n2,n3];exact h2
    ·exact h2
   ·split
    ·simp only;rw [n1];exact hc2.trans hc1
    ·exact hc2.trans hc1
  ·exact ⟨g,h1.more,Ext.refl _ _,hc1⟩
def g0 (c:Cf):Gst:=⟨fun a=>a=jq c,fun _=>64,⟨fun _ _=>0,2 * jq c,fun _=>0,topP c⟩,[jq c]⟩
theorem Qu {c:Cf} (hc:c.Ok) {p:Int} (h0:0<=p) (h1:p<c.wd):qw (Pl.begun c.t c.c c.wd).l p=Pl.Qh c.t c.c p:=by obtain ⟨k,rfl⟩:=Int.eq_ofNat_of_zero_le h0;obtain ⟨n,hn⟩:=Int.eq_ofNat_of_zero_le (show 0<=c.wd by omega);have h:=hc.top;have:=Pl.U9 (t:=c.t) (c:=c.c) (n:=n) k hc.t1 hc.t8 (by have:=hc.c2;have:=hc.t1;omega) Lb Lb;rw [<- hn] at this;exact this
theorem qda {c:Cf} (hc:c.Ok):MaI 0 c (Pl.begun c.t c.c c.wd).l (List.replicate c.t.toNat Th.new) (g0 c):=by
 have ht:=hc.t1;have ht8:=hc.t8;have htop:=hc.top;have hc2:=hc.c2
 have hlen:((Pl.begun c.t c.c c.wd).l.length:Int)=c.wd:=Hj
 have hf:Al c (jq c):=⟨0,by simp⟩;have hsz:z6 c=7+3 * c.c:=rfl;have hfp:jq c=14+c.t:=rfl;have htp:topP c=21+c.t+3 * c.c:=rfl
 have hth:∀ (i:Nat) (x:Th),(List.replicate c.t.toNat Th.new)[i]? = some x->x=Th.new:=fun i x hx=>by
  rw [List.getElem?_replicate] at hx;split at hx
  ·cases hx;rfl
  ·cases hx
 have bg0:Bg c (g0 c):=⟨⟨by show 2 * jq c / 2=jq c;omega,by show (0:Int) / 2=0;omega⟩,fun x hx=>by simpa [g0] using hx,fun x hx=>.inl (by show (0:Int) / 2=0;omega),fun k _ _=>.inl rfl,fun x hx hn=>absurd rfl hn,fun x hx hn=>absurd rfl hn,fun x hx hn=>by
  rcases hx with k | ⟨k1,k2,k3⟩
  ·exact absurd k hn
  ·have:(0:Int) % 2=1:=k2
   omega⟩
 refine ⟨⟨⟨fun a ha=>?_,⟨1,?_⟩,⟨jq c,rfl,rfl,rfl⟩,fun a ha=>⟨Int.le_refl _,by simp [g0],by simp [g0]⟩,fun a ha=>.inl ⟨by simp [g0],rfl⟩,fun a ha=>.inl rfl,fun a ha=>.inl rfl,fun a ha=>.inl rfl,fun k _ _=>.inl rfl,fun a i ha _ _ k=>by simp [g0] at k,fun a i ha _ _ _=>.inl rfl⟩,⟨hlen,fun a ha f f0 f1=>?_,?_,fun k k0 k1=>?_,?_,fun p hp=>?_⟩,bg0⟩,fun a ha=>by simp [g0],by simp only [g0];have:=hc.w2;omega,fun i x hx=>?_,fun i j x y hx hy _ a k k1=>?_,fun i j x y hx hy _ q k1=>?_⟩
 ·obtain rfl:a=jq c:=ha;exact ⟨hf,by omega,by simp only [g0];omega⟩
 ·simp only [g0];omega
 ·obtain rfl:a=jq c:=ha;exact Ez
 ·rw [Qu hc Mo Mo];unfold Pl.Qh xn;rw [qd Lb,qd Lb,qf Lb];rfl
 ·exact Ez
 ·rw [Qu hc Lb Lb];rfl
 ·simp only [g0] at hp;by_cases h:p<c.wd
  ·rw [Qu hc Lb h];unfold Pl.Qh;rw [qd Lb,qd Lb,qd Lb]
  ·exact q7y (.inr Lb)
 ·rw [hth i x hx];exact ⟨fun y e=>Lr,fun y e=>Lr,fun y e=>Lr⟩
 ·exact Hw
 ·exact Hw
theorem qcs {c:Cf} (hc:c.Ok):∀ (ps:List Int) (N N':Nat) (m:Mc) (g:Gst),m.c=c->MaI N c m.a.l m.t g->MInv N' m->N+2 * ps.length<=4000000->∃ g',MaI (N+2 * ps.length) c (ps.foldl Mc.pick m).a.l (ps.foldl Mc.pick m).t g'/\Ext c g g'/\(ps.foldl Mc.pick m).c=c
 | [],N,N',m,g,e,h,hI,hN=>⟨g,h,Ext.refl _ _,e⟩
 | p :: ps,N,N',m,g,e,h,hI,hN=>by
  rw [List.length_cons] at hN;obtain ⟨g1,h1,x1,c1⟩:=qcd (by rw [e];exact h) hI Lb p;rw [c1,e] at h1;rw [e] at x1;obtain ⟨g2,h2,x2,c2⟩:=qcs hc ps (N+2) (N'+4) (m.pick p) g1 (c1.trans e) h1 (hI.pick p) Lb;rw [List.foldl_cons,List.length_cons,show N+2 * (ps.length+1)=N+2+2 * ps.length by omega];exact ⟨g2,h2,x1.trans x2,c2⟩
theorem runP_I {c:Cf} {rs:List (List O)} (ds:List Int) (hc:c.Ok) (hI:MInv 1 (Mc.new c rs ds)) (ps:List Int) (hp:ps.length<=2000000):∃ g,MaI (2 * ps.length) c (q7n c rs ds ps).a.l (q7n c rs ds ps).t g/\(q7n c rs ds ps).c=c:=by obtain ⟨g,h,-,e⟩:=qcs hc ps 0 1 (Mc.new c rs ds) (g0 c) rfl (qda hc) hI Lb;rw [Nat.zero_add] at h;exact ⟨g,h,e⟩
end Go.Proofs.YtleclbldlladmaaGreat.Mx
