/- Parts. -/
import Derived.Test.YtbddhncgemeohaaGreatDoorYbg
import Derived.Test.YtbddhncgemeohaaGreatDoorYbh
import Derived.Test.YtbddhncgemeohaaGreatDoorYbi
import Derived.Test.YtbddhncgemeohaaGreatDoorYbk
set_option linter.unusedVariables false
set_option linter.unusedSimpArgs false
set_option maxRecDepth 100000
set_option maxHeartbeats 12800000
namespace Go.Proofs.YtbddhncgemeohaaGreatDoor.Mx
open Go.RowKit Ar Ref Og Mp
def laid (w:List (Int×Int)) (v p:Int):Int:=w.foldl (fun v q=>if q.1=p then q.2 else v) v
theorem q21 (a b:List (Int×Int)) (v p:Int):laid (a++b) v p=laid b (laid a v p) p:=List.foldl_append
theorem Qg (q:Int×Int) (b:List (Int×Int)) (v p:Int):laid (q :: b) v p=laid b (if q.1=p then q.2 else v) p:=rfl
theorem Qn {p:Int}:∀ {w:List (Int×Int)} {v:Int},(∀ q∈w,q.1≠p)->laid w v p=v
 | [],_,_=>rfl
 | q :: w,v,h=>by
  rw [Qg,qf (h q Ma)];exact Qn (fun r hr=>h r (by simp [hr]))
def nkF (n:Nk) (f:Int):Int :=
 if f=0 then n.mn else if f=1 then n.ct else if f=2 then n.nx else if f<7 then 0 else
 match n.its[((f - 7) / 3).toNat]? with
 | none=>0
 | some y=>if (f - 7) % 3=0 then yg y.v else if (f - 7) % 3=1 then y.k else y.d
theorem Zd {a:Int} (h0:0<=a) (h1:a<=40000):∀ {l:List It} {k:Nat},k+l.length<=16->∀ q∈yp a k l,a+7+3 * k<=q.1/\q.1<a+7+3 * (k+l.length)
 | [],_,_,q,hq=>by simp [yp] at hq
 | y :: r,k,hk,q,hq=>by
  rw [List.length_cons] at hk ⊢;have e:Qo a k=a+7+3 * k:=by unfold Qo;exact Zk Ly Ly
  unfold yp at hq;rw [e,Zk Ly Ly,Zk Ly Ly] at hq;simp only [List.mem_cons] at hq;rcases hq with rfl | rfl | rfl | hq
  ·simp only;omega
  ·simp only;omega
  ·simp only;omega
  ·have:=Zd h0 h1 (l:=r) (k:=k+1) Ly q hq;omega
theorem q5u {a:Int} (h0:0<=a) (h1:a<=40000):∀ {l:List It} {k i:Nat} {y:It} {o v:Int},k+l.length<=16->l[i]? = some y->0<=o->o<3->laid (yp a k l) v (a+(7+3 * (k+i)+o))=if o=0 then yg y.v else if o=1 then y.k else y.d
 | [],_,_,_,_,_,_,h,_,_=>by simp at h
 | z :: r,k,i,y,o,v,hk,hy,o0,o1=>by
  rw [List.length_cons] at hk;have e:Qo a k=a+7+3 * k:=by unfold Qo;exact Zk Ly Ly
  unfold yp;rw [e,Zk Ly Ly,Zk Ly Ly,Qg,Qg,Qg];cases i with
  | zero =>
   obtain rfl:z=y:=by simpa using hy
   rw [Qn (fun q hq=>by have:=(Zd h0 h1 Ly q hq).1;omega)];simp only;repeat' split
   all_goals first | rfl | omega
  | succ i =>
   have:=q5u h0 h1 (l:=r) (k:=k+1) (i:=i) (y:=y) (o:=o) (v:=if a+7+3 * (k:Int)+2=a+(7+3 * (k+((i+1:Nat):Int))+o) then z.d else if a+7+3 * (k:Int)+1=a+(7+3 * (k+((i+1:Nat):Int))+o) then z.k else if a+7+3 * (k:Int)=a+(7+3 * (k+((i+1:Nat):Int))+o) then yg z.v else v) Ly (by simpa using hy) o0 o1;rw [<- this];congr 1;omega
theorem Ti {n:Nk} (h0:0<=n.at_) (h1:n.at_<=40000) {cap:Int} (hc:(n.its.length:Int)<=cap) (h16:cap<=16):∀ q∈Zg n,n.at_<=q.1/\q.1<n.at_+(7+3 * cap):=by
 intro q hq;unfold Zg at hq;rw [Zk Ly Ly,Zk Ly Ly,Zk Ly Ly] at hq;simp only [List.mem_cons] at hq;rcases hq with rfl | rfl | rfl | hq
 ·simp only;omega
 ·simp only;omega
 ·simp only;omega
 ·have:=Zd h0 h1 Ly q hq;omega
theorem qb4 {n:Nk} (h0:0<=n.at_) (h1:n.at_<=40000) (hl:n.its.length<=16) {f:Int} (f0:0<=f):laid (Zg n) 0 (n.at_+f)=nkF n f:=by
 unfold Zg;rw [Zk Ly Ly,Zk Ly Ly,Zk Ly Ly,Qg,Qg,Qg];unfold nkF;by_cases c0:f=0
 ·rw [qg c0,Qn (fun q hq=>by have:=(Zd h0 h1 Ly q hq).1;omega),qf Ly,qf Ly,qg Ly]
 rw [qf c0];by_cases c1:f=1
 ·rw [qg c1,Qn (fun q hq=>by have:=(Zd h0 h1 Ly q hq).1;omega),qf Ly,qg Ly]
 rw [qf c1];by_cases c2:f=2
 ·rw [qg c2,Qn (fun q hq=>by have:=(Zd h0 h1 Ly q hq).1;omega),qg Ly]
 rw [qf c2,qf (show ¬ n.at_+2=n.at_+f by omega),qf (show ¬ n.at_+1=n.at_+f by omega),qf (show ¬ n.at_=n.at_+f by omega)];by_cases c7:f<7
 ·rw [qg c7,Qn (fun q hq=>by have:=(Zd h0 h1 Ly q hq).1;omega)]
 rw [qf c7];cases hy:n.its[((f - 7) / 3).toNat]? with
 | none =>
  have:=List.getElem?_eq_none_iff.1 hy;rw [Qn (fun q hq=>by have:=(Zd h0 h1 Ly q hq).2;omega)]
 | some y =>
  have:=q5u h0 h1 (k:=0) (v:=0) (o:=(f - 7) % 3) Ly hy Ly Ly;rw [show n.at_+(7+3 * (((0:Nat):Int)+(((f - 7) / 3).toNat:Int))+(f - 7) % 3)=n.at_+f by omega] at this;exact this
theorem Wi {S cap:Int} (hS:S=7+3 * cap) (h16:cap<=16) (hcap:0<=cap):∀ {ns:List Nk} {j:Nat} {n:Nk} {a v f:Int},0<=a->a+S * ns.length<=40000 ->
  (∀ (i:Nat) (m:Nk),ns[i]? = some m->m.at_=a+S * i/\(m.its.length:Int)<=cap)->ns[j]? = some n->0<=f->f<S->v=0->laid (je ns) v (n.at_+f)=nkF n f
 | [],_,_,_,_,_,_,_,_,hj,_,_,_=>by simp at hj
 | m :: r,j,n,a,v,f,ha,hb,hm,hj,f0,f1,hv=>by
  have hl:S * (((m :: r).length:Nat):Int)=S * (r.length:Int)+S:=by rw [List.length_cons,Int.natCast_add,Int.mul_add];simp
  have hr0:0<=S * (r.length:Int):=Int.mul_nonneg Ly Ly;rw [hl] at hb;have hm0:=hm 0 m rfl;have e0:m.at_=a:=by rw [hm0.1];simp
  have hrest:∀ (i:Nat) (k:Nk),r[i]? = some k->k.at_=a+S+S * i/\(k.its.length:Int)<=cap:=fun i k hk=>by have:=hm (i+1) k Nh;rw [Int.natCast_add,Int.mul_add] at this;exact ⟨by rw [this.1];simp;omega,this.2⟩
  show laid (Zg m++je r) v (n.at_+f)=_;rw [q21];cases j with
  | zero =>
   obtain rfl:m=n:=by simpa using hj
   rw [hv,qb4 Ly Ly Ly f0];refine Qn (fun q hq=>?_);unfold je at hq;rw [List.mem_flatMap] at hq;obtain ⟨k,hk,hq⟩:=hq;obtain ⟨i,hi⟩:=List.getElem?_of_mem hk;obtain ⟨k1,k2⟩:=hrest i k hi;have hil:=(List.getElem?_eq_some_iff.1 hi).1;have h1:0<=S * (i:Int):=Int.mul_nonneg Ly Ly;have h2:S * (i:Int)<=S * (r.length:Int):=Int.mul_le_mul_of_nonneg_left Ly Ly;have:=(Ti Ly Ly k2 h16 q hq).1;omega
  | succ j =>
   have hj':r[j]? = some n:=by simpa using hj
   obtain ⟨k1,k2⟩:=hrest j n hj';have h1:0<=S * (j:Int):=Int.mul_nonneg Ly Ly;refine Wi hS h16 hcap (ns:=r) (j:=j) (n:=n) (a:=a+S) Ly Ly hrest hj' f0 f1 ?_;rw [hv];refine Qn (fun q hq=>?_);have:=(Ti Ly Ly hm0.2 h16 q hq).2;omega
theorem q3a {s:List It} (cells lo up:Int) (h:Srt s) (hl:∀ x∈s,lo<=x.k/\x.k<up) (hlu:lo<up) {i:Nat} {a:List It} {m:Int} (ha:(vu s cells)[i]? = some a) (hm:(xx lo (vu s cells))[i]? = some m) :
  lo<=m/\m<up/\(∀ x∈a,m<=x.k/\x.k<up)/\∀ m',(xx lo (vu s cells))[i+1]? = some m'->m<m'/\m'<up/\∀ x∈a,x.k<m':=by
 have mem:∀ {j:Nat} {b:List It} {x:It},(vu s cells)[j]? = some b->x∈b->x∈s:=fun hb hx=>by rw [<- Yf cells h];exact List.mem_flatten.2 ⟨_,List.mem_of_getElem? hb,hx⟩
 have hme:lo<=m/\m<up/\∀ x∈a,m<=x.k:=by
  cases i with
  | zero =>
   rw [Ju lo (fun e=>by rw [e] at ha;simp at ha)] at hm;obtain rfl:=qj hm;exact ⟨Int.le_refl _,hlu,fun x hx=>(hl x (mem ha hx)).1⟩
  | succ i =>
   rw [Jo lo ha] at hm
   have hs:s≠[]:=fun e=>by subst e;have:(vu ([]:List It) cells).length=1:=rfl;have:=(List.getElem?_eq_some_iff.1 ha).1;omega
   have hfa:=Yh cells h hs a (List.mem_of_getElem? ha);obtain ⟨y,b,rfl⟩:=List.exists_cons_of_ne_nil hfa;obtain rfl:=qj hm;have hy:=hl y (mem ha Ma);refine ⟨hy.1,hy.2,fun x hx=>?_⟩
   have hsub:(y :: b).Sublist s:=by have h1:(y :: b).Sublist (vu s cells).flatten:=List.sublist_flatten_of_mem (List.mem_of_getElem? ha);rwa [Yf cells h] at h1
   have hb:=q10 h hsub;show y.k<=x.k;rcases List.mem_cons.1 hx with rfl | hx
   ·exact Int.le_refl _
   ·have:=(Ya.1 hb).1 x hx;unfold leT at this;omega
 refine ⟨hme.1,hme.2.1,fun x hx=>⟨hme.2.2 x hx,(hl x (mem ha hx)).2⟩,fun m' hm'=>?_⟩
 have hil:i+1<(vu s cells).length:=by
  have h1:=(List.getElem?_eq_some_iff.1 hm').1
  have:(xx lo (vu s cells)).length=(vu s cells).length:=by
   unfold xx;split
   ·rename_i e;rw [e];rfl
   ·rename_i e;rw [e];simp
  omega
 have hb:(vu s cells)[i+1]? = some (vu s cells)[i+1]:=List.getElem?_eq_getElem hil;obtain ⟨x,y,e1,e2,e3,e4⟩:=q73 cells lo h (fun x hx=>(hl x hx).1) ha hb hm;rw [hm'] at e3;obtain rfl:=qj e3;have hy:y∈(vu s cells)[i+1]:=List.mem_of_mem_head? (by rw [e2];simp);exact ⟨e4,(hl y (mem hb hy)).2,fun z hz=>U0 cells h (Nat.lt_succ_self i) ha hb z hz y hy⟩
theorem q2h (lo:Int) (gs:List (List It)):(xx lo gs).length=gs.length:=by
 unfold xx;split
 ·rfl
 ·simp
noncomputable def q8d (P:Prop) (x y:Int):Int:=@ite Int P (Classical.propDecidable P) x y
theorem Uu {P:Prop} (h:P) (x y:Int):q8d P x y=x:=qg h
theorem q1o {P:Prop} (h:¬ P) (x y:Int):q8d P x y=y:=qf h
section
variable {c:Cf} {g:Gst} {l:List Int}
def Qz (g:Gst) (a m:Int):Int:=g.up (if m=0 then a else m)
structure Own (c:Cf) (g:Gst) (l:List Int) (at_:Int) (n:Nat) (w:List (Int×Int)) (i:Nat):Prop where
 al:Al c at_
 top:at_+z8 c * (n:Int)<=g.M.top
 wd:at_+z8 c * (n:Int)<=c.wd
 nk:∀ p,at_<=p->p<at_+z8 c * (n:Int)->(∀ a,g.K a->¬ (a<=p/\p<a+z8 c))/\qx l p=laid (w.take i) 0 p
def Sc (c:Cf) (at_:Int) (n:Nat):Int->Prop:=fun q=>at_<=q/\q<at_+z8 c * (n:Int)
theorem qar {n:Nk} {i:Int} (h:0<=i):nkF n (7+3 * i)=match n.its[i.toNat]? with | none=>0 | some y=>yg y.v:=by
 unfold nkF;rw [qf Ly,qf Ly,qf Ly,qf Ly,show (7+3 * i - 7) / 3=i by omega];cases n.its[i.toNat]? with
 | none=>rfl
 | some y=>simp only;rw [qg Ly]
theorem qcd {n:Nk} {i:Int} (h:0<=i):nkF n (8+3 * i)=match n.its[i.toNat]? with | none=>0 | some y=>y.k:=by
 unfold nkF;rw [qf Ly,qf Ly,qf Ly,qf Ly,show (8+3 * i - 7) / 3=i by omega];cases n.its[i.toNat]? with
 | none=>rfl
 | some y=>simp only;rw [qf Ly,qg Ly]
noncomputable def Gst.grown (c:Cf) (g:Gst) (l:List Int) (at_:Int) (n:Nat) (ms:List Int) (hi:Int):Gst where
 K:=fun b=>g.K b\/∃ j:Nat,j<n/\b=at_+z8 c * (j:Int)
 up:=fun b=>q8d (g.K b) (g.up b) (ms.getD (((b - at_) / z8 c).toNat+1) hi)
 M:={ g.M with F:=fun b f=>q8d (g.K b) (g.M.F b f) (qx l (b+f)) }
 L:=g.L
structure qdf (c:Cf) (g:Gst) (l:List Int) (a m r at_:Int) (gs:List (List It)) (its:List It) (vs:List Int):Prop where
 led:Led c g a m r
 bits:∀ y∈its,g.M.F a 0<=y.k/\y.k<Qz g a m
 bgs:gs=vu (J6 its vs) c.c
 ne:yt c at_ r (g.M.F a 0) gs≠[]
theorem qcy (hc:c.Ok) (h:OkG c g l) {a m r:Int} (L:Led c g a m r):g.M.F a 0<Qz g a m/\Qz g a m<=64/\g.up a<=Qz g a m:=by
 have h1:=h.ki.mn a L.K;unfold Qz;by_cases e:m=0
 ·rw [qg e];omega
 ·rw [qf e];have h2:=h.ki.mn m ((L.m0 hc h).resolve_left e);have h3:=L.mn hc h e;omega
theorem Wx {at_ r mn:Int} {gs:List (List It)} (h:yt c at_ r mn gs≠[]):yt c at_ r mn gs=Q4 c at_ r gs (xx mn gs)/\∀ g∈gs,(g.length:Int)<=c.c:=by
 unfold yt at *;by_cases e:(gs.all fun g=>decide ((g.length:Int)<=c.c))=true
 ·rw [qg e] at h ⊢;exact ⟨rfl,fun g hg=>by simpa using List.all_eq_true.1 e g hg⟩
 ·rw [qf e] at h;exact absurd rfl h
theorem mulS (S:Int) (j:Nat):S * ((j+1:Nat):Int)=S * (j:Int)+S:=by rw [Int.natCast_add,Int.mul_add];simp
theorem qat {S:Int} (hS:0<=S) {i j:Nat} (h:i<=j):S * (i:Int)<=S * (j:Int):=Int.mul_le_mul_of_nonneg_left Ly hS
theorem q15 {S:Int} (hS:0<=S) {i j:Nat} (h:i<j):S * (i:Int)+S<=S * (j:Int):=by rw [<- mulS];exact qat hS h
theorem Jf {a:Int} (h0:0<=a) (h1:a<=1000000):jv a false=2 * a:=by unfold jv hd;simp only [Bool.false_eq_true,if_false];omega
theorem q3o (a:Int):jv a false % 2=0:=by unfold jv;simp only [Bool.false_eq_true,if_false];omega
theorem q2l {F:Int->Int->Int} {f:Nat->Int} {r:Int} {n:Nat} (h:∀ j,j<n->F (f j) 2 / 2=if j+1=n then r else f (j+1)):∀ (d k:Nat),k+d=n->0<d->Sg F (f k) ((List.range' k d).map f) r
 | 0,_,_,h0=>absurd h0 Ly
 | d+1,k,hk,_=>by
  rw [List.range'_succ,List.map_cons];refine ⟨rfl,?_⟩;rw [h k Ly];by_cases e:k+1=n
  ·rw [qg e];obtain rfl:d=0:=by omega
   rfl
  ·rw [qf e];exact q2l h d (k+1) Ly Ly
theorem grown (hc:c.Ok) (h:OkG c g l) {a m r at_:Int} {gs:List (List It)} {its:List It} {vs:List Int} {w:List (Int×Int)} (B:qdf c g l a m r at_ gs its vs) (hw:w=je (yt c at_ r (g.M.F a 0) gs)) (O:Own c g l at_ gs.length w w.length) :
  OkG c (g.grown c l at_ gs.length (xx (g.M.F a 0) gs) (Qz g a m)) l/\Ext c g (g.grown c l at_ gs.length (xx (g.M.F a 0) gs) (Qz g a m)) /\
  (∀ b,(g.grown c l at_ gs.length (xx (g.M.F a 0) gs) (Qz g a m)).K b->¬ g.K b->0<=(g.grown c l at_ gs.length (xx (g.M.F a 0) gs) (Qz g a m)).M.F b 1/\(g.grown c l at_ gs.length (xx (g.M.F a 0) gs) (Qz g a m)).M.F b 1<=16)/\0<gs.length /\
  (g.grown c l at_ gs.length (xx (g.M.F a 0) gs) (Qz g a m)).M.F at_ 0=g.M.F a 0/\(∀ x,Bn g x->Bn (g.grown c l at_ gs.length (xx (g.M.F a 0) gs) (Qz g a m)) x) /\
  ∃ qs,qs≠[]/\Sg (g.grown c l at_ gs.length (xx (g.M.F a 0) gs) (Qz g a m)).M.F at_ qs r/\∀ q∈qs,(g.grown c l at_ gs.length (xx (g.M.F a 0) gs) (Qz g a m)).K q/\¬ Bn (g.grown c l at_ gs.length (xx (g.M.F a 0) gs) (Qz g a m)) q:=by
 have hsz:=xk hc;have hmn:=h.ki.mn a B.led.K;have hhi:=qcy hc h B.led;have hal:=Z3 hc O.al;have hw2:=hc.w2;obtain ⟨ec,hlen⟩:=Wx B.ne;have hS:z8 c=7+3 * c.c:=rfl;have hn0:0<=z8 c * (gs.length:Int):=Int.mul_nonneg Ly Ly;have hwd:=O.wd;have hsrt:=q70 its vs;have hks:∀ y∈J6 its vs,g.M.F a 0<=y.k/\y.k<Qz g a m:=fun y hy=>B.bits y (q7u.1 ((Vt vs _).subset hy))
 have gk:∀ {i:Nat} {b:List It} {mm:Int},gs[i]? = some b->(xx (g.M.F a 0) gs)[i]? = some mm->g.M.F a 0<=mm/\mm<Qz g a m/\(∀ x∈b,mm<=x.k/\x.k<Qz g a m)/\∀ m',(xx (g.M.F a 0) gs)[i+1]? = some m'->mm<m'/\m'<Qz g a m/\∀ x∈b,x.k<m':=fun {i b mm} h1 h2=>by rw [B.bgs] at h1 h2 ⊢;exact q3a (cells:=c.c) (g.M.F a 0) (Qz g a m) hsrt hks hhi.1 h1 h2
 have hgl:0<gs.length:=by rw [B.bgs];exact q6k c.c hsrt
 have hml:=q2h (g.M.F a 0) gs
 have place:∀ j:Nat,j<gs.length->at_<=at_+z8 c * (j:Int)/\at_+z8 c * (j:Int)+z8 c<=at_+z8 c * (gs.length:Int):=fun j hj=>by have h1:0<=z8 c * (j:Int):=Int.mul_nonneg Ly Ly;have h2:=q15 (S:=z8 c) Ly hj;omega
 have notK:∀ j:Nat,j<gs.length->¬ g.K (at_+z8 c * (j:Int)):=fun j hj k=>by obtain ⟨h1,h2⟩:=place j hj;exact (O.nk (at_+z8 c * (j:Int)) h1 Ly).1 _ k ⟨Int.le_refl _,by omega⟩
 have words:∀ j:Nat,j<gs.length->∀ f,0<=f->f<z8 c->qx l (at_+z8 c * (j:Int)+f)=nkF ⟨at_+z8 c * (j:Int),(xx (g.M.F a 0) gs).getD j 0,(gs.getD j []).length,jv (if j+1=gs.length then r else at_+z8 c * ((j:Int)+1)) false,gs.getD j []⟩ f:=fun j hj f f0 f1=>by
  obtain ⟨h1,h2⟩:=place j hj;rw [(O.nk _ Ly Ly).2,List.take_length,hw,ec]
  have at_j:∀ (i:Nat),i<gs.length->(Q4 c at_ r gs (xx (g.M.F a 0) gs))[i]? = some ⟨at_+z8 c * (i:Int),(xx (g.M.F a 0) gs).getD i 0,(gs.getD i []).length,jv (if i+1=gs.length then r else at_+z8 c * ((i:Int)+1)) false,gs.getD i []⟩:=fun i hi=>by
   refine Yt r Ly gs at_ _ i _ _ Ly Ly ?_ ?_
   ·rw [List.getD_eq_getElem?_getD,List.getElem?_eq_getElem hi];rfl
   ·rw [List.getD_eq_getElem?_getD,List.getElem?_eq_getElem Ly];rfl
  refine Wi (S:=z8 c) (cap:=c.c) hS hc.c16 Ly (a:=at_) (j:=j) (v:=0) Ly ?_ (fun i m' hm'=>?_) (at_j j hj) f0 f1 rfl
  ·rw [yx];omega
  ·have hil:=(List.getElem?_eq_some_iff.1 hm').1;rw [yx] at hil;rw [at_j i hil] at hm';cases hm';refine ⟨rfl,?_⟩;simp only;rw [List.getD_eq_getElem?_getD,List.getElem?_eq_getElem hil];exact hlen _ (List.getElem_mem hil)
 generalize hG:g.grown c l at_ gs.length (xx (g.M.F a 0) gs) (Qz g a m)=G;have KG:∀ b,G.K b↔g.K b\/∃ j:Nat,j<gs.length/\b=at_+z8 c * (j:Int):=fun b=>by rw [<- hG];exact Iff.rfl
 have FK:∀ b,g.K b->∀ f,G.M.F b f=g.M.F b f:=fun b k f=>by rw [<- hG];exact Uu k _ _
 have uK:∀ b,g.K b->G.up b=g.up b:=fun b k=>by rw [<- hG];exact Uu k _ _
 have FN:∀ j:Nat,j<gs.length->∀ f,0<=f->f<z8 c->G.M.F (at_+z8 c * (j:Int)) f=nkF ⟨at_+z8 c * (j:Int),(xx (g.M.F a 0) gs).getD j 0,(gs.getD j []).length,jv (if j+1=gs.length then r else at_+z8 c * ((j:Int)+1)) false,gs.getD j []⟩ f:=fun j hj f f0 f1=>by rw [<- words j hj f f0 f1,<- hG];exact q1o (notK j hj) _ _
 have uN:∀ j:Nat,j<gs.length->G.up (at_+z8 c * (j:Int))=(xx (g.M.F a 0) gs).getD (j+1) (Qz g a m):=fun j hj=>by rw [<- hG];refine (q1o (notK j hj) _ _).trans ?_;rw [show at_+z8 c * (j:Int) - at_=(j:Int) * z8 c by rw [Int.mul_comm];omega,Int.mul_ediv_cancel _ Ly];rfl
 have eL:G.L=g.L:=by rw [<- hG];rfl
 have e1:G.M.hn=g.M.hn:=by rw [<- hG];rfl
 have e2:G.M.ht=g.M.ht:=by rw [<- hG];rfl
 have e3:G.M.top=g.M.top:=by rw [<- hG];rfl
 have KN:∀ j:Nat,j<gs.length->G.K (at_+z8 c * (j:Int)):=fun j hj=>(KG _).2 (.inr ⟨j,hj,rfl⟩)
 have new:∀ b,G.K b->¬ g.K b->∃ j:Nat,j<gs.length/\b=at_+z8 c * (j:Int):=fun b k n=>((KG b).1 k).resolve_left n
 have hct:∀ j:Nat,j<gs.length->((gs.getD j []).length:Int)<=c.c:=fun j hj=>by rw [List.getD_eq_getElem?_getD,List.getElem?_eq_getElem hj];exact hlen _ (List.getElem_mem hj)
 have keys:∀ j:Nat,j<gs.length->g.M.F a 0<=(xx (g.M.F a 0) gs).getD j 0/\(xx (g.M.F a 0) gs).getD j 0<(xx (g.M.F a 0) gs).getD (j+1) (Qz g a m)/\(xx (g.M.F a 0) gs).getD (j+1) (Qz g a m)<=Qz g a m/\∀ y∈gs.getD j [],(xx (g.M.F a 0) gs).getD j 0<=y.k/\y.k<(xx (g.M.F a 0) gs).getD (j+1) (Qz g a m):=fun j hj=>by
  have g1:gs[j]? = some (gs.getD j []):=by rw [List.getD_eq_getElem?_getD,List.getElem?_eq_getElem hj];rfl
  have g2:(xx (g.M.F a 0) gs)[j]? = some ((xx (g.M.F a 0) gs).getD j 0):=by rw [List.getD_eq_getElem?_getD,List.getElem?_eq_getElem Ly];rfl
  obtain ⟨k1,k2,k3,k4⟩:=gk g1 g2;by_cases hl:j+1<gs.length
  ·have g3:(xx (g.M.F a 0) gs)[j+1]? = some ((xx (g.M.F a 0) gs).getD (j+1) (Qz g a m)):=by rw [List.getD_eq_getElem?_getD,List.getElem?_eq_getElem Ly];rfl
   obtain ⟨q1,q2,q3⟩:=k4 _ g3;exact ⟨k1,q1,by omega,fun y hy=>⟨(k3 y hy).1,q3 y hy⟩⟩
  ·have g3:(xx (g.M.F a 0) gs).getD (j+1) (Qz g a m)=Qz g a m:=by rw [List.getD_eq_getElem?_getD,List.getElem?_eq_none Ly];rfl
   rw [g3];exact ⟨k1,k2,Int.le_refl _,k3⟩
 have brand:∀ b,G.K b->¬ g.K b->qcp c G.K G.up G.M b:=fun b k n=>by
  obtain ⟨j,hj,rfl⟩:=new b k n;obtain ⟨p1,p2⟩:=place j hj;obtain ⟨q1,q2,q3,q4⟩:=keys j hj;have f0:=FN j hj 0 Ly Ly;have f1:=FN j hj 1 Ly Ly;have f2:=FN j hj 2 Ly Ly;have f3:=FN j hj 3 Ly Ly;have f4:=FN j hj 4 Ly Ly;have f5:=FN j hj 5 Ly Ly;have htop:=O.top;simp only [nkF] at f0 f1 f2 f3 f4 f5;simp only [qg,if_true,qf,show (1:Int)≠0 by decide,show (2:Int)≠0 by decide,show (2:Int)≠1 by decide,show (3:Int)≠0 by decide,show (3:Int)≠1 by decide,show (3:Int)≠2 by decide,show (4:Int)≠0 by decide,show (4:Int)≠1 by decide,show (4:Int)≠2 by decide,show (5:Int)≠0 by decide,show (5:Int)≠1 by decide,show (5:Int)≠2 by decide,show (3:Int)<7 by decide,show (4:Int)<7 by decide,show (5:Int)<7 by decide,if_false] at f0 f1 f2 f3 f4 f5;refine ⟨⟨?_,by omega,by rw [e3];omega⟩,?_,?_,f3,f4,f5,fun i i0 i1=>?_,fun i i0 i1=>?_,by rw [f1];have:=hct j hj;have:=hc.c16;omega⟩
  ·obtain ⟨k,hk⟩:=O.al;exact ⟨k+j,by rw [hk,Int.natCast_add,Int.add_mul,Int.mul_comm (z8 c)];omega⟩
  ·rw [f0,uN j hj];omega
  ·rw [f2,uN j hj];by_cases hl:j+1=gs.length
   ·rw [qg hl];have g3:(xx (g.M.F a 0) gs).getD (j+1) (Qz g a m)=Qz g a m:=by rw [List.getD_eq_getElem?_getD,List.getElem?_eq_none Ly];rfl
    rw [g3];rcases B.led.behind hc h with ⟨b1,b2⟩ | ⟨b1,b2⟩
    ·left;rw [b1];exact ⟨by decide,b2⟩
    ·right;have:=Kq hc h b1;rw [Jf Ly Ly,show 2 * r / 2=r by omega];exact ⟨(KG _).2 (.inl b1),by rw [FK _ b1];exact b2⟩
   ·rw [qf hl];right;have hj1:j+1<gs.length:=by omega
    obtain ⟨p3,p4⟩:=place (j+1) hj1;have em:at_+z8 c * ((j:Int)+1)=at_+z8 c * ((j+1:Nat):Int):=by rw [Int.natCast_add];rfl
    rw [em,Jf Ly Ly,show 2 * (at_+z8 c * ((j+1:Nat):Int)) / 2=at_+z8 c * ((j+1:Nat):Int) by omega];refine ⟨KN _ hj1,?_⟩;rw [FN _ hj1 0 Ly Ly];simp only [nkF,if_true];rw [List.getD_eq_getElem?_getD,List.getD_eq_getElem?_getD,List.getElem?_eq_getElem Ly];rfl
  ·have h16:=hc.c16;rw [FN j hj _ Ly P5,FN j hj (8+3 * i) Ly P5,qar i0,qcd i0,f0,uN j hj];simp only;cases hy:(gs.getD j [])[i.toNat]? with
   | none=>intro k;simp at k
   | some y=>intro _ _;exact q4 y (List.mem_of_getElem? hy)
  ·have h16:=hc.c16;rw [f1,FN j hj _ Ly P5,qar i0];intro k;simp only;rw [List.getElem?_eq_none Ly];exact .inl rfl
 have ki:KI c G.K G.up G.M:=h.ki.grow (fun b k=>(KG b).2 (.inl k)) uK (fun b k f=>FK b k f) e1 (fun k=>by rw [e2]) e3 brand;have h15:=h.p15 hc
 have nx:∀ j:Nat,j<gs.length->G.M.F (at_+z8 c * (j:Int)) 2=jv (if j+1=gs.length then r else at_+z8 c * ((j:Int)+1)) false:=fun j hj=>by have f2:=FN j hj 2 Ly Ly;simp only [nkF] at f2;simpa using f2
 have eb:∀ x,Bn G x↔Bn g x:=fun x=>by
  constructor
  ·rintro (k | ⟨k1,k2,k3⟩)
   ·rw [eL] at k;exact .inl k
   ·by_cases kk:g.K x
    ·rw [FK x kk] at k2 k3;exact .inr ⟨kk,k2,k3⟩
    ·obtain ⟨j,hj,rfl⟩:=new x k1 kk;rw [nx j hj,q3o] at k2;omega
  ·rintro (k | ⟨k1,k2,k3⟩)
   ·left;rw [eL];exact k
   ·right;rw [FK x k1,FK x k1];exact ⟨(KG _).2 (.inl k1),k2,k3⟩
 have lk:∀ {y n t:Int},Led c g y n t->Led c G y n t:=fun L=>L.keep h15 (fun x k=>(KG x).2 (.inl k)) (fun x=>(eb x).2) (fun b k _=>FK b k 2) (fun b k _=>FK b k 3) (fun b k _=>FK b k 4)
 have bK:∀ x,Bn g x->g.K x:=fun x k=>k.K h
 have bg:Bg c G:=by
  refine ⟨?_,fun x hx=>?_,fun x hx=>?_,fun k k0 k1=>?_,fun x hx hn=>?_,fun x hx hn=>?_,fun x hx hn=>?_⟩
  ·rw [e1,eL];exact h.bg.cl.congr (fun x hx=>by rw [FK x (h.bg.K x hx)])
  ·rw [eL] at hx;exact (KG x).2 (.inl (h.bg.K x hx))
  ·have hx':=(eb x).1 hx;rw [FK x (bK x hx')];exact (h.bg.nx x hx').imp id (eb _).2
  ·rw [e2];exact (h.bg.ht k k0 k1).imp id (eb _).2
  ·by_cases kk:g.K x
   ·rw [FK x kk] at hn ⊢;obtain ⟨q1,q2⟩:=h.bg.ld x kk hn;rw [FK _ (bK _ q1)];exact ⟨(eb _).2 q1,q2⟩
   ·exact absurd (brand x hx kk).ld hn
  ·by_cases kk:g.K x
   ·rw [FK x kk] at hn;obtain ⟨st,rb,n,t,N,sn,sh⟩:=h.bg.rp x kk hn;refine ⟨by rw [FK x kk];exact st,fun k=>by rw [eL] at k;rw [FK x kk];exact (eb _).2 (rb k),n,t,lk N,fun k=>by rw [FK _ (N.m0'.resolve_left k)];exact sn k,fun k=>?_⟩;rw [eL] at k;obtain ⟨qs,q1,q2,q3⟩:=sh k;rw [FK x kk];exact ⟨qs,q1,q2.congr (fun z hz=>by rw [FK z (q3 z hz).1]),fun z hz=>⟨(KG z).2 (.inl (q3 z hz).1),by rw [eb];exact (q3 z hz).2⟩⟩
   ·exact absurd (brand x hx kk).rp hn
  ·have hx':=(eb x).1 hx;rw [eL] at hn;rw [FK x (bK x hx'),FK x (bK x hx')];exact h.bg.gn x hx' hn
 refine ⟨⟨ki,⟨h.rel.len,fun b k f h0 h1=>?_,by rw [e1];exact h.rel.hn,fun k h0 h1=>by rw [e2];exact h.rel.ht k h0 h1,by rw [e3];exact h.rel.top,fun p hp=>h.rel.fz p (by rw [<- e3];exact hp)⟩,bg⟩,?_,fun b k n=>(brand b k n).c16,hgl,?_,fun x=>(eb x).2,(List.range' 0 gs.length).map (fun j:Nat=>at_+z8 c * (j:Int)),?_,?_,fun q hq=>?_⟩
 ·by_cases kk:g.K b
  ·rw [FK b kk];exact h.rel.F b kk f h0 h1
  ·rw [<- hG];exact (q1o kk _ _).symm
 ·exact ⟨fun b k=>(KG b).2 (.inl k),uK,fun b k=>FK b k 0,fun b k _=>FK b k 2,fun b k _=>FK b k 3,fun b k _=>FK b k 4,fun b k _=>FK b k 5,fun b i k _ _ _=>⟨FK b k _,FK b k _,FK b k _⟩,fun b k=>by rw [FK b k];exact Int.le_refl _,by rw [e3];exact Int.le_refl _,fun x=>(eb x).2,fun x _ k=>by rw [eL];exact k,fun x k k2=>by rw [FK x k];exact k2⟩
 ·have:=FN 0 hgl 0 Ly Ly;simp only [nkF,if_true] at this;rw [show at_+z8 c * ((0:Nat):Int)=at_ by simp] at this;rw [this];rw [List.getD_eq_getElem?_getD,Ju _ (fun e=>by rw [e] at hgl;simp at hgl)];rfl
 ·intro e;have:=congrArg List.length e;simp at this;rw [this] at hgl;simp at hgl
 ·have:=q2l (F:=G.M.F) (f:=fun j:Nat=>at_+z8 c * (j:Int)) (r:=r) (n:=gs.length) (fun j hj=>?_) gs.length 0 Ly hgl
  ·simpa using this
  ·show G.M.F (at_+z8 c * (j:Int)) 2 / 2=if j+1=gs.length then r else at_+z8 c * ((j+1:Nat):Int);rw [nx j hj]
   have hr:0<=r/\r<=1000000:=by
    rcases B.led.behind hc h with ⟨b1,-⟩ | ⟨b1,-⟩
    ·omega
    ·have:=Kq hc h b1;omega
   by_cases hl:j+1=gs.length
   ·rw [qg hl,qg hl,Jf Ly Ly];omega
   ·rw [qf hl,qf hl];obtain ⟨p3,p4⟩:=place (j+1) Ly;have em:at_+z8 c * ((j:Int)+1)=at_+z8 c * ((j+1:Nat):Int):=by rw [Int.natCast_add];rfl
    rw [em,Jf Ly Ly];omega
 ·obtain ⟨j,hj,rfl⟩:=List.mem_map.1 hq
  have hj2:j<gs.length:=by have:=List.mem_range'_1.1 hj;omega
  refine ⟨KN j hj2,fun k=>?_⟩;exact notK j hj2 (((eb _).1 k).K h)
theorem Tt (hc:c.Ok) (h:OkG c g l) {a m r at_:Int} {gs:List (List It)} {its:List It} {vs:List Int} {w:List (Int×Int)} (B:qdf c g l a m r at_ gs its vs) (hw:w=je (yt c at_ r (g.M.F a 0) gs)) (O:Own c g l at_ gs.length w w.length) (h5:g.M.F a 5=0) (sa:1<=g.M.F a 6) (sm:m≠0->1<=g.M.F m 6) :
  ∃ g',Goes c g l g' (vg l (a+5) at_) no2 (Sc c at_ gs.length)/\g'.M.F a 5≠0:=by
 obtain ⟨ok,ext,ct,hgl,e0,ebn,qs,qn,qsg,qK⟩:=grown hc h B hw O;have hsz:=xk hc;have hal:=Z3 hc O.al;have ka:=ext.K _ B.led.K;have eF:∀ b,g.K b->∀ f,(g.grown c l at_ gs.length (xx (g.M.F a 0) gs) (Qz g a m)).M.F b f=g.M.F b f:=fun b k f=>Uu k _ _
 have kat:(g.grown c l at_ gs.length (xx (g.M.F a 0) gs) (Qz g a m)).K at_:=.inr ⟨0,hgl,by simp⟩;have hK:∀ b,(g.grown c l at_ gs.length (xx (g.M.F a 0) gs) (Qz g a m)).K b->g.K b\/∃ j:Nat,j<gs.length/\b=at_+z8 c * (j:Int):=fun b k=>k
 have e3:(g.grown c l at_ gs.length (xx (g.M.F a 0) gs) (Qz g a m)).M.top=g.M.top:=rfl;have eL:(g.grown c l at_ gs.length (xx (g.M.F a 0) gs) (Qz g a m)).L=g.L:=rfl;generalize g.grown c l at_ gs.length (xx (g.M.F a 0) gs) (Qz g a m)=G at *;have LG:Led c G a m r:=B.led.keep (h.p15 hc) ext.K ext.bn ext.nm ext.ld ext.mt;have G2:=q5v hc ok ka (v:=at_) (by rw [eF a B.led.K];exact h5) ⟨kat,by rw [eF a B.led.K];exact e0⟩ (ext.st _ B.led.K sa) ⟨m,r,LG,fun k=>ext.st _ (B.led.m0'.resolve_left k) (sm k),fun _=>⟨qs,qn,qsg,qK⟩⟩;have hnc:∀ b f,f≠5->(G.set a 5 at_).M.F b f=G.M.F b f:=fun b f hf=>xg hf
 refine ⟨_,⟨G2.ok,ext.trans G2.ext,⟨fun b i kb i0 i1 _ k=>?_,fun p p0 p1 p2 p3=>?_⟩,fun b kb=>?_,?_,fun x k k2=>absurd (show x∈(G.set a 5 at_).L by rw [show (G.set a 5 at_).L=G.L from rfl,eL];exact k) k2⟩,?_⟩
 ·rw [hnc b _ Ly,hnc b _ Ly,eF b kb,eF b kb];exact ⟨k,rfl⟩
 ·have hne:∀ b,G.K b->¬ (b<=p/\p<b+z8 c):=fun b kb hp=>by
   rcases hK b kb with kb | ⟨j,hj,rfl⟩
   ·exact p2 b kb hp
   ·have h1:0<=z8 c * (j:Int):=Int.mul_nonneg Ly Ly;have h2:=q15 (S:=z8 c) Ly hj;exact p3 ⟨by omega,by omega⟩
  exact G2.kp.priv p p0 (by rw [e3];exact p1) hne (fun k=>k)
 ·have kb':G.K b:=kb;by_cases k:g.K b
  ·left;refine ⟨k,?_⟩;rw [hnc b 1 Ly,eF b k];omega
  ·right;rw [hnc b 1 Ly];exact ct b kb' k
 ·show (G.set a 5 at_).M.top<=_;rw [show (G.set a 5 at_).M.top=G.M.top from rfl,e3];omega
 ·rw [show (G.set a 5 at_).M.F a 5=at_ from upd_same _ _ _ _];omega
end
section
variable {c:Cf} {g:Gst} {l:List Int}
theorem Own.keep (hc:c.Ok) {g':Gst} {l':List Int} {mc:Int->Int->Prop} {mp:Int->Prop} {a:Int} {n i:Nat} {w:List (Int×Int)} (h:Own c g l a n w i) (e:Goes c g l g' l' mc mp) (hm:∀ q,Sc c a n q->¬ mp q):Own c g' l' a n w i:=by have hal:=Z3 hc h.al;have ht:=h.top;refine ⟨h.al,Int.le_trans ht e.ext.top,h.wd,fun p p0 p1=>?_⟩;obtain ⟨h1,h2⟩:=h.nk p p0 p1;obtain ⟨k1,k2⟩:=e.kp.priv p Ly Ly h1 (hm p ⟨p0,p1⟩);exact ⟨k2,k1.trans h2⟩
structure BdI (c:Cf) (g:Gst) (l:List Int) (x:Bd):Prop where
 cc:x.c=c
 inv:x.line=0\/Zq x
 led:Led c g x.chunk x.mate x.after
 mn:2<=x.line->x.mn=g.M.F x.chunk 0
 its:∀ y∈x.l,g.M.F x.chunk 0<=y.k/\y.k<Qz g x.chunk x.mate
 c3:x.line=3\/x.line=4->∃ b j,g.K b/\(0<=j/\j<c.c)/\(b=x.chunk\/(b=x.mate/\x.mate≠0))/\x.sa=b+(7+3 * j)/\3<=g.M.F b (7+3 * j)
 k4:x.line=4->g.M.F x.chunk 0<=x.x.k/\x.x.k<Qz g x.chunk x.mate
 g5:5<=x.line->x.groups=vu (J6 x.l x.versions) c.c
 w6:x.line=6\/x.line=7->x.w=je (yt c x.at_ x.after x.mn x.groups)/\yt c x.at_ x.after x.mn x.groups≠[]/\Own c g l x.at_ x.groups.length x.w (if x.line=6 then x.i.toNat else x.w.length)
 r8:x.line=8->g.M.F x.chunk 5≠0
 r0:x.line=0->x.e=0->g.K x.repl/\g.M.F x.repl 0=g.M.F x.chunk 0/\g.M.F x.chunk 5=x.repl
def Bd.mineP (c:Cf) (x:Bd):Int->Prop:=fun q=>(x.line=6\/x.line=7)/\Sc c x.at_ x.groups.length q
theorem qah (hc:c.Ok) (h:OkG c g l) {g':Gst} (e:Ext c g g') {a m r:Int} (L:Led c g a m r):Qz g' a m=Qz g a m:=by
 unfold Qz;by_cases k:m=0
 ·rw [qg k];exact e.up _ L.K
 ·rw [qf k];exact e.up _ ((L.m0 hc h).resolve_left k)
theorem BdI.keep (hc:c.Ok) (h:OkG c g l) {g':Gst} {l':List Int} {mc:Int->Int->Prop} {mp:Int->Prop} {x:Bd} (hx:BdI c g l x) (e:Goes c g l g' l' mc mp) (hm:∀ q,x.mineP c q->¬ mp q):BdI c g' l' x:=by
 have e0:=e.ext.mn _ hx.led.K;have eh:=qah hc h e.ext hx.led;refine ⟨hx.cc,hx.inv,hx.led.ext hc h e.ext,by rw [e0];exact hx.mn,by rw [e0,eh];exact hx.its,fun k=>?_,by rw [e0,eh];exact hx.k4,hx.g5,fun k=>?_,fun k=>?_,fun k k2=>?_⟩
 ·obtain ⟨b,j,h1,h2,h3,h4,h5⟩:=hx.c3 k;exact ⟨b,j,e.ext.K _ h1,h2,h3,h4,by rw [(e.ext.gv b j h1 h2.1 h2.2 h5).1];exact h5⟩
 ·obtain ⟨h1,h2,h3⟩:=hx.w6 k;exact ⟨h1,h2,h3.keep hc e (fun q hq=>hm q ⟨k,hq⟩)⟩
 ·rw [e.ext.rp _ hx.led.K (hx.r8 k)];exact hx.r8 k
 ·obtain ⟨h1,h2,h3⟩:=hx.r0 k k2;have:=h.p15 hc _ h1;exact ⟨e.ext.K _ h1,by rw [e.ext.mn _ h1,e0];exact h2,by rw [e.ext.rp _ hx.led.K (by rw [h3];omega)];exact h3⟩
theorem BdI.new (hc:c.Ok) {a m r:Int} (L:Led c g a m r) {vs:List Int} (hv:vs.length<=100):BdI c g l (Bd.new c a m r vs) :=
 ⟨rfl,.inr (Zq.new hc a m r hv),L,fun k=>by simp [Bd.new] at k,fun y hy=>by simp [Bd.new] at hy,fun k=>by simp [Bd.new] at k,fun k=>by simp [Bd.new] at k,fun k=>by simp [Bd.new] at k,fun k=>by simp [Bd.new] at k,fun k=>by simp [Bd.new] at k,fun k=>by simp [Bd.new] at k⟩
theorem qca {x:Bd} (h1:x.c=c) (h2:Zq x.on) (h3:Led c g x.chunk x.mate x.after) (h4:x.mn=g.M.F x.chunk 0) (h5:∀ y∈x.l,g.M.F x.chunk 0<=y.k/\y.k<Qz g x.chunk x.mate):BdI c g l x.on:=by
 unfold Bd.on at *;by_cases e:Q8 x.c x.mate<=x.i+1
 ·rw [qg e] at *;exact ⟨h1,.inr h2,h3,fun _=>h4,h5,fun k=>by simp at k,fun k=>by simp at k,fun _=>by simp only;rw [h1],fun k=>by simp at k,fun k=>by simp at k,fun k=>by simp at k⟩
 ·rw [qf e] at *;exact ⟨h1,.inr h2,h3,fun _=>h4,h5,fun k=>by simp at k,fun k=>by simp at k,fun k=>by simp at k,fun k=>by simp at k,fun k=>by simp at k,fun k=>by simp at k⟩
theorem Ym (x:Bd):x.on.line=5\/x.on.line=2:=by unfold Bd.on;split <;> simp
theorem qct (hc:c.Ok) (h:OkG c g l) {a m r b j:Int} (L:Led c g a m r) (hb:b=a\/(b=m/\m≠0)) (hK:g.K b) (hj:0<=j/\j<c.c) (h3:3<=g.M.F b (7+3 * j)):g.M.F a 0<=g.M.F b (8+3 * j)/\g.M.F b (8+3 * j)<Qz g a m:=by
 have h1:=h.ki.cl b j hK hj.1 hj.2 Ly Ly;have h2:=qcy hc h L;rcases hb with rfl | ⟨rfl,hm⟩
 ·omega
 ·have:=L.mn hc h hm;have:=h.ki.mn a L.K;have e:Qz g a b=g.up b:=by unfold Qz;rw [qf hm]
  rw [e];omega
theorem q6e (hc:c.Ok) {s:St} (h:OkG c g s.l) {a:Int} {n i:Nat} {w:List (Int×Int)} {q:Int×Int} (O:Own c g s.l a n w i) (hq:w[i]? = some q) (hp:Sc c a n q.1) :
  Goes c g s.l g (s.store q.1 q.2).l no2 (Sc c a n)/\Own c g (s.store q.1 q.2).l a n w (i+1):=by
 have hal:=Z3 hc O.al;have ht:=O.top;have hwd:=O.wd;have hl:=h.rel.len;have G:=q5p hc h q.2 (p:=q.1) (by have:=hp.1;omega) (by have:=hp.2;omega) (O.nk q.1 hp.1 hp.2).1;refine ⟨G.weak (fun _ _ k=>k) (fun p k=>by rw [show p=q.1 from k];exact hp),O.al,O.top,O.wd,fun p p0 p1=>⟨(O.nk p p0 p1).1,?_⟩⟩;rw [Xd,xn,List.take_add_one,hq,Option.toList_some,q21,<- (O.nk p p0 p1).2,Qg];show _=if q.1=p then q.2 else qx s.l p;by_cases e:p=q.1
 ·rw [qg ⟨e,by have:=hp.1;omega,by have:=hp.2;omega⟩,qg e.symm]
 ·rw [qf (fun k=>e k.1),qf (fun k=>e k.symm)]
theorem q9p (hc:c.Ok) {at_ r mn:Int} {gs:List (List It)} (h0:0<=at_) (hb:at_+z8 c * (gs.length:Int)<=40000) (hne:yt c at_ r mn gs≠[]):∀ q∈je (yt c at_ r mn gs),Sc c at_ gs.length q.1:=by intro q hq;have hsz:=xk hc;obtain ⟨ec,hlen⟩:=Wx hne;rw [ec] at hq;unfold je at hq;rw [List.mem_flatMap] at hq;obtain ⟨n,hn,hq⟩:=hq;obtain ⟨i,hi⟩:=List.getElem?_of_mem hn;have hil:=(List.getElem?_eq_some_iff.1 hi).1;rw [yx] at hil;have hml:=q2h mn gs;rw [Yt (c:=c) r Ly gs at_ _ i gs[i] ((xx mn gs)[i]'(by omega)) h0 Ly (List.getElem?_eq_getElem hil) (List.getElem?_eq_getElem Ly)] at hi;cases hi;have h1:0<=z8 c * (i:Int):=Int.mul_nonneg Ly Ly;have h2:=q15 (S:=z8 c) Ly hil;have:=Ti Mr Mr (cap:=c.c) (by simp only;exact hlen _ (List.getElem_mem hil)) hc.c16 q hq;simp only at this;unfold Sc;have hS:z8 c=7+3 * c.c:=rfl;omega
theorem BdI.step (hc:c.Ok) {s:St} (h:OkG c g s.l) (hB:g.M.top<=900000000) {x:Bd} (hx:BdI c g s.l x) (sa:1<=g.M.F x.chunk 6) (sm:x.mate≠0->1<=g.M.F x.mate 6):∃ g',Goes c g s.l g' (x.step s).2.l no2 (x.mineP c)/\BdI c g' (x.step s).2.l (x.step s).1/\∀ q,(x.step s).1.mineP c q->x.mineP c q\/g.M.top<=q:=by
 have same:=Goes.same h no2 (x.mineP c);have hsz:=xk hc;have hkb:=Kq hc h hx.led.K;rcases hx.inv with l0 | inv
 ·have e:x.step s=(x,s):=by unfold Bd.step;rw [qf Ly,qf Ly,qf Ly,qf Ly,qf Ly,qf Ly,qf Ly,qf Ly]
  rw [e];exact ⟨g,same,hx,fun q k=>.inl k⟩
 have hst:=inv.step s;have nomine:∀ (y:Bd) (q:Int),(y.line≠6/\y.line≠7)->y.mineP c q->x.mineP c q\/g.M.top<=q:=fun y q k1 k2=>by have:=k2.1;omega
 have hi0:=inv.i0
 have cell:2<=x.line/\x.line<=4->∃ b j,g.K b/\(0<=j/\j<c.c)/\(b=x.chunk\/(b=x.mate/\x.mate≠0))/\x.sa=b+(7+3 * j)/\9+3 * j<z8 c:=fun k=>by obtain ⟨i1,i2,-⟩:=inv.i4 k;rw [hx.cc] at i2;unfold Bd.sa;rw [hx.cc];exact q5c hc h hx.led.K (hx.led.m0 hc h) ⟨i1,i2⟩
 rcases (by have:=inv.ln;omega:x.line=1\/x.line=2\/x.line=3\/x.line=4\/x.line=5\/x.line=6\/x.line=7\/x.line=8) with e | e | e | e | e | e | e | e
 ·have ex:x.step s=(({ x with mn:=qx s.l (wrap64 x.chunk),i:=-1 }:Bd).on,s.load (wrap64 x.chunk)):=by unfold Bd.step;rw [qg e]
  rw [ex] at hst ⊢;have hon:=Ym ({ x with mn:=qx s.l (wrap64 x.chunk),i:=-1 }:Bd);refine ⟨g,same,qca hx.cc (hst.resolve_left Mr) hx.led (rd0 hc h hx.led.K) hx.its,fun q k=>nomine _ q P8 k⟩
 ·obtain ⟨b,j,hb,hj,hbm,hsa,h9⟩:=cell Ly;have hrd:qx s.l x.sa=g.M.F b (7+3 * j):=by rw [hsa];exact h.rel.F _ hb _ Ly Ly
  by_cases hv:qx s.l x.sa<3
  ·have ex:x.step s=(({ x with x:=⟨0,Vg (qx s.l x.sa),0⟩,line:=3 }:Bd).on,s.load x.sa):=by unfold Bd.step;rw [qf Ly,qg e];simp only;rw [qg hv]
   rw [ex] at hst ⊢;have hon:=Ym ({ x with x:=⟨0,Vg (qx s.l x.sa),0⟩,line:=3 }:Bd);exact ⟨g,same,qca hx.cc (hst.resolve_left Mr) hx.led (hx.mn Ly) hx.its,fun q k=>nomine _ q P8 k⟩
  ·have ex:x.step s=({ x with x:=⟨0,Vg (qx s.l x.sa),0⟩,line:=3 },s.load x.sa):=by unfold Bd.step;rw [qf Ly,qg e];simp only;rw [qf hv]
   rw [ex] at hst ⊢;rw [hrd] at hv;exact ⟨g,same,⟨hx.cc,hst,hx.led,fun _=>hx.mn Ly,hx.its,fun _=>⟨b,j,hb,hj,hbm,hsa,by omega⟩,fun k=>by simp at k,fun k=>by simp at k,fun k=>by simp at k,fun k=>by simp at k,fun k=>by simp at k⟩,fun q k=>nomine _ q Ma k⟩
 ·obtain ⟨b,j,hb,hj,hbm,hsa,h3⟩:=hx.c3 (.inl e);have hbb:=Kq hc h hb;have h16:=hc.c16;have ex:x.step s=({ x with x:=⟨qx s.l (wrap64 (x.sa+1)),x.x.v,x.x.d⟩,line:=4 },s.load (wrap64 (x.sa+1))):=by unfold Bd.step;rw [qf Ly,qf Ly,qg e]
  rw [ex] at hst ⊢
  have hk:qx s.l (wrap64 (x.sa+1))=g.M.F b (8+3 * j):=by rw [hsa,Zk Ly (by unfold z8 at *;omega),show b+(7+3 * j)+1=b+(8+3 * j) by omega];exact h.rel.F _ hb _ Ly P5
  refine ⟨g,same,⟨hx.cc,hst,hx.led,fun _=>hx.mn Ly,hx.its,fun _=>⟨b,j,hb,hj,hbm,hsa,h3⟩,fun _=>?_,fun k=>by simp at k,fun k=>by simp at k,fun k=>by simp at k,fun k=>by simp at k⟩,fun q k=>nomine _ q Ma k⟩;simp only;rw [hk];exact qct hc h hx.led hbm hb hj h3
 ·have ex:x.step s=(({ x with x:=⟨x.x.k,x.x.v,qx s.l (wrap64 (x.sa+2))⟩,l:=x.l++[⟨x.x.k,x.x.v,qx s.l (wrap64 (x.sa+2))⟩] }:Bd).on,s.load (wrap64 (x.sa+2))):=by unfold Bd.step;rw [qf Ly,qf Ly,qf Ly,qg e]
  rw [ex] at hst ⊢;have hon:=Ym ({ x with x:=⟨x.x.k,x.x.v,qx s.l (wrap64 (x.sa+2))⟩,l:=x.l++[⟨x.x.k,x.x.v,qx s.l (wrap64 (x.sa+2))⟩] }:Bd);refine ⟨g,same,qca hx.cc (hst.resolve_left Mr) hx.led (hx.mn Ly) (fun y hy=>?_),fun q k=>nomine _ q P8 k⟩;simp only at hy;rcases List.mem_append.1 hy with hy | hy
  ·exact hx.its y hy
  ·rw [List.mem_singleton.1 hy];exact hx.k4 e
 ·have htop:=h.rel.top;have hT:15<=g.M.top:=(Z3 hc h.ki.top).2;have hg:=inv.g.1;have hS:z8 c=7+3 * c.c:=rfl;obtain ⟨m1,m2,m3⟩:=q1x (g:=x.groups.length) (c:=c.c) Ly (by have:=hc.c2;have:=hc.t1;omega) hc.c16;rw [<- hS] at m1 m2 m3;have h41:(x.groups.length:Int) * z8 c<=41 * 55:=Int.mul_le_mul Ly Ly Ly Ly;have ex:x.step s=(x.five (qx s.l 2),s.add 2 (x.groups.length * z8 x.c)):=by unfold Bd.step;rw [qf Ly,qf Ly,qf Ly,qf Ly,qg e]
  rw [ex] at hst ⊢;simp only;rw [htop,hx.cc,qd3,htop,Zk (a:=g.M.top+(x.groups.length:Int) * z8 c) Ly Ly];rw [htop] at hst;have G:=(q9t hc h x.groups.length Ly).weak (mc':=no2) (mp':=x.mineP c) (fun _ _ k=>k) (fun _ k=>k.elim);have L':=hx.led.ext hc h G.ext;have hmn:=hx.mn Ly;have hg5:=hx.g5 Ly;unfold Bd.five at hst ⊢;simp only at hst ⊢;rw [hx.cc,Zk Ly Ly] at hst ⊢;split
  ·exact ⟨_,G,⟨rfl,.inl rfl,L',fun k=>by simp at k,hx.its,fun k=>by simp at k,fun k=>by simp at k,fun k=>by simp at k,fun k=>by simp at k,fun k=>by simp at k,fun _ k=>by simp at k⟩,fun q k=>nomine _ q Ma k⟩
  ·rename_i hne;rw [qf hne] at hst;have hwd:g.M.top+z8 c * (x.groups.length:Int)<=c.wd:=by rw [Int.mul_comm];omega
   have hw2:=hc.w2
   have O:Own c { g with M:={ g.M with top:=g.M.top+(x.groups.length:Int) * z8 c } } (vg s.l 2 (g.M.top+(x.groups.length:Int) * z8 c)) g.M.top x.groups.length (je (yt c g.M.top x.after x.mn x.groups)) 0:=by
    refine ⟨h.ki.top,by simp only;rw [Int.mul_comm];omega,hwd,fun p p0 p1=>⟨fun a ha hp=>?_,?_⟩⟩
    ·have:=(h.ki.al a ha).2.2;omega
    ·rw [xn,qf Ly];exact h.rel.fz p p0
   refine ⟨_,G,⟨rfl,hst,L',fun _=>hmn,hx.its,fun k=>by simp at k,fun k=>by simp at k,fun _=>hg5,fun _=>⟨rfl,fun k=>hne (.inr (.inr k)),?_⟩,fun k=>by simp at k,fun k=>by simp at k⟩,fun q k=>.inr ?_⟩
   ·simp only [if_true];exact O
   ·exact k.2.1
 ·obtain ⟨w1,w2,O⟩:=hx.w6 (.inl e);rw [qg e] at O;obtain ⟨i0,i1⟩:=inv.w6 e;have ex:x.step s=({ x with i:=x.i+1,line:=if (x.w.length:Int)<=x.i+1 then 7 else 6 },s.store x.nth.1 x.nth.2):=by unfold Bd.step;rw [qf Ly,qf Ly,qf Ly,qf Ly,qf Ly,qg e]
  rw [ex] at hst ⊢;have hnth:x.w[x.i.toNat]? = some x.nth:=by unfold Bd.nth;rw [List.getD_eq_getElem?_getD,List.getElem?_eq_getElem Ly];rfl
  have hal:=Z3 hc O.al;have hwd:=O.wd;have hw2:=hc.w2;have hin:Sc c x.at_ x.groups.length x.nth.1:=q9p hc Ly Ly w2 x.nth (by rw [<- w1];exact List.mem_of_getElem? hnth);obtain ⟨G,O'⟩:=q6e hc h O hnth hin;refine ⟨g,G.weak (fun _ _ k=>k) (fun q k=>⟨.inl e,k⟩),⟨hx.cc,hst,hx.led,fun _=>hx.mn Ly,hx.its,fun k=>?_,fun k=>?_,fun _=>hx.g5 Ly,fun k=>⟨w1,w2,?_⟩,fun k=>?_,fun k=>?_⟩,fun q k=>.inl ⟨.inl e,k.2⟩⟩
  ·exact Hf
  ·exact Hf
  ·simp only at k ⊢;by_cases hh:(x.w.length:Int)<=x.i+1
   ·rw [qg hh,qf Ly];rw [show x.w.length=x.i.toNat+1 by omega];exact O'
   ·rw [qf hh,qg rfl,show (x.i+1).toNat=x.i.toNat+1 by omega];exact O'
  ·exact Hf
  ·exact Hf
 ·obtain ⟨w1,w2,O⟩:=hx.w6 (.inr e);rw [qf Ly] at O;have ex:x.step s=({ x with line:=8 },s.swap (wrap64 (x.chunk+5)) 0 x.at_):=by unfold Bd.step;rw [qf Ly,qf Ly,qf Ly,qf Ly,qf Ly,qf Ly,qg e]
  rw [ex] at hst ⊢;simp only;rw [Zk Ly Ly];have hmn:=hx.mn Ly
  have mk:∀ g':Gst,∀ l',Ext c g g'->g'.M.F x.chunk 5≠0->BdI c g' l' { x with line:=8 }:=fun g' l' ee e5=>by have e0:=ee.mn _ hx.led.K;have eh:=qah hc h ee hx.led;exact ⟨hx.cc,hst,hx.led.ext hc h ee,fun _=>by simp only;rw [e0];exact hmn,by simp only;rw [e0,eh];exact hx.its,fun k=>by simp at k,fun k=>by simp at k,fun _=>hx.g5 Ly,fun k=>by simp at k,fun _=>e5,fun k=>by simp at k⟩
  cases hcn:s.can (x.chunk+5) 0 with
  | true =>
   have hp:=kr hcn;rw [h.rel.F _ hx.led.K 5 Ly Ly] at hp;rw [jq hcn];rw [hmn] at w1 w2;obtain ⟨g',G,e5⟩:=Tt hc h ⟨hx.led,hx.its,hx.g5 Ly,w2⟩ w1 O hp sa sm;exact ⟨g',G.weak (fun _ _ k=>k) (fun q k=>⟨.inr e,k⟩),mk g' _ G.ext e5,fun q k=>nomine _ q Ma k⟩
  | false =>
   rw [Qa hcn];exact ⟨g,same,mk g _ (Ext.refl _ _) (Ur hc h hx.led.K Ly Ly hcn),fun q k=>nomine _ q Ma k⟩
 ·have ex:x.step s=({ x with repl:=qx s.l (wrap64 (x.chunk+5)),line:=0 },s.load (wrap64 (x.chunk+5))):=by unfold Bd.step;rw [qf Ly,qf Ly,qf Ly,qf Ly,qf Ly,qf Ly,qf Ly,qg e]
  rw [ex];refine ⟨g,same,⟨hx.cc,.inl rfl,hx.led,fun k=>by simp at k,hx.its,fun k=>by simp at k,fun k=>by simp at k,fun k=>by simp at k,fun k=>by simp at k,fun k=>by simp at k,fun _ _=>?_⟩,fun q k=>nomine _ q Ma k⟩;simp only;rw [rd hc h hx.led.K Ly Ly];exact ⟨((h.ki.rp _ hx.led.K).resolve_left (hx.r8 e)).1,((h.ki.rp _ hx.led.K).resolve_left (hx.r8 e)).2,rfl⟩
end
section
variable {c:Cf} {g:Gst} {l:List Int}
structure FmI (c:Cf) (g:Gst) (l:List Int) (f:Fm):Prop where
 ld:LdI c g f.l
 l0:f.part≠1->f.l.line=0
 s:∀ y,f.s=some y->SlI c g y
 n:∀ y,f.n=some y->NdI c y/\q0o y
 b:f.part=5->∀ y,f.b=some y->BdI c g l y/\y.chunk=f.l.three.1/\y.mate=f.l.three.2.1
 r:f.part=6->g.K f.repl/\g.M.F f.repl 0=g.M.F f.l.three.1 0/\g.M.F f.l.three.1 5=f.repl
 p:∀ y,f.p=some y->SpI c g y
 ls:LdS c g f.l
 ss:∀ y,f.s=some y->SlS c g y/\(f.part=2->y.chunk=f.l.three.1/\y.mate=f.l.three.2.1)
 sl:f.part≠1->f.part≠2->1<=g.M.F f.l.three.1 6/\(f.l.three.2.1≠0->1<=g.M.F f.l.three.2.1 6)
 ps:∀ y,f.p=some y->SpS c g y
def Fm.mineP (c:Cf) (f:Fm):Int->Prop:=fun q=>f.part=5/\∃ y,f.b=some y/\y.mineP c q
theorem FmI.led {f:Fm} (h:FmI c g l f) (h1:f.part≠1):Led c g f.l.three.1 f.l.three.2.1 f.l.three.2.2:=h.ld.led h.ls (h.l0 h1)
theorem FmI.keep (hc:c.Ok) (h:OkG c g l) {g':Gst} {l':List Int} {mc:Int->Int->Prop} {mp:Int->Prop} {f:Fm} (hf:FmI c g l f) (e:Goes c g l g' l' mc mp) (hm:∀ q,f.mineP c q->¬ mp q):FmI c g' l' f:=by
 refine ⟨hf.ld.ext hc (fun a ha=>h.ki.pos hc ha) e.ext,hf.l0,fun y k=>(hf.s y k).ext e.ext,hf.n,fun k y k2=>?_,fun k=>?_,fun y k=>(hf.p y k).ext e.ext,hf.ls.ext hc h hf.ld e.ext,fun y k=>⟨(hf.ss y k).1.ext (hf.s y k) e.ext,(hf.ss y k).2⟩,fun k k2=>?_,fun y k=>(hf.ps y k).ext hc h (hf.p y k) e.ext⟩
 ·obtain ⟨h1,h2⟩:=hf.b k y k2;exact ⟨h1.keep hc h e (fun q hq=>hm q ⟨k,y,k2,hq⟩),h2⟩
 ·obtain ⟨h1,h2,h4⟩:=hf.r k;have h3:=(hf.led Ly).K;have:=h.p15 hc _ h1;exact ⟨e.ext.K _ h1,by rw [e.ext.mn _ h1,e.ext.mn _ h3];exact h2,by rw [e.ext.rp _ h3 (by rw [h4];omega)];exact h4⟩
 ·have L:=hf.led k;obtain ⟨k3,k4⟩:=hf.sl k k2;exact ⟨e.ext.st _ L.K k3,fun k5=>e.ext.st _ (L.m0'.resolve_left k5) (k4 k5)⟩
theorem FmI.new {a:Int} (ha:g.K a) (hb:Bn g a) (d:Bool):FmI c g l (Fm.new c a d) :=
 ⟨LdI.new ha d,fun k=>absurd rfl k,fun y k=>A06,fun y k=>A06,fun k=>(by simp [Fm.new] at k),fun k=>(by simp [Fm.new] at k),fun y k=>A06,LdS.new hb d,fun y k=>A06,fun k=>absurd rfl k,fun y k=>A06⟩
theorem Led.mB (hc:c.Ok) (h:OkG c g l) {a m r:Int} (L:Led c g a m r):m=0\/Bn g m:=by
 rcases L.m with ⟨e,-⟩ | ⟨e1,e2,-⟩
 ·exact .inl e
 ·right;have:=h.p15 hc _ e1;have k:=(h.bg.nx a L.B).resolve_left (by rw [<- e2];omega);rw [<- e2] at k;exact k
theorem FmI.splice (hc:c.Ok) (h:OkG c g l) {f:Fm} (hf:FmI c g l f) (h1:f.part≠1) (h2:f.part≠2) {r:Int} (hr:g.K r/\g.M.F r 0=g.M.F f.l.three.1 0/\g.M.F f.l.three.1 5=r):FmI c g l (f.splice c r):=by
 have L:=hf.led h1;refine ⟨hf.ld,fun _=>hf.l0 h1,hf.s,hf.n,fun k=>(by simp [Fm.splice] at k),fun _=>hr,fun y k=>?_,hf.ls,fun y k=>⟨(hf.ss y k).1,fun e=>by simp [Fm.splice] at e⟩,fun _ _=>hf.sl h1 h2,fun y k=>?_⟩
 ·unfold Fm.splice at k;simp only [Option.some.injEq] at k;rw [<- k];exact SpI.new L.K (L.m0 hc h) ⟨hr.1,hr.2.1⟩
 ·unfold Fm.splice at k;simp only [Option.some.injEq] at k;rw [<- k];exact SpS.new L.B (L.mB hc h) hr.2.2
structure MdI (c:Cf) (g:Gst) (l:List Int) (m:Md):Prop where
 cc:m.c=c
 f:∀ f,f∈m.f->FmI c g l f
 low:∀ f,f∈m.f.dropLast->f.part=6
def Md.mineP (c:Cf) (m:Md):Int->Prop:=fun q=>∃ f,f∈m.f/\f.mineP c q
theorem MdI.keep (hc:c.Ok) (h:OkG c g l) {g':Gst} {l':List Int} {mc:Int->Int->Prop} {mp:Int->Prop} {m:Md} (hm:MdI c g l m) (e:Goes c g l g' l' mc mp) (hp:∀ q,m.mineP c q->¬ mp q):MdI c g' l' m :=
 ⟨hm.cc,fun f hf=>(hm.f f hf).keep hc h e (fun q hq=>hp q ⟨f,hf,hq⟩),hm.low⟩
theorem MdI.new (hc:c.Ok) {a:Int} (ha:g.K a) (hb:Bn g a) (ds:List Int):MdI c g l (Md.new c a ds) :=
 ⟨rfl,fun f hf=>by unfold Md.new at hf;rw [List.mem_singleton.1 hf];exact FmI.new ha hb _,fun f hf=>by simp [Md.new] at hf⟩
theorem V4 (x:Bd):x.on.chunk=x.chunk:=by unfold Bd.on;split <;> rfl
theorem Uc (x:Bd) (s:St):(x.step s).1.chunk=x.chunk:=by
 unfold Bd.step;split
 ·exact V4 _
 ·split
  ·simp only;split
   ·exact V4 _
   ·rfl
  ·split
   ·rfl
   ·split
    ·exact V4 _
    ·exact Ee
theorem Yv (x:Bd):x.on.mate=x.mate:=by unfold Bd.on;split <;> rfl
theorem Rx (x:Bd) (s:St):(x.step s).1.mate=x.mate:=by
 unfold Bd.step;split
 ·exact Yv _
 ·split
  ·simp only;split
   ·exact Yv _
   ·rfl
  ·split
   ·rfl
   ·split
    ·exact Yv _
    ·exact Ee
theorem Si (x:Sl) (s:St):(x.step s).1.chunk=x.chunk/\(x.step s).1.mate=x.mate:=by
 unfold Sl.step;split
 ·exact (Z7 x _).2
 ·exact ⟨rfl,rfl⟩
theorem MdI.step (hc:c.Ok) {s:St} (h:OkG c g s.l) (hB:g.M.top<=900000000) {m:Md} (hx:MdI c g s.l m):∃ g',Goes c g s.l g' (m.step s).2.l no2 (m.mineP c)/\MdI c g' (m.step s).2.l (m.step s).1/\∀ q,(m.step s).1.mineP c q->m.mineP c q\/g.M.top<=q:=by
 have same:=Goes.same h no2 (m.mineP c);have all:∃ g',Goes c g s.l g' s.l no2 (m.mineP c)/\MdI c g' s.l m/\∀ q,m.mineP c q->m.mineP c q\/g.M.top<=q:=⟨g,same,hx,fun q k=>.inl k⟩;unfold Md.step;cases hg:m.f.getLast? with
 | none=>exact all
 | some f =>
  have hfm:f∈m.f:=List.mem_of_getLast? hg;have hf:=hx.f f hfm
  have below:∀ g':Gst,∀ l' mc mp,Goes c g s.l g' l' mc mp->∀ y,y∈m.f.dropLast->FmI c g' l' y:=fun g' l' mc mp e y hy =>
   (hx.f y (List.dropLast_subset _ hy)).keep hc h e (fun q hq=>by have:=hx.low y hy;have:=hq.1;omega)
  have put:∀ (g':Gst) (l':List Int) (mc:Int->Int->Prop) (mp:Int->Prop) (ds:List Int) (e:Int) (f2:Fm),Goes c g s.l g' l' mc mp->FmI c g' l' f2->MdI c g' l' { m with draws:=ds,e:=e,f:=m.f.dropLast++[f2] }:=fun g' l' mc mp ds e f2 G h2 =>
   ⟨hx.cc,fun y hy=>by
    rcases List.mem_append.1 hy with hy | hy
    ·exact below g' l' mc mp G y hy
    ·rw [List.mem_singleton.1 hy];exact h2,fun y hy=>by simp only [List.dropLast_concat] at hy;exact hx.low y hy⟩
  have mine:∀ (ds:List Int) (e:Int) (f2:Fm) (q:Int),(f2.mineP c q->f.mineP c q\/g.M.top<=q)->({ m with draws:=ds,e:=e,f:=m.f.dropLast++[f2] }:Md).mineP c q->m.mineP c q\/g.M.top<=q:=fun ds e f2 q k ⟨y,hy,hq⟩=>by
   rcases List.mem_append.1 hy with hy | hy
   ·exact .inl ⟨y,List.dropLast_subset _ hy,hq⟩
   ·rw [List.mem_singleton.1 hy] at hq;exact (k hq).imp (fun k=>⟨f,hfm,k⟩) id
  have nom:∀ (f2:Fm) (q:Int),f2.part≠5->f2.mineP c q->f.mineP c q\/g.M.top<=q:=fun f2 q k1 k2=>absurd k2.1 k1
  have wk:∀ (g':Gst) (l':List Int),Goes c g s.l g' l' no2 no1->Goes c g s.l g' l' no2 (m.mineP c):=fun g' l' G=>G.weak (fun _ _ k=>k) (fun _ k=>k.elim)
  have hcm:=hx.cc;simp only;by_cases p1:f.part=1
  ·rw [qg p1];obtain ⟨g',G,k,kS⟩:=hf.ld.step hc h hf.ls;have hb:=hf.keep hc h G (fun q hq=>by have:=hq.1;omega)
   have h2:FmI c g' (f.l.step s).2.l (if (f.l.step s).1.line=0 then { f with l:=(f.l.step s).1,part:=2,s:=some (Sl.new m.c (f.l.step s).1.three.1 (f.l.step s).1.three.2.1) } else { f with l:=(f.l.step s).1 }):=by
    split
    ·rename_i e0;have L:=k.led kS e0;refine ⟨k,fun _=>e0,fun y e=>?_,hf.n,fun e=>by simp at e,fun e=>by simp at e,hb.p,kS,fun y e=>?_,fun _ e=>absurd rfl e,hb.ps⟩
     ·simp only [Option.some.injEq] at e;rw [<- e,hcm];exact SlI.new hc L.K (L.m0 hc G.ok)
     ·simp only [Option.some.injEq] at e;rw [<- e,hcm];exact ⟨SlS.new L.B (L.mB hc G.ok),fun _=>⟨rfl,rfl⟩⟩
    ·exact ⟨k,fun e=>absurd p1 e,hb.s,hf.n,fun e=>by simp only at e;omega,fun e=>by simp only at e;omega,hb.p,kS,fun y e=>⟨(hb.ss y e).1,fun e=>by simp only at e;omega⟩,fun e=>absurd p1 e,hb.ps⟩
   have hp5:(if (f.l.step s).1.line=0 then { f with l:=(f.l.step s).1,part:=2,s:=some (Sl.new m.c (f.l.step s).1.three.1 (f.l.step s).1.three.2.1) } else { f with l:=(f.l.step s).1 }).part≠5:=by split <;> (simp only;omega)
   generalize (if (f.l.step s).1.line=0 then { f with l:=(f.l.step s).1,part:=2,s:=some (Sl.new m.c (f.l.step s).1.three.1 (f.l.step s).1.three.2.1) } else { f with l:=(f.l.step s).1 })=f2 at *;refine ⟨g',wk _ _ G,?_,fun q=>?_⟩
   ·split
    ·exact put g' _ _ _ m.draws.tail m.e f2 G h2
    ·exact put g' _ _ _ m.draws m.e f2 G h2
   ·split
    ·exact mine m.draws.tail m.e f2 q (nom f2 q hp5)
    ·exact mine m.draws m.e f2 q (nom f2 q hp5)
  ·rw [qf p1];have hl0:=hf.l0 p1;have L:=hf.led p1;by_cases p2:f.part=2
   ·rw [qg p2];cases hs:f.s with
    | none=>exact all
    | some x =>
     obtain ⟨g',G,k,kS⟩:=(hf.s x hs).step hc h (hf.ss x hs).1;obtain ⟨c1,c2⟩:=(hf.ss x hs).2 p2;obtain ⟨d1,d2⟩:=Si x s;have hb:=hf.keep hc h G (fun q hq=>by have:=hq.1;omega);refine ⟨g',wk _ _ G,put g' _ _ _ m.draws m.e _ G ⟨hb.ld,fun _=>hl0,fun y e=>?_,hf.n,fun e=>?_,fun e=>?_,hb.p,hb.ls,fun y e=>?_,fun e e2=>?_,hb.ps⟩,fun q=>mine m.draws m.e _ q (nom _ q ?_)⟩
     ·exact I8
     ·exact Dr
     ·exact Dr
     ·simp only [Option.some.injEq] at e;rw [<- e];exact ⟨kS,fun _=>⟨d1.trans c1,d2.trans c2⟩⟩
     ·simp only at e2 ⊢;have e0:(x.step s).1.line=0:=Classical.byContradiction fun q=>e2 (qf q)
      rw [<- c1,<- c2,<- d1,<- d2];exact ⟨kS.s1 Ly,fun q=>kS.s2 Ly Ly q⟩
     ·simp only;split <;> omega
   ·rw [qf p2];by_cases p3:f.part=3
    ·rw [qg p3];have hrd:=rd hc h L.K (f:=5) Ly Nt;rw [hrd];refine ⟨g,same,put g _ _ _ m.draws m.e _ same ?_,fun q=>mine m.draws m.e _ q (nom _ q ?_)⟩
     ·split
      ·exact ⟨hf.ld,fun _=>hl0,hf.s,hf.n,fun e=>by simp at e,fun e=>by simp at e,hf.p,hf.ls,fun y e=>⟨(hf.ss y e).1,fun e=>by simp at e⟩,fun _ _=>hf.sl p1 p2,hf.ps⟩
      ·rename_i e;rw [hcm];exact hf.splice hc h p1 p2 ⟨((h.ki.rp _ L.K).resolve_left e).1,((h.ki.rp _ L.K).resolve_left e).2,rfl⟩
     ·split
      ·simp
      ·simp [Fm.splice]
    ·rw [qf p3];by_cases p4:f.part=4
     ·rw [qg p4];cases hn:f.n with
      | none =>
       refine ⟨g,same,put g _ _ _ m.draws m.e _ same ⟨hf.ld,fun _=>hl0,hf.s,fun y e=>?_,fun e=>by simp only at e;omega,fun e=>by simp only at e;omega,hf.p,hf.ls,hf.ss,hf.sl,hf.ps⟩,fun q=>mine m.draws m.e _ q (nom _ q Mr)⟩;simp only [Option.some.injEq] at e;rw [<- e,hcm];exact ⟨NdI.new hc,q0o.new hc⟩
      | some x =>
       obtain ⟨k1,k2⟩:=hf.n x hn;obtain ⟨G,k3⟩:=k1.step hc h;have k4:=k2.step s;have hb:=hf.keep hc h G (fun q hq=>by have:=hq.1;omega);simp only;refine ⟨g,wk _ _ G,put g _ _ _ m.draws m.e _ G ?_,fun q=>mine m.draws m.e _ q ?_⟩
       ·split
        ·refine ⟨hb.ld,fun _=>hl0,hb.s,fun y e=>?_,fun _ y e=>?_,fun e=>by simp at e,hb.p,hb.ls,fun y e=>⟨(hb.ss y e).1,fun e=>by simp at e⟩,fun _ _=>hb.sl p1 p2,hb.ps⟩
         ·exact Hv
         ·simp only [Option.some.injEq] at e;rw [<- e,hcm];exact ⟨BdI.new hc L (by have h1:=k4.l;have h2:=k4.t8;omega),rfl,rfl⟩
        ·refine ⟨hb.ld,fun _=>hl0,hb.s,fun y e=>?_,fun e=>by simp only at e;omega,fun e=>by simp only at e;omega,hb.p,hb.ls,hb.ss,hb.sl,hb.ps⟩;exact Hv
       ·split
        ·rintro ⟨-,y,e,hq⟩;simp only [Option.some.injEq] at e;rw [<- e] at hq;have:=hq.1;simp [Bd.new] at this
        ·exact nom _ q Mr
     ·rw [qf p4];by_cases p5:f.part=5
      ·rw [qg p5];cases hb:f.b with
       | none=>exact all
       | some x =>
        obtain ⟨k1,k2,k2m⟩:=hf.b p5 x hb;obtain ⟨sl1,sl2⟩:=hf.sl p1 p2;obtain ⟨g',G,k3,k4⟩:=k1.step hc h hB (by rw [k2];exact sl1) (by rw [k2m];exact sl2);have hch:=Uc x s;have hcm2:=Rx x s;have hsl:1<=g'.M.F f.l.three.1 6/\(f.l.three.2.1≠0->1<=g'.M.F f.l.three.2.1 6):=⟨G.ext.st _ L.K sl1,fun q=>G.ext.st _ (L.m0'.resolve_left q) (sl2 q)⟩;have hls:=hf.ls.ext hc h hf.ld G.ext;have hss:∀ y,f.s=some y->SlS c g' y:=fun y e=>(hf.ss y e).1.ext (hf.s y e) G.ext
        have hps:∀ y,f.p=some y->SpS c g' y:=fun y e=>(hf.ps y e).ext hc h (hf.p y e) G.ext
        have bel:=below g' _ _ _ G;have hfl:=hf.ld.ext hc (fun a ha=>h.ki.pos hc ha) G.ext;have GG:Goes c g s.l g' (x.step s).2.l no2 (m.mineP c):=G.weak (fun _ _ k=>k) (fun q k=>⟨f,hfm,p5,x,hb,k⟩);simp only;refine ⟨g',GG,?_,fun q=>?_⟩
        ·by_cases e0:(x.step s).1.line=0
         ·rw [qg e0];by_cases e1:(x.step s).1.e=0
          ·rw [qg e1];have hr:=k3.r0 e0 e1;rw [hch,k2] at hr;refine put g' _ _ _ m.draws m.e _ G ?_;rw [hcm];have F0:FmI c g' (x.step s).2.l ({ f with part:=4,b:=some (x.step s).1 }:Fm):=⟨hfl,fun _=>hl0,fun y e=>(hf.s y e).ext G.ext,hf.n,fun e=>by simp at e,fun e=>by simp at e,fun y e=>(hf.p y e).ext G.ext,hls,fun y e=>⟨hss y e,fun e=>by simp at e⟩,fun _ _=>hsl,hps⟩;exact F0.splice hc G.ok Ma Ma hr
          ·rw [qf e1];exact ⟨hcm,fun y hy=>by simp at hy,fun y hy=>by simp at hy⟩
         ·rw [qf e0];refine put g' _ _ _ m.draws m.e _ G ⟨hfl,fun _=>hl0,fun y e=>(hf.s y e).ext G.ext,hf.n,fun _ y e=>?_,fun e=>by simp only at e;omega,fun y e=>(hf.p y e).ext G.ext,hls,fun y e=>⟨hss y e,fun e=>by simp only at e;omega⟩,fun _ _=>hsl,hps⟩;simp only [Option.some.injEq] at e;rw [<- e];exact ⟨k3,by simp only;rw [hch];exact k2,by simp only;rw [hcm2];exact k2m⟩
        ·by_cases e0:(x.step s).1.line=0
         ·rw [qg e0];by_cases e1:(x.step s).1.e=0
          ·rw [qg e1];exact mine m.draws m.e _ q (nom _ q (by simp [Fm.splice]))
          ·rw [qf e1];rintro ⟨y,hy,-⟩;simp at hy
         ·rw [qf e0];refine mine m.draws m.e _ q ?_;rintro ⟨-,y,e,hq⟩;simp only [Option.some.injEq] at e;rw [<- e] at hq;exact (k4 q hq).imp (fun k=>⟨p5,x,hb,k⟩) id
      ·rw [qf p5];by_cases p6:f.part=6
       ·rw [qg p6];cases hp:f.p with
        | none=>exact all
        | some x =>
         obtain ⟨g',G,k,kS⟩:=(hf.p x hp).step hc h (hf.ps x hp);have hb:=hf.keep hc h G (fun q hq=>by have:=hq.1;omega);have bel:=below g' _ _ _ G;simp only;refine ⟨g',wk _ _ G,?_,fun q=>?_⟩
         ·by_cases e0:(x.step s).1.line=0
          ·rw [qg e0];by_cases e1:(x.step s).1.stuck=0
           ·rw [qg e1];exact ⟨hcm,bel,fun y hy=>hx.low y (List.dropLast_subset _ hy)⟩
           ·rw [qf e1];have hst:=k.st.resolve_left e1;have F0:FmI c g' (x.step s).2.l (({ f with p:=some (x.step s).1 }:Fm)):=⟨hb.ld,fun _=>hl0,hb.s,hf.n,fun e=>absurd e p5,hb.r,fun y e=>Ol,hb.ls,hb.ss,hb.sl,fun y e=>Oj⟩;have F1:=F0.splice hc G.ok p1 p2 (hb.r p6);rw [hcm];refine ⟨rfl,fun y hy=>?_,fun y hy=>?_⟩
            ·simp only at hy;rcases List.mem_append.1 hy with hy | hy
             ·exact bel y hy
             ·simp only [List.mem_cons,List.not_mem_nil,or_false] at hy;rcases hy with rfl | rfl
              ·exact F1
              ·exact FmI.new hst (kS.sB.resolve_left e1) _
            ·simp only at hy;rw [List.dropLast_append_of_ne_nil Ma] at hy;simp only [List.dropLast_cons_cons,List.dropLast_singleton,List.mem_append,List.mem_singleton] at hy;rcases hy with hy | rfl
             ·exact hx.low y hy
             ·rfl
          ·rw [qf e0];exact put g' _ _ _ m.draws m.e _ G ⟨hb.ld,fun _=>hl0,hb.s,hf.n,fun e=>absurd e p5,hb.r,fun y e=>Ol,hb.ls,hb.ss,hb.sl,fun y e=>Oj⟩
         ·by_cases e0:(x.step s).1.line=0
          ·rw [qg e0];by_cases e1:(x.step s).1.stuck=0
           ·rw [qg e1];rintro ⟨y,hy,hq⟩;exact .inl ⟨y,List.dropLast_subset _ hy,hq⟩
           ·rw [qf e1];rintro ⟨y,hy,hq⟩;simp only at hy;rcases List.mem_append.1 hy with hy | hy
            ·exact .inl ⟨y,List.dropLast_subset _ hy,hq⟩
            ·simp only [List.mem_cons,List.not_mem_nil,or_false] at hy;rcases hy with rfl | rfl
             ·have:=hq.1;simp [Fm.splice] at this
             ·have:=hq.1;simp [Fm.new] at this
          ·rw [qf e0];exact mine m.draws m.e _ q (nom _ q p5)
       ·rw [qf p6];exact all
end
section
variable {c:Cf} {g:Gst} {l:List Int}
structure PtI (c:Cf) (g:Gst) (l:List Int) (x:Pt):Prop where
 cc:x.c=c
 key:0<=x.key/\x.key<=63
 wkey:x.w.key=x.key
 wi:x.m=none->x.x=none->WkI c g x.w
 xi:x.m=none->∀ y,x.x=some y->ClI c g y
 mi:∀ y,x.m=some y->MdI c g l y
 wb:x.m=none->x.x=none->WkB c (Bn g) (Bn g) x.w
def Pt.mineC (x:Pt):Int->Int->Prop:=fun a i=>x.m=none/\∃ y,x.x=some y/\y.mine a i
def Pt.mineP (c:Cf) (x:Pt):Int->Prop:=fun q=>∃ y,x.m=some y/\y.mineP c q
theorem PtI.new {key:Int} (hk:0<=key/\key<=63) (d:Int) (ds:List Int):PtI c g l (Pt.new c key d ds) :=
 ⟨rfl,hk,rfl,fun _ _=>WkI.new hk,fun _ y e=>Mq,fun y e=>Mq,fun _ _=>WkB.new _ _ _⟩
theorem PtI.keep (hc:c.Ok) (h:OkG c g l) {g':Gst} {l':List Int} {mc:Int->Int->Prop} {mp:Int->Prop} {x:Pt} (hx:PtI c g l x) (e:Goes c g l g' l' mc mp) (h1:∀ a i,x.mineC a i->¬ mc a i) (h2:∀ q,x.mineP c q->¬ mp q):PtI c g' l' x :=
 ⟨hx.cc,hx.key,hx.wkey,fun k1 k2=>(hx.wi k1 k2).ext e.ext (ko hc e.ok),fun k1 y k2=>(hx.xi k1 y k2).keep e (fun a i hm=>h1 a i ⟨k1,y,k2,hm⟩),fun y k=>(hx.mi y k).keep hc h e (fun q hq=>h2 q ⟨y,k,hq⟩),fun k1 k2=>(hx.wb k1 k2).more e.ext.bn e.ext.bn⟩
theorem OkG.hdB (hc:c.Ok) (h:OkG c g l):Bn g (g.M.hn / 2):=by obtain ⟨a,ha,e1,-⟩:=h.ki.hd;have:=h.p15 hc _ ha;have k:=h.bg.cl;rw [e1,show 2 * a / 2=a by omega] at k ⊢;left;exact Fe
theorem ClI.new {a key:Int} (ha:g.K a) (hb:Bn g a) (hk:g.M.F a 0<=key/\key<g.up a) (d:Int):ClI c g (Cl.new c a key d) :=
 ⟨rfl,ha,hk,fun k=>by simp [Cl.new] at k,fun k=>by simp [Cl.new] at k,fun k=>by simp [Cl.new] at k,by simp [Cl.new],hb⟩
theorem q17 (x:Wk) (s:St):(x.step s).1.key=x.key:=by
 unfold Wk.step;split
 ·unfold Wk.next Wk.head Wk.ends;(repeat' split) <;> rfl
 ·rfl
theorem PtI.step (hc:c.Ok) {s:St} (h:OkG c g s.l) (hT:g.M.top<=900000000) (hB:∀ a,g.K a->0<=g.M.F a 1/\g.M.F a 1<=900000000) {x:Pt} (hx:PtI c g s.l x) :
  ∃ g',Goes c g s.l g' (x.step s).2.l x.mineC (x.mineP c)/\PtI c g' (x.step s).2.l (x.step s).1/\(∀ a i,(x.step s).1.mineC a i->x.mineC a i\/(g.K a/\i=g.M.F a 1))/\∀ q,(x.step s).1.mineP c q->x.mineP c q\/g.M.top<=q:=by
 have same:=Goes.same h x.mineC (x.mineP c);have hcm:=hx.cc;unfold Pt.step;by_cases ho:x.over=true
 ·rw [qg ho];exact ⟨g,same,hx,fun a i k=>.inl k,fun q k=>.inl k⟩
 ·rw [qf ho];cases em:x.m with
  | some m =>
   simp only;obtain ⟨g',G,k,kq⟩:=(hx.mi m em).step hc h hT;have GG:Goes c g s.l g' (m.step s).2.l x.mineC (x.mineP c):=G.weak (fun _ _ k=>k.elim) (fun q k=>⟨m,em,k⟩);by_cases e0:(m.step s).1.f=[]
   ·rw [qg e0];refine ⟨g',GG,⟨hcm,hx.key,rfl,fun _ _=>?_,fun _ y e=>Mq,fun y e=>Mq,fun _ _=>(by simp only;rw [hcm];exact WkB.new _ _ _)⟩,fun a i k=>?_,fun q k=>?_⟩
    ·simp only;rw [hcm];exact WkI.new hx.key
    ·obtain ⟨-,y,e,-⟩:=k;cases e
    ·obtain ⟨y,e,-⟩:=k;cases e
   ·rw [qf e0];refine ⟨g',GG,⟨hcm,hx.key,hx.wkey,fun e=>Mq,fun e=>Mq,fun y e=>?_,fun e=>Mq⟩,fun a i k=>?_,fun q k=>?_⟩
    ·exact I8
    ·obtain ⟨e,-⟩:=k;cases e
    ·obtain ⟨y,e,hq⟩:=k;simp only [Option.some.injEq] at e;rw [<- e] at hq;exact (kq q hq).imp (fun k=>⟨m,em,k⟩) id
  | none =>
   simp only;have nop:∀ (m':Option Md) (q:Int),(∀ y,m'=some y->∀ q,¬ y.mineP c q)->(∃ y,m'=some y/\y.mineP c q)->x.mineP c q\/g.M.top<=q:=fun m' q k1 ⟨y,k2,k3⟩=>absurd k3 (k1 y k2 q)
   cases ex:x.x with
   | some cl =>
    simp only;obtain ⟨g',G,k,km⟩:=(hx.xi em cl ex).step hc h hB;have GG:Goes c g s.l g' (cl.step s).2.l x.mineC (x.mineP c):=G.weak (fun a i k=>⟨em,cl,ex,k⟩) (fun _ k=>k.elim)
    have kc:∀ y:Pt,y.x=some (cl.step s).1->∀ a i,y.mineC a i->x.mineC a i\/(g.K a/\i=g.M.F a 1):=fun y e a i ⟨_,z,e2,hz⟩=>by
     rw [e] at e2;simp only [Option.some.injEq] at e2;rw [<- e2] at hz;rcases km a i hz with q | ⟨-,q2,q3⟩
     ·exact .inl ⟨em,cl,ex,q⟩
     ·rw [q2] at q3 ⊢;exact .inr ⟨(hx.xi em cl ex).K,q3⟩
    refine ⟨g',GG,?_,fun a i=>?_,fun q=>?_⟩
    ·split
     ·split
      ·exact Bt
      ·refine ⟨hcm,hx.key,hx.wkey,fun e=>Mq,fun e=>Mq,fun y e=>?_,fun e=>Mq⟩;simp only [Option.some.injEq] at e;rw [<- e,hcm];exact MdI.new hc k.K k.B _
     ·exact Bt
    ·split
     ·split
      ·exact kc _ rfl a i
      ·exact fun k=>absurd k.1 Ma
     ·exact kc _ rfl a i
    ·split
     ·split
      ·exact Ck
      ·rintro ⟨y,e,f,hf,hq⟩;simp only [Option.some.injEq] at e;rw [<- e] at hf;unfold Md.new at hf;rw [List.mem_singleton.1 hf] at hq;have:=hq.1;simp [Fm.new] at this
     ·exact Ck
   | none =>
    have k:=(hx.wi em ex).step hc h;have kB:=WkB.step hc h (hx.wi em ex) (hx.wb em ex) h.bg.nx (h.hdB hc) h.bg.ht (fun y q _=>q);have ea:=Jd x.w s;have ek:=q17 x.w s;simp only;rw [ea];refine ⟨g,same,?_,fun a i=>?_,fun q=>?_⟩
    ·split
     ·rename_i e0;obtain ⟨k1,k2,k3⟩:=k.e0 e0;rw [ek,hx.wkey] at k2 k3;refine ⟨hcm,hx.key,ek.trans hx.wkey,fun _ e=>Mq,fun _ y e=>?_,fun y e=>Nc,fun _ e=>Mq⟩;simp only [Option.some.injEq] at e;rw [<- e,hcm];exact ClI.new k1 (kB.b0 e0) ⟨k2,k3⟩ _
     ·exact ⟨hcm,hx.key,ek.trans hx.wkey,fun _ _=>k,fun _ y e=>(by first | cases e | (simp only at e;rw [ex] at e;cases e) | (rw [ex] at e;cases e)),fun y e=>Nc,fun _ _=>kB⟩
    ·split
     ·rintro ⟨-,y,e,hm⟩;simp only [Option.some.injEq] at e;rw [<- e] at hm;have:=hm.1;simp [Cl.new] at this
     ·rintro ⟨-,y,e,hm⟩;first | cases e | (simp only at e;rw [ex] at e;cases e) | (rw [ex] at e;cases e)
    ·split
     ·exact Ck
     ·exact Ck
structure ThI (c:Cf) (g:Gst) (l:List Int) (x:Th):Prop where
 tp:∀ y,x.p=some y->PtI c g l y
 tg:∀ y,x.g=some y->GtI c g y
 ts:∀ y,x.s=some y->SnI c g y
def Th.mineC (x:Th):Int->Int->Prop:=fun a i=>∃ y,x.p=some y/\y.mineC a i
def Th.mineP (c:Cf) (x:Th):Int->Prop:=fun q=>∃ y,x.p=some y/\y.mineP c q
theorem ThI.keep (hc:c.Ok) (h:OkG c g l) {g':Gst} {l':List Int} {mc:Int->Int->Prop} {mp:Int->Prop} {x:Th} (hx:ThI c g l x) (e:Goes c g l g' l' mc mp) (h1:∀ a i,x.mineC a i->¬ mc a i) (h2:∀ q,x.mineP c q->¬ mp q):ThI c g' l' x :=
 ⟨fun y k=>(hx.tp y k).keep hc h e (fun a i hm=>h1 a i ⟨y,k,hm⟩) (fun q hq=>h2 q ⟨y,k,hq⟩),fun y k=>(hx.tg y k).ext e.ext (ko hc e.ok),fun y k=>(hx.ts y k).ext e.ext (ko hc e.ok)⟩
theorem ThI.mine_lt {x:Th} (hx:ThI c g l x) {a i:Int} (k:x.mineC a i):g.K a/\i<g.M.F a 1:=by obtain ⟨y,h1,h2,z,h3,h4,rfl,rfl⟩:=k;have h5:=(hx.tp y h1).xi h2 z h3;exact ⟨h5.K,(h5.own h4).2⟩
theorem ThI.mineP_lt {x:Th} (hx:ThI c g l x) {q:Int} (k:x.mineP c q):q<g.M.top:=by obtain ⟨y,h1,m,h2,f,h3,h4,b,h5,h6,h7⟩:=k;have k1:=(((hx.tp y h1).mi m h2).f f h3).b h4 b h5;obtain ⟨-,-,O⟩:=k1.1.w6 h6;have:=O.top;have:=h7.2;omega
structure MaI (N:Nat) (c:Cf) (l:List Int) (ts:List Th) (g:Gst):Prop where
 ok:OkG c g l
 ct:∀ a,g.K a->0<=g.M.F a 1/\g.M.F a 1<=16+N
 tp:g.M.top<=20000+3000 * N
 th:∀ (i:Nat) (x:Th),ts[i]? = some x->ThI c g l x
 dc:∀ (i j:Nat) (x y:Th),ts[i]? = some x->ts[j]? = some y->i≠j->∀ a k,x.mineC a k->¬ y.mineC a k
 dp:∀ (i j:Nat) (x y:Th),ts[i]? = some x->ts[j]? = some y->i≠j->∀ q,x.mineP c q->¬ y.mineP c q
theorem MaI.more {N:Nat} {ts:List Th} (h:MaI N c l ts g):MaI (N+1) c l ts g :=
 ⟨h.ok,fun a ha=>by have:=h.ct a ha;omega,by have:=h.tp;omega,h.th,h.dc,h.dp⟩
theorem MaI.turn {N:Nat} (hc:c.Ok) {ts:List Th} (h:MaI N c l ts g) {n:Nat} {x x':Th} (hx:ts[n]? = some x) {g':Gst} {l':List Int} (G:Goes c g l g' l' x.mineC (x.mineP c)) (hx':ThI c g' l' x') (k1:∀ a i,x'.mineC a i->x.mineC a i\/(g.K a/\i=g.M.F a 1)) (k2:∀ q,x'.mineP c q->x.mineP c q\/g.M.top<=q) :
  MaI (N+1) c l' (ts.set n x') g':=by
 have hnl:=(List.getElem?_eq_some_iff.1 hx).1
 have other:∀ (i:Nat) (y:Th),i≠n->(ts.set n x')[i]? = some y->ts[i]? = some y:=fun i y hi hy=>by rwa [List.getElem?_set_ne (fun e=>hi e.symm)] at hy
 have self:∀ (y:Th),(ts.set n x')[n]? = some y->y=x':=fun y hy=>by rw [List.getElem?_set_self hnl] at hy;cases hy;rfl
 have sepC:∀ (j:Nat) (y:Th),j≠n->ts[j]? = some y->∀ a k,x'.mineC a k->¬ y.mineC a k:=fun j y hj hy a k hk hy2=>by
  rcases k1 a k hk with q | ⟨q1,q2⟩
  ·exact h.dc n j x y hx hy (fun e=>hj e.symm) a k q hy2
  ·have:=((h.th j y hy).mine_lt hy2).2;omega
 have sepP:∀ (j:Nat) (y:Th),j≠n->ts[j]? = some y->∀ q,x'.mineP c q->¬ y.mineP c q:=fun j y hj hy q hq hy2=>by
  rcases k2 q hq with r | r
  ·exact h.dp n j x y hx hy (fun e=>hj e.symm) q r hy2
  ·have:=(h.th j y hy).mineP_lt hy2;omega
 refine ⟨G.ok,fun a ha=>?_,by have:=G.tu;have:=h.tp;omega,fun i y hy=>?_,fun i j y z hy hz hij a k k3 k4=>?_,fun i j y z hy hz hij q k3 k4=>?_⟩
 ·rcases G.cu a ha with ⟨q1,q2⟩ | q
  ·have:=h.ct a q1;have:=G.ext.ct a q1;omega
  ·omega
 ·by_cases hi:i=n
  ·subst hi;rw [self y hy];exact hx'
  ·have hy':=other i y hi hy;exact (h.th i y hy').keep hc h.ok G (fun a k k3 k4=>h.dc n i x y hx hy' (fun e=>hi e.symm) a k k4 k3) (fun q k3 k4=>h.dp n i x y hx hy' (fun e=>hi e.symm) q k4 k3)
 ·by_cases hi:i=n
  ·subst hi;rw [self y hy] at k3;exact sepC j z (fun e=>hij e.symm) (other j z (fun e=>hij e.symm) hz) a k k3 k4
  ·by_cases hj:j=n
   ·subst hj;rw [self z hz] at k4;exact sepC i y hi (other i y hi hy) a k k4 k3
   ·exact h.dc i j y z (other i y hi hy) (other j z hj hz) hij a k k3 k4
 ·by_cases hi:i=n
  ·subst hi;rw [self y hy] at k3;exact sepP j z (fun e=>hij e.symm) (other j z (fun e=>hij e.symm) hz) q k3 k4
  ·by_cases hj:j=n
   ·subst hj;rw [self z hz] at k4;exact sepP i y hi (other i y hi hy) q k4 k3
   ·exact h.dp i j y z (other i y hi hy) (other j z hj hz) hij q k3 k4
end
theorem qcf {N:Nat} {m:Mc} (h:MInv N m) {g:Gst} {l:List Int} {n:Nat} {x:Th} (hx:m.t[n]? = some x) (hn:x.next<((m.opsOf (n:Int)).length:Int)):ThI m.c g l (m.begun (n:Int))/\(∀ a i,¬ (m.begun (n:Int)).mineC a i)/\∀ q,¬ (m.begun (n:Int)).mineP m.c q:=by
 have ht:=h.th n x hx;have h0:=ht.n0;have hnl:=(List.getElem?_eq_some_iff.1 hx).1;have htl:=h.tl;have e:m.th (n:Int)=x:=by unfold Mc.th;rw [Int.toNat_natCast,List.getD_eq_getElem?_getD,hx];rfl
 have hk:=h.opk (n:Int) (q2b (l:=m.opsOf (n:Int)) (i:=x.next.toNat) (0,0,0,0) Ly)
 have newp:∀ (key d:Int) (ds:List Int) (y:Pt),0<=key/\key<=63->some (Pt.new m.c key d ds)=some y->PtI m.c g l y/\(∀ a i,¬ y.mineC a i)/\∀ q,¬ y.mineP m.c q:=fun key d ds y hk e=>by simp only [Option.some.injEq] at e;rw [<- e];exact ⟨PtI.new hk d ds,fun a i ⟨_,z,e,_⟩=>Mq,fun q ⟨z,e,_⟩=>Mq⟩
 unfold Mc.begun;rw [e];simp only;generalize (m.opsOf (n:Int)).getD x.next.toNat (0,0,0,0)=o at *;split
 ·exact Ct
 ·split
  ·exact Ct
  ·split
   ·exact ⟨⟨fun y e=>Mq,fun y e=>by simp only [Option.some.injEq] at e;rw [<- e];exact GtI.new hk,fun y e=>Mq⟩,fun a i ⟨y,e,k⟩=>Mq,fun q ⟨y,e,k⟩=>Mq⟩
   ·exact ⟨⟨fun y e=>Mq,fun y e=>Mq,fun y e=>by simp only [Option.some.injEq] at e;rw [<- e];exact SnI.new ⟨by omega,by omega⟩ hk⟩,fun a i ⟨y,e,k⟩=>Mq,fun q ⟨y,e,k⟩=>Mq⟩
theorem qbo {N N':Nat} {m:Mc} {g:Gst} (h:MaI N m.c m.a.l m.t g) (hI:MInv N' m) (hN:N<=200000) {n k:Nat} {x:Th} (hx:m.t[n]? = some x):∃ g',MaI (N+1) (m.steps (n:Int) k).c (m.steps (n:Int) k).a.l (m.steps (n:Int) k).t g'/\Ext m.c g g'/\(m.steps (n:Int) k).c=m.c:=by
 have e:m.th (n:Int)=x:=by unfold Mc.th;rw [Int.toNat_natCast,List.getD_eq_getElem?_getD,hx];rfl
 have hc:=hI.c;have hT:g.M.top<=900000000:=by have:=h.tp;omega
 have hB:∀ a,g.K a->0<=g.M.F a 1/\g.M.F a 1<=900000000:=fun a ha=>by have:=h.ct a ha;omega
 have ht:=h.th n x hx;unfold Mc.steps;simp only [e,Int.toNat_natCast];cases hp:x.p with
 | some p =>
  obtain ⟨g',G,k1,k2,k3⟩:=(ht.tp p hp).step hc h.ok hT hB;have GG:Goes m.c g m.a.l g' (p.step m.a).2.l x.mineC (x.mineP m.c):=G.weak (fun a i k=>⟨p,hp,k⟩) (fun q k=>⟨p,hp,k⟩);refine ⟨g',?_,G.ext,rfl⟩;refine h.turn hc hx GG ⟨fun y e=>?_,fun y e=>(ht.tg y e).ext G.ext (ko hc G.ok),fun y e=>(ht.ts y e).ext G.ext (ko hc G.ok)⟩ (fun a i=>?_) (fun q=>?_)
  ·exact Gw
  ·rintro ⟨y,e,hy⟩;simp only [Option.some.injEq] at e;rw [<- e] at hy;exact (k2 a i hy).imp (fun k=>⟨p,hp,k⟩) id
  ·rintro ⟨y,e,hy⟩;simp only [Option.some.injEq] at e;rw [<- e] at hy;exact (k3 q hy).imp (fun k=>⟨p,hp,k⟩) id
 | none =>
  have nop:∀ y:Th,y.p=x.p->(∀ a i,y.mineC a i->x.mineC a i\/(g.K a/\i=g.M.F a 1))/\∀ q,y.mineP m.c q->x.mineP m.c q\/g.M.top<=q:=fun y e =>
   ⟨fun a i ⟨z,e2,hz⟩=>.inl ⟨z,by rw [<- e];exact e2,hz⟩,fun q ⟨z,e2,hz⟩=>.inl ⟨z,by rw [<- e];exact e2,hz⟩⟩
  cases hg:x.g with
  | some y =>
   obtain ⟨g',G,k1⟩:=(ht.tg y hg).step hc h.ok;have GG:Goes m.c g m.a.l g' (y.step m.a).2.l x.mineC (x.mineP m.c):=G.weak (fun _ _ k=>k.elim) (fun _ k=>k.elim);refine ⟨g',?_,G.ext,rfl⟩;refine h.turn hc hx GG ⟨fun z e=>?_,fun z e=>?_,fun z e=>(ht.ts z e).ext G.ext (ko hc G.ok)⟩ (nop _ hp.symm).1 (nop _ hp.symm).2
   ·exact Gp
   ·exact Gw
  | none =>
   cases hs:x.s with
   | some y =>
    obtain ⟨g',G,k1⟩:=(ht.ts y hs).step hc h.ok;have GG:Goes m.c g m.a.l g' (y.step m.a).2.l x.mineC (x.mineP m.c):=G.weak (fun _ _ k=>k.elim) (fun _ k=>k.elim);refine ⟨g',?_,G.ext,rfl⟩;refine h.turn hc hx GG ⟨fun z e=>?_,fun z e=>?_,fun z e=>?_⟩ (nop _ hp.symm).1 (nop _ hp.symm).2
    ·exact Gp
    ·first | cases e | (simp only at e;rw [hg] at e;cases e) | (rw [hg] at e;cases e)
    ·exact Gw
   | none=>exact ⟨g,h.more,Ext.refl _ _,rfl⟩
theorem q8w (m:Mc):m.notes.c=m.c/\m.notes.a=m.a/\m.notes.t=m.t:=by
 unfold Mc.notes;simp only;split
 ·split
  ·simp only;split <;> exact ⟨rfl,rfl,rfl⟩
  ·exact Ii
 ·exact Ii
theorem qcx {N N':Nat} {m:Mc} {g:Gst} (h:MaI N m.c m.a.l m.t g) (hI:MInv N' m) (hN:N<=100000) (t:Int):∃ g',MaI (N+2) (m.pick t).c (m.pick t).a.l (m.pick t).t g'/\Ext m.c g g'/\(m.pick t).c=m.c:=by
 unfold Mc.pick;split
 ·exact ⟨g,h.more.more,Ext.refl _ _,rfl⟩
 ·rename_i ho;obtain ⟨n,x,rfl,hx,e,hb⟩:=U7 (by simpa using ho);simp only;have hnl:=(List.getElem?_eq_some_iff.1 hx).1
  have h1:MaI (N+1) (if (m.th (n:Int)).busy=true then m else m.begins (n:Int)).c (if (m.th (n:Int)).busy=true then m else m.begins (n:Int)).a.l (if (m.th (n:Int)).busy=true then m else m.begins (n:Int)).t g/\MInv (N'+1) (if (m.th (n:Int)).busy=true then m else m.begins (n:Int))/\(if (m.th (n:Int)).busy=true then m else m.begins (n:Int)).c=m.c/\n<(if (m.th (n:Int)).busy=true then m else m.begins (n:Int)).t.length:=by
   split
   ·exact ⟨h.more,hI.more,rfl,hnl⟩
   ·rename_i hb';rw [e] at hb';have hn:=hb (by simpa using hb');obtain ⟨b1,b2,b3⟩:=qcf (g:=g) (l:=m.a.l) hI hx hn;refine ⟨?_,hI.begins hx hn,rfl,by simp [Mc.begins];exact hnl⟩;unfold Mc.begins;simp only [Int.toNat_natCast];exact h.turn hI.c hx (Goes.same h.ok _ _) b1 (fun a i k=>absurd k (b2 a i)) (fun q k=>absurd k (b3 q))
  generalize (if (m.th (n:Int)).busy=true then m else m.begins (n:Int))=m1 at *;obtain ⟨h1,hI1,hc1,hnl1⟩:=h1;split
  ·rename_i k hk;obtain ⟨g',h2,e2,hc2⟩:=qbo h1 hI1 Ly (k:=k) (List.getElem?_eq_getElem hnl1);generalize m1.steps (n:Int) k=m2 at *;obtain ⟨n1,n2,n3⟩:=q8w m2;refine ⟨g',?_,by rw [<- hc1];exact e2,?_⟩
   ·split
    ·simp only;rw [n1,n2,n3];exact h2
    ·exact h2
   ·split
    ·simp only;rw [n1];exact hc2.trans hc1
    ·exact hc2.trans hc1
  ·exact ⟨g,h1.more,Ext.refl _ _,hc1⟩
def g0 (c:Cf):Gst:=⟨fun a=>a=jk c,fun _=>64,⟨fun _ _=>0,2 * jk c,fun _=>0,topP c⟩,[jk c]⟩
theorem Qw {c:Cf} (hc:c.Ok) {p:Int} (h0:0<=p) (h1:p<c.wd):qx (Pl.begun c.t c.c c.wd).l p=Pl.Qs c.t c.c p:=by obtain ⟨k,rfl⟩:=Int.eq_ofNat_of_zero_le h0;obtain ⟨n,hn⟩:=Int.eq_ofNat_of_zero_le (show 0<=c.wd by omega);have h:=hc.top;have:=Pl.q4j (t:=c.t) (c:=c.c) (n:=n) k hc.t1 hc.t8 (by have:=hc.c2;have:=hc.t1;omega) Ly Ly;rw [<- hn] at this;exact this
theorem qdq {c:Cf} (hc:c.Ok):MaI 0 c (Pl.begun c.t c.c c.wd).l (List.replicate c.t.toNat Th.new) (g0 c):=by
 have ht:=hc.t1;have ht8:=hc.t8;have htop:=hc.top;have hc2:=hc.c2
 have hlen:((Pl.begun c.t c.c c.wd).l.length:Int)=c.wd:=by rw [(Pl.Jr (wd:=c.wd) hc.t1 hc.t8 Ly hc.top).1];omega
 have hf:Al c (jk c):=⟨0,by simp⟩;have hsz:z8 c=7+3 * c.c:=rfl;have hfp:jk c=14+c.t:=rfl;have htp:topP c=21+c.t+3 * c.c:=rfl
 have hth:∀ (i:Nat) (x:Th),(List.replicate c.t.toNat Th.new)[i]? = some x->x=Th.new:=fun i x hx=>by
  rw [List.getElem?_replicate] at hx;split at hx
  ·cases hx;rfl
  ·cases hx
 have bg0:Bg c (g0 c):=⟨⟨by show 2 * jk c / 2=jk c;omega,by show (0:Int) / 2=0;omega⟩,fun x hx=>by simpa [g0] using hx,fun x hx=>.inl (by show (0:Int) / 2=0;omega),fun k _ _=>.inl rfl,fun x hx hn=>absurd rfl hn,fun x hx hn=>absurd rfl hn,fun x hx hn=>by
  rcases hx with k | ⟨k1,k2,k3⟩
  ·exact absurd k hn
  ·have:(0:Int) % 2=1:=k2
   omega⟩
 refine ⟨⟨⟨fun a ha=>?_,⟨1,?_⟩,⟨jk c,rfl,rfl,rfl⟩,fun a ha=>⟨Int.le_refl _,by simp [g0],by simp [g0]⟩,fun a ha=>.inl ⟨by simp [g0],rfl⟩,fun a ha=>.inl rfl,fun a ha=>.inl rfl,fun a ha=>.inl rfl,fun k _ _=>.inl rfl,fun a i ha _ _ k=>by simp [g0] at k,fun a i ha _ _ _=>.inl rfl⟩,⟨hlen,fun a ha f f0 f1=>?_,?_,fun k k0 k1=>?_,?_,fun p hp=>?_⟩,bg0⟩,fun a ha=>by simp [g0],by simp only [g0];have:=hc.w2;omega,fun i x hx=>?_,fun i j x y hx hy _ a k k1=>?_,fun i j x y hx hy _ q k1=>?_⟩
 ·obtain rfl:a=jk c:=ha;exact ⟨hf,by omega,by simp only [g0];omega⟩
 ·simp only [g0];omega
 ·obtain rfl:a=jk c:=ha;exact Fh
 ·rw [Qw hc Mw Mw];unfold Pl.Qs zq;rw [qf Ly,qf Ly,qg Ly];rfl
 ·exact Fh
 ·rw [Qw hc Ly Ly];rfl
 ·simp only [g0] at hp;by_cases h:p<c.wd
  ·rw [Qw hc Ly h];unfold Pl.Qs;rw [qf Ly,qf Ly,qf Ly]
  ·exact q9l (.inr Ly)
 ·rw [hth i x hx];exact ⟨fun y e=>Mq,fun y e=>Mq,fun y e=>Mq⟩
 ·exact I9
 ·exact I9
theorem qcz {c:Cf} (hc:c.Ok):∀ (ps:List Int) (N N':Nat) (m:Mc) (g:Gst),m.c=c->MaI N c m.a.l m.t g->MInv N' m->N+2 * ps.length<=100000->∃ g',MaI (N+2 * ps.length) c (ps.foldl Mc.pick m).a.l (ps.foldl Mc.pick m).t g'/\Ext c g g'/\(ps.foldl Mc.pick m).c=c
 | [],N,N',m,g,e,h,hI,hN=>⟨g,h,Ext.refl _ _,e⟩
 | p :: ps,N,N',m,g,e,h,hI,hN=>by
  rw [List.length_cons] at hN;obtain ⟨g1,h1,x1,c1⟩:=qcx (by rw [e];exact h) hI Ly p;rw [c1,e] at h1;rw [e] at x1;obtain ⟨g2,h2,x2,c2⟩:=qcz hc ps (N+2) (N'+4) (m.pick p) g1 (c1.trans e) h1 (hI.pick p) Ly;rw [List.foldl_cons,List.length_cons,show N+2 * (ps.length+1)=N+2+2 * ps.length by omega];exact ⟨g2,h2,x1.trans x2,c2⟩
theorem qad {c:Cf} {rs:List (List O)} (ds:List Int) (hc:c.Ok) (hI:MInv 1 (Mc.new c rs ds)) (ps:List Int) (hp:ps.length<=40000):∃ g,MaI (2 * ps.length) c (q4q c rs ds ps).a.l (q4q c rs ds ps).t g/\(q4q c rs ds ps).c=c:=by obtain ⟨g,h,-,e⟩:=qcz hc ps 0 1 (Mc.new c rs ds) (g0 c) rfl (qdq hc) hI Ly;rw [Nat.zero_add] at h;exact ⟨g,h,e⟩
end Go.Proofs.YtbddhncgemeohaaGreatDoor.Mx
namespace Go.Proofs.YtbddhncgemeohaaGreatDoor.Mx
open Go.RowKit Ar Ref Og Mp Vw Ch
def Pth (g:Gst):Int->List Int->Prop
 | a,[]=>a=0
 | a,x :: r=>a=x/\g.K x/\Pth g (g.M.F x 2 / 2) r/\(∀ y,r.head? = some y->g.M.F y 0=g.up x)/\(r=[]->g.up x=64)
section
variable {c:Cf} {g:Gst} {l:List Int}
theorem qa9 (hc:c.Ok) (h:OkG c g l):∀ (n:Nat) (a:Int),g.K a->64 - g.M.F a 0<=n->∃ r,Pth g a (a :: r)
 | 0,a,ha,hn=>by have:=h.ki.mn a ha;omega
 | n+1,a,ha,hn=>by
  have hm:=h.ki.mn a ha;rcases h.ki.nx a ha with ⟨e1,e2⟩ | ⟨e1,e2⟩
  ·exact ⟨[],rfl,ha,e1,fun y k=>by simp at k,fun _=>e2⟩
  ·obtain ⟨r,hr⟩:=qa9 hc h n _ e1 Ly;exact ⟨_,rfl,ha,hr,fun y k=>by simp at k;rw [<- k];exact e2,fun k=>by simp at k⟩
theorem Pth.mem {a:Int} {L:List Int} (h:Pth g a L):∀ x∈L,g.K x:=by
 induction L generalizing a with
 | nil=>simp
 | cons y r ih =>
  intro x hx;obtain ⟨-,k,p,-⟩:=h;rcases List.mem_cons.1 hx with rfl | hx
  ·exact k
  ·exact ih p x hx
theorem Pth.above (hc:c.Ok) (h:OkG c g l) {a:Int} {L:List Int} (p:Pth g a L):∀ m,(∀ y,L.head? = some y->m<=g.M.F y 0)->∀ x∈L,m<=g.M.F x 0:=by
 induction L generalizing a with
 | nil=>simp
 | cons y r ih =>
  intro m hm x hx;obtain ⟨-,k,p,q,-⟩:=p;have h1:=hm y rfl;rcases List.mem_cons.1 hx with rfl | hx
  ·exact h1
  ·have h2:=h.ki.mn y k;exact ih p m (fun z hz=>by rw [q z hz];omega) x hx
theorem Pth.rise (hc:c.Ok) (h:OkG c g l) {a:Int} {L:List Int} (p:Pth g a L):L.Pairwise fun x y=>g.up x<=g.M.F y 0:=by
 induction L generalizing a with
 | nil=>exact List.Pairwise.nil
 | cons y r ih =>
  obtain ⟨-,k,p,q,-⟩:=p;exact List.pairwise_cons.2 ⟨fun x hx=>p.above hc h (g.up y) (fun z hz=>by rw [q z hz];exact Int.le_refl _) x hx,ih p⟩
theorem Pth.apart (hc:c.Ok) (h:OkG c g l) {a:Int} {L:List Int} (p:Pth g a L):L.Pairwise fun x y=>x≠y:=by refine (p.rise hc h).imp_of_mem (fun {x y} hx hy k e=>?_);subst e;have:=h.ki.mn x (p.mem x hx);omega
theorem Pth.next {a:Int} {L:List Int} (p:Pth g a L) {i:Nat} {x:Int} (hx:L[i]? = some x):(∀ y,L[i+1]? = some y->g.M.F x 2 / 2=y/\g.M.F y 0=g.up x)/\(L[i+1]? = none->g.M.F x 2 / 2=0/\g.up x=64):=by
 induction L generalizing a i with
 | nil=>simp at hx
 | cons z r ih =>
  obtain ⟨-,k,p,q,q2⟩:=p;cases i with
  | zero =>
   obtain rfl:z=x:=by simpa using hx
   refine ⟨fun y hy=>?_,fun hn=>?_⟩
   ·have:r.head? = some y:=by rw [List.head?_eq_getElem?];simpa using hy
    refine ⟨?_,q y this⟩;cases r with
    | nil=>simp at this
    | cons w r =>
     have e:w=y:=by simpa using this
     rw [<- e];exact p.1
   ·have:r=[]:=by cases r with | nil=>rfl | cons w r=>simp at hn
    subst this;exact ⟨p,q2 rfl⟩
  | succ i=>exact ih p (by simpa using hx)
theorem R6 (hc:c.Ok) (h:OkG c g l) {n:Nat} (hn:c.c=(n:Int)) {a:Int} (ha:g.K a):Zh l.length n a=true:=by have h1:=Rel.low hc h ha;have h2:=h.rel.len;have:=hc.t1;have:z8 c=7+3 * c.c:=rfl;unfold Zh;simp only [Bool.and_eq_true,decide_eq_true_eq];omega
structure Chn (c:Cf) (g:Gst) (l:List Int) (L:List Int):Prop where
 p:Pth g (g.M.hn / 2) L
 ne:L≠[]
 first:∀ x,L[0]? = some x->g.M.F x 0=0
theorem qal (hc:c.Ok) (h:OkG c g l):∃ L,Chn c g l L:=by obtain ⟨a,ha,e1,e2⟩:=h.ki.hd;obtain ⟨r,hr⟩:=qa9 hc h 64 a ha Ly;refine ⟨a :: r,?_,by simp,fun x hx=>by simp at hx;rw [<- hx];exact e2⟩;rw [e1,show 2 * a / 2=a by omega];exact hr
theorem Chn.len (hc:c.Ok) (h:OkG c g l) {L:List Int} (C:Chn c g l L) {n:Nat} (hn:c.c=(n:Int)):L.length<=l.length:=by
 refine Jt l.length L ?_ (fun x hx=>?_)
 ·exact C.p.apart hc h
 ·have:=R6 hc h hn (C.p.mem x hx);have:=qdy this;have h2:=hc.c2;have:=hc.t1;omega
def keyOf (g:Gst) (L:List Int) (key z:Int):Int:=L.foldl (fun at_ x=>if g.M.F x 0<=key then x else at_) z
theorem Wn {key:Int}:∀ {L:List Int} {z:Int},(∀ x∈L,key<g.M.F x 0)->keyOf g L key z=z
 | [],_,_=>rfl
 | x :: r,z,h=>by
  have:=h x Ma;show keyOf g r key (if g.M.F x 0<=key then x else z)=z;rw [qf Ly];exact Wn (fun y hy=>h y A01)
theorem q29 (hc:c.Ok) (h:OkG c g l) {key:Int} (h1:key<64):∀ {L:List Int} {a z:Int},Pth g a L->(∀ y,L.head? = some y->g.M.F y 0<=key)->L≠[]->keyOf g L key z∈L/\g.M.F (keyOf g L key z) 0<=key/\key<g.up (keyOf g L key z)
 | [],_,_,_,_,ne=>absurd rfl ne
 | x :: r,a,z,p,hh,_=>by
  have hx:=hh x rfl;obtain ⟨-,kx,p,q,q2⟩:=p
  have e0:keyOf g (x :: r) key z=keyOf g r key x:=by show keyOf g r key (if g.M.F x 0<=key then x else z)=_;rw [qg hx]
  rw [e0];by_cases hk:key<g.up x
  ·have e:keyOf g r key x=x:=Wn (fun y hy=>by
    have:=p.above hc h (g.up x) (fun w hw=>by rw [q w hw];exact Int.le_refl _) y hy
    omega)
   rw [e];exact ⟨by simp,hx,hk⟩
  ·have hr:r≠[]:=fun e=>by have:=q2 e;omega
   obtain ⟨k1,k2,k3⟩:=q29 hc h h1 (z:=x) p (fun y hy=>by rw [q y hy];omega) hr;exact ⟨by simp [k1],k2,k3⟩
theorem q6p (hc:c.Ok) (h:OkG c g l) {L:List Int} {a key x y:Int} (p:Pth g a L) (hx:x∈L) (hy:y∈L) (h1:g.M.F x 0<=key/\key<g.up x) (h2:g.M.F y 0<=key/\key<g.up y):x=y:=by
 have hp:=p.rise hc h;obtain ⟨i,hi,rfl⟩:=List.mem_iff_getElem.1 hx;obtain ⟨j,hj,rfl⟩:=List.mem_iff_getElem.1 hy;have hpg:=List.pairwise_iff_getElem.1 hp;rcases Nat.lt_trichotomy i j with k | k | k
 ·have:=hpg i j hi hj k;omega
 ·subst k;rfl
 ·have:=hpg j i hj hi k;omega
theorem Chn.of (hc:c.Ok) (h:OkG c g l) {L:List Int} (C:Chn c g l L) {key:Int} (h0:0<=key) (h1:key<64):keyOf g L key 0∈L/\g.M.F (keyOf g L key 0) 0<=key/\key<g.up (keyOf g L key 0) :=
 q29 hc h h1 C.p (fun y hy=>by rw [C.first y (by rw [<- List.head?_eq_getElem?];exact hy)];exact h0) C.ne
end
end Go.Proofs.YtbddhncgemeohaaGreatDoor.Mx
