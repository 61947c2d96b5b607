/- Parts. -/
import Derived.Test.YtleclbldlladmaaGreatVaw
import Derived.Test.YtleclbldlladmaaGreatVay
set_option linter.unusedVariables false
set_option linter.unusedSimpArgs false
set_option maxRecDepth 100000
set_option maxHeartbeats 12800000
namespace Go.Proofs.YtleclbldlladmaaGreat.Mx
open Go.RowKit Ar Ref Og Mp
def laid (w:List (Int×Int)) (v p:Int):Int:=w.foldl (fun v q=>if q.1=p then q.2 else v) v
theorem q2j (a b:List (Int×Int)) (v p:Int):laid (a++b) v p=laid b (laid a v p) p:=List.foldl_append
theorem Qf (q:Int×Int) (b:List (Int×Int)) (v p:Int):laid (q :: b) v p=laid b (if q.1=p then q.2 else v) p:=rfl
theorem Qi {p:Int}:∀ {w:List (Int×Int)} {v:Int},(∀ q∈w,q.1≠p)->laid w v p=v
 | [],_,_=>rfl
 | q :: w,v,h=>by
  rw [Qf,qd (h q Lc)];exact Qi (fun r hr=>h r (by simp [hr]))
def nkF (n:Nk) (f:Int):Int :=
 if f=0 then n.mn else if f=1 then n.ct else if f=2 then n.nx else if f<7 then 0 else
 match n.its[((f - 7) / 3).toNat]? with
 | none=>0
 | some y=>if (f - 7) % 3=0 then vu y.v else if (f - 7) % 3=1 then y.k else y.d
theorem Z6 {a:Int} (h0:0<=a) (h1:a<=40000):∀ {l:List It} {k:Nat},k+l.length<=16->∀ q∈yc a k l,a+7+3 * k<=q.1/\q.1<a+7+3 * (k+l.length)
 | [],_,_,q,hq=>by simp [yc] at hq
 | y :: r,k,hk,q,hq=>by
  rw [List.length_cons] at hk ⊢;have e:Qo a k=a+7+3 * k:=by unfold Qo;exact Zu Lb Lb
  unfold yc at hq;rw [e,Zu Lb Lb,Zu Lb Lb] at hq;simp only [List.mem_cons] at hq;rcases hq with rfl | rfl | rfl | hq
  ·simp only;omega
  ·simp only;omega
  ·simp only;omega
  ·have:=Z6 h0 h1 (l:=r) (k:=k+1) Lb q hq;omega
theorem q60 {a:Int} (h0:0<=a) (h1:a<=40000):∀ {l:List It} {k i:Nat} {y:It} {o v:Int},k+l.length<=16->l[i]? = some y->0<=o->o<3->laid (yc a k l) v (a+(7+3 * (k+i)+o))=if o=0 then vu y.v else if o=1 then y.k else y.d
 | [],_,_,_,_,_,_,h,_,_=>by simp at h
 | z :: r,k,i,y,o,v,hk,hy,o0,o1=>by
  rw [List.length_cons] at hk;have e:Qo a k=a+7+3 * k:=by unfold Qo;exact Zu Lb Lb
  unfold yc;rw [e,Zu Lb Lb,Zu Lb Lb,Qf,Qf,Qf];cases i with
  | zero =>
   obtain rfl:z=y:=by simpa using hy
   rw [Qi (fun q hq=>by have:=(Z6 h0 h1 Lb q hq).1;omega)];simp only;repeat' split
   all_goals first | rfl | omega
  | succ i =>
   have:=q60 h0 h1 (l:=r) (k:=k+1) (i:=i) (y:=y) (o:=o) (v:=if a+7+3 * (k:Int)+2=a+(7+3 * (k+((i+1:Nat):Int))+o) then z.d else if a+7+3 * (k:Int)+1=a+(7+3 * (k+((i+1:Nat):Int))+o) then z.k else if a+7+3 * (k:Int)=a+(7+3 * (k+((i+1:Nat):Int))+o) then vu z.v else v) Lb (by simpa using hy) o0 o1;rw [<- this];congr 1;omega
theorem Tm {n:Nk} (h0:0<=n.at_) (h1:n.at_<=40000) {cap:Int} (hc:(n.its.length:Int)<=cap) (h16:cap<=16):∀ q∈Qy n,n.at_<=q.1/\q.1<n.at_+(7+3 * cap):=by
 intro q hq;unfold Qy at hq;rw [Zu Lb Lb,Zu Lb Lb,Zu Lb Lb] at hq;simp only [List.mem_cons] at hq;rcases hq with rfl | rfl | rfl | hq
 ·simp only;omega
 ·simp only;omega
 ·simp only;omega
 ·have:=Z6 h0 h1 Lb q hq;omega
theorem qby {n:Nk} (h0:0<=n.at_) (h1:n.at_<=40000) (hl:n.its.length<=16) {f:Int} (f0:0<=f):laid (Qy n) 0 (n.at_+f)=nkF n f:=by
 unfold Qy;rw [Zu Lb Lb,Zu Lb Lb,Zu Lb Lb,Qf,Qf,Qf];unfold nkF;by_cases c0:f=0
 ·rw [qf c0,Qi (fun q hq=>by have:=(Z6 h0 h1 Lb q hq).1;omega),qd Lb,qd Lb,qf Lb]
 rw [qd c0];by_cases c1:f=1
 ·rw [qf c1,Qi (fun q hq=>by have:=(Z6 h0 h1 Lb q hq).1;omega),qd Lb,qf Lb]
 rw [qd c1];by_cases c2:f=2
 ·rw [qf c2,Qi (fun q hq=>by have:=(Z6 h0 h1 Lb q hq).1;omega),qf Lb]
 rw [qd c2,qd (show ¬ n.at_+2=n.at_+f by omega),qd (show ¬ n.at_+1=n.at_+f by omega),qd (show ¬ n.at_=n.at_+f by omega)];by_cases c7:f<7
 ·rw [qf c7,Qi (fun q hq=>by have:=(Z6 h0 h1 Lb q hq).1;omega)]
 rw [qd c7];cases hy:n.its[((f - 7) / 3).toNat]? with
 | none =>
  have:=List.getElem?_eq_none_iff.1 hy;rw [Qi (fun q hq=>by have:=(Z6 h0 h1 Lb q hq).2;omega)]
 | some y =>
  have:=q60 h0 h1 (k:=0) (v:=0) (o:=(f - 7) % 3) Lb hy Lb Lb;rw [show n.at_+(7+3 * (((0:Nat):Int)+(((f - 7) / 3).toNat:Int))+(f - 7) % 3)=n.at_+f by omega] at this;exact this
theorem U0 {S cap:Int} (hS:S=7+3 * cap) (h16:cap<=16) (hcap:0<=cap):∀ {ns:List Nk} {j:Nat} {n:Nk} {a v f:Int},0<=a->a+S * ns.length<=40000 ->
  (∀ (i:Nat) (m:Nk),ns[i]? = some m->m.at_=a+S * i/\(m.its.length:Int)<=cap)->ns[j]? = some n->0<=f->f<S->v=0->laid (yg ns) v (n.at_+f)=nkF n f
 | [],_,_,_,_,_,_,_,_,hj,_,_,_=>by simp at hj
 | m :: r,j,n,a,v,f,ha,hb,hm,hj,f0,f1,hv=>by
  have hl:S * (((m :: r).length:Nat):Int)=S * (r.length:Int)+S:=by rw [List.length_cons,Int.natCast_add,Int.mul_add];simp
  have hr0:0<=S * (r.length:Int):=Int.mul_nonneg Lb Lb;rw [hl] at hb;have hm0:=hm 0 m rfl;have e0:m.at_=a:=by rw [hm0.1];simp
  have hrest:∀ (i:Nat) (k:Nk),r[i]? = some k->k.at_=a+S+S * i/\(k.its.length:Int)<=cap:=fun i k hk=>by have:=hm (i+1) k Mi;rw [Int.natCast_add,Int.mul_add] at this;exact ⟨by rw [this.1];simp;omega,this.2⟩
  show laid (Qy m++yg r) v (n.at_+f)=_;rw [q2j];cases j with
  | zero =>
   obtain rfl:m=n:=by simpa using hj
   rw [hv,qby Lb Lb Lb f0];refine Qi (fun q hq=>?_);unfold yg at hq;rw [List.mem_flatMap] at hq;obtain ⟨k,hk,hq⟩:=hq;obtain ⟨i,hi⟩:=List.getElem?_of_mem hk;obtain ⟨k1,k2⟩:=hrest i k hi;have hil:=(List.getElem?_eq_some_iff.1 hi).1;have h1:0<=S * (i:Int):=Int.mul_nonneg Lb Lb;have h2:S * (i:Int)<=S * (r.length:Int):=Int.mul_le_mul_of_nonneg_left Lb Lb;have:=(Tm Lb Lb k2 h16 q hq).1;omega
  | succ j =>
   have hj':r[j]? = some n:=by simpa using hj
   obtain ⟨k1,k2⟩:=hrest j n hj';have h1:0<=S * (j:Int):=Int.mul_nonneg Lb Lb;refine U0 hS h16 hcap (ns:=r) (j:=j) (n:=n) (a:=a+S) Lb Lb hrest hj' f0 f1 ?_;rw [hv];refine Qi (fun q hq=>?_);have:=(Tm Lb Lb hm0.2 h16 q hq).2;omega
theorem q4d {s:List It} (cells lo up:Int) (h:Srt s) (hl:∀ x∈s,lo<=x.k/\x.k<up) (hlu:lo<up) {i:Nat} {a:List It} {m:Int} (ha:(xy s cells)[i]? = some a) (hm:(xg lo (xy s cells))[i]? = some m) :
  lo<=m/\m<up/\(∀ x∈a,m<=x.k/\x.k<up)/\∀ m',(xg lo (xy s cells))[i+1]? = some m'->m<m'/\m'<up/\∀ x∈a,x.k<m':=by
 have mem:∀ {j:Nat} {b:List It} {x:It},(xy s cells)[j]? = some b->x∈b->x∈s:=fun hb hx=>by rw [<- Yi cells h];exact List.mem_flatten.2 ⟨_,List.mem_of_getElem? hb,hx⟩
 have hme:lo<=m/\m<up/\∀ x∈a,m<=x.k:=by
  cases i with
  | zero =>
   rw [Ki lo (fun e=>by rw [e] at ha;simp at ha)] at hm;obtain rfl:=qi hm;exact ⟨Int.le_refl _,hlu,fun x hx=>(hl x (mem ha hx)).1⟩
  | succ i =>
   rw [Kg lo ha] at hm
   have hs:s≠[]:=fun e=>by subst e;have:(xy ([]:List It) cells).length=1:=rfl;have:=(List.getElem?_eq_some_iff.1 ha).1;omega
   have hfa:=Yl cells h hs a (List.mem_of_getElem? ha);obtain ⟨y,b,rfl⟩:=List.exists_cons_of_ne_nil hfa;obtain rfl:=qi hm;have hy:=hl y (mem ha Lc);refine ⟨hy.1,hy.2,fun x hx=>?_⟩
   have hsub:(y :: b).Sublist s:=by have h1:(y :: b).Sublist (xy s cells).flatten:=List.sublist_flatten_of_mem (List.mem_of_getElem? ha);rwa [Yi cells h] at h1
   have hb:=q1m h hsub;show y.k<=x.k;rcases List.mem_cons.1 hx with rfl | hx
   ·exact Int.le_refl _
   ·have:=(Vl.1 hb).1 x hx;unfold leT at this;omega
 refine ⟨hme.1,hme.2.1,fun x hx=>⟨hme.2.2 x hx,(hl x (mem ha hx)).2⟩,fun m' hm'=>?_⟩
 have hil:i+1<(xy s cells).length:=by
  have h1:=(List.getElem?_eq_some_iff.1 hm').1
  have:(xg lo (xy s cells)).length=(xy s cells).length:=by
   unfold xg;split
   ·rename_i e;rw [e];rfl
   ·rename_i e;rw [e];simp
  omega
 have hb:(xy s cells)[i+1]? = some (xy s cells)[i+1]:=List.getElem?_eq_getElem hil;obtain ⟨x,y,e1,e2,e3,e4⟩:=q6e cells lo h (fun x hx=>(hl x hx).1) ha hb hm;rw [hm'] at e3;obtain rfl:=qi e3;have hy:y∈(xy s cells)[i+1]:=List.mem_of_mem_head? (by rw [e2];simp);exact ⟨e4,(hl y (mem hb hy)).2,fun z hz=>Wo cells h (Nat.lt_succ_self i) ha hb z hz y hy⟩
theorem q2a (lo:Int) (gs:List (List It)):(xg lo gs).length=gs.length:=by
 unfold xg;split
 ·rfl
 ·simp
noncomputable def q9a (P:Prop) (x y:Int):Int:=@ite Int P (Classical.propDecidable P) x y
theorem Uv {P:Prop} (h:P) (x y:Int):q9a P x y=x:=qf h
theorem q1p {P:Prop} (h:¬ P) (x y:Int):q9a P x y=y:=qd h
section
variable {c:Cf} {g:Gst} {l:List Int}
def Qz (g:Gst) (a m:Int):Int:=g.up (if m=0 then a else m)
structure Own (c:Cf) (g:Gst) (l:List Int) (at_:Int) (n:Nat) (w:List (Int×Int)) (i:Nat):Prop where
 al:Al c at_
 top:at_+z6 c * (n:Int)<=g.M.top
 wd:at_+z6 c * (n:Int)<=c.wd
 nk:∀ p,at_<=p->p<at_+z6 c * (n:Int)->(∀ a,g.K a->¬ (a<=p/\p<a+z6 c))/\qw l p=laid (w.take i) 0 p
def Re (c:Cf) (at_:Int) (n:Nat):Int->Prop:=fun q=>at_<=q/\q<at_+z6 c * (n:Int)
theorem q9z {n:Nk} {i:Int} (h:0<=i):nkF n (7+3 * i)=match n.its[i.toNat]? with | none=>0 | some y=>vu y.v:=by
 unfold nkF;rw [qd Lb,qd Lb,qd Lb,qd Lb,show (7+3 * i - 7) / 3=i by omega];cases n.its[i.toNat]? with
 | none=>rfl
 | some y=>simp only;rw [qf Lb]
theorem qav {n:Nk} {i:Int} (h:0<=i):nkF n (8+3 * i)=match n.its[i.toNat]? with | none=>0 | some y=>y.k:=by
 unfold nkF;rw [qd Lb,qd Lb,qd Lb,qd Lb,show (8+3 * i - 7) / 3=i by omega];cases n.its[i.toNat]? with
 | none=>rfl
 | some y=>simp only;rw [qd Lb,qf Lb]
noncomputable def Gst.grown (c:Cf) (g:Gst) (l:List Int) (at_:Int) (n:Nat) (ms:List Int) (hi:Int):Gst where
 K:=fun b=>g.K b\/∃ j:Nat,j<n/\b=at_+z6 c * (j:Int)
 up:=fun b=>q9a (g.K b) (g.up b) (ms.getD (((b - at_) / z6 c).toNat+1) hi)
 M:={ g.M with F:=fun b f=>q9a (g.K b) (g.M.F b f) (qw l (b+f)) }
 L:=g.L
structure qdf (c:Cf) (g:Gst) (l:List Int) (a m r at_:Int) (gs:List (List It)) (its:List It) (vs:List Int):Prop where
 led:Led c g a m r
 bits:∀ y∈its,g.M.F a 0<=y.k/\y.k<Qz g a m
 bgs:gs=xy (Yf its vs) c.c
 ne:yf c at_ r (g.M.F a 0) gs≠[]
theorem qdi (hc:c.Ok) (h:OkG c g l) {a m r:Int} (L:Led c g a m r):g.M.F a 0<Qz g a m/\Qz g a m<=64/\g.up a<=Qz g a m:=by
 have h1:=h.ki.mn a L.K;unfold Qz;by_cases e:m=0
 ·rw [qf e];omega
 ·rw [qd e];have h2:=h.ki.mn m ((L.m0 hc h).resolve_left e);have h3:=L.mn hc h e;omega
theorem Ww {at_ r mn:Int} {gs:List (List It)} (h:yf c at_ r mn gs≠[]):yf c at_ r mn gs=jf c at_ r gs (xg mn gs)/\∀ g∈gs,(g.length:Int)<=c.c:=by
 unfold yf at *;by_cases e:(gs.all fun g=>decide ((g.length:Int)<=c.c))=true
 ·rw [qf e] at h ⊢;exact ⟨rfl,fun g hg=>by simpa using List.all_eq_true.1 e g hg⟩
 ·rw [qd e] at h;exact absurd rfl h
theorem mulS (S:Int) (j:Nat):S * ((j+1:Nat):Int)=S * (j:Int)+S:=by rw [Int.natCast_add,Int.mul_add];simp
theorem qbp {S:Int} (hS:0<=S) {i j:Nat} (h:i<=j):S * (i:Int)<=S * (j:Int):=Int.mul_le_mul_of_nonneg_left Lb hS
theorem q07 {S:Int} (hS:0<=S) {i j:Nat} (h:i<j):S * (i:Int)+S<=S * (j:Int):=by rw [<- mulS];exact qbp hS h
theorem Jd {a:Int} (h0:0<=a) (h1:a<=100000000):jh a false=2 * a:=by unfold jh hd;simp only [Bool.false_eq_true,if_false];omega
theorem q4c (a:Int):jh a false % 2=0:=by unfold jh;simp only [Bool.false_eq_true,if_false];omega
theorem q1r {F:Int->Int->Int} {f:Nat->Int} {r:Int} {n:Nat} (h:∀ j,j<n->F (f j) 2 / 2=if j+1=n then r else f (j+1)):∀ (d k:Nat),k+d=n->0<d->Sg F (f k) ((List.range' k d).map f) r
 | 0,_,_,h0=>absurd h0 Lb
 | d+1,k,hk,_=>by
  rw [List.range'_succ,List.map_cons];refine ⟨rfl,?_⟩;rw [h k Lb];by_cases e:k+1=n
  ·rw [qf e];obtain rfl:d=0:=by omega
   rfl
  ·rw [qd e];exact q1r h d (k+1) Lb Lb
theorem grown (hc:c.Ok) (h:OkG c g l) {a m r at_:Int} {gs:List (List It)} {its:List It} {vs:List Int} {w:List (Int×Int)} (B:qdf c g l a m r at_ gs its vs) (hw:w=yg (yf c at_ r (g.M.F a 0) gs)) (O:Own c g l at_ gs.length w w.length) :
  OkG c (g.grown c l at_ gs.length (xg (g.M.F a 0) gs) (Qz g a m)) l/\Ext c g (g.grown c l at_ gs.length (xg (g.M.F a 0) gs) (Qz g a m)) /\
  (∀ b,(g.grown c l at_ gs.length (xg (g.M.F a 0) gs) (Qz g a m)).K b->¬ g.K b->0<=(g.grown c l at_ gs.length (xg (g.M.F a 0) gs) (Qz g a m)).M.F b 1/\(g.grown c l at_ gs.length (xg (g.M.F a 0) gs) (Qz g a m)).M.F b 1<=16)/\0<gs.length /\
  (g.grown c l at_ gs.length (xg (g.M.F a 0) gs) (Qz g a m)).M.F at_ 0=g.M.F a 0/\(∀ x,Bn g x->Bn (g.grown c l at_ gs.length (xg (g.M.F a 0) gs) (Qz g a m)) x) /\
  ∃ qs,qs≠[]/\Sg (g.grown c l at_ gs.length (xg (g.M.F a 0) gs) (Qz g a m)).M.F at_ qs r/\∀ q∈qs,(g.grown c l at_ gs.length (xg (g.M.F a 0) gs) (Qz g a m)).K q/\¬ Bn (g.grown c l at_ gs.length (xg (g.M.F a 0) gs) (Qz g a m)) q:=by
 have hsz:=xm hc;have hmn:=h.ki.mn a B.led.K;have hhi:=qdi hc h B.led;have hal:=Z1 hc O.al;have hw2:=hc.w2;obtain ⟨ec,hlen⟩:=Ww B.ne;have hS:z6 c=7+3 * c.c:=rfl;have hn0:0<=z6 c * (gs.length:Int):=Int.mul_nonneg Lb Lb;have hwd:=O.wd;have hsrt:=q64 its vs;have hks:∀ y∈Yf its vs,g.M.F a 0<=y.k/\y.k<Qz g a m:=fun y hy=>B.bits y (Tx.1 ((Yc vs _).subset hy))
 have gk:∀ {i:Nat} {b:List It} {mm:Int},gs[i]? = some b->(xg (g.M.F a 0) gs)[i]? = some mm->g.M.F a 0<=mm/\mm<Qz g a m/\(∀ x∈b,mm<=x.k/\x.k<Qz g a m)/\∀ m',(xg (g.M.F a 0) gs)[i+1]? = some m'->mm<m'/\m'<Qz g a m/\∀ x∈b,x.k<m':=fun {i b mm} h1 h2=>by rw [B.bgs] at h1 h2 ⊢;exact q4d (cells:=c.c) (g.M.F a 0) (Qz g a m) hsrt hks hhi.1 h1 h2
 have hgl:0<gs.length:=by rw [B.bgs];exact q63 c.c hsrt
 have hml:=q2a (g.M.F a 0) gs
 have place:∀ j:Nat,j<gs.length->at_<=at_+z6 c * (j:Int)/\at_+z6 c * (j:Int)+z6 c<=at_+z6 c * (gs.length:Int):=fun j hj=>by have h1:0<=z6 c * (j:Int):=Int.mul_nonneg Lb Lb;have h2:=q07 (S:=z6 c) Lb hj;omega
 have notK:∀ j:Nat,j<gs.length->¬ g.K (at_+z6 c * (j:Int)):=fun j hj k=>by obtain ⟨h1,h2⟩:=place j hj;exact (O.nk (at_+z6 c * (j:Int)) h1 Lb).1 _ k ⟨Int.le_refl _,by omega⟩
 have words:∀ j:Nat,j<gs.length->∀ f,0<=f->f<z6 c->qw l (at_+z6 c * (j:Int)+f)=nkF ⟨at_+z6 c * (j:Int),(xg (g.M.F a 0) gs).getD j 0,(gs.getD j []).length,jh (if j+1=gs.length then r else at_+z6 c * ((j:Int)+1)) false,gs.getD j []⟩ f:=fun j hj f f0 f1=>by
  obtain ⟨h1,h2⟩:=place j hj;rw [(O.nk _ Lb Lb).2,List.take_length,hw,ec]
  have at_j:∀ (i:Nat),i<gs.length->(jf c at_ r gs (xg (g.M.F a 0) gs))[i]? = some ⟨at_+z6 c * (i:Int),(xg (g.M.F a 0) gs).getD i 0,(gs.getD i []).length,jh (if i+1=gs.length then r else at_+z6 c * ((i:Int)+1)) false,gs.getD i []⟩:=fun i hi=>by
   refine Yu r Lb gs at_ _ i _ _ Lb Lb ?_ ?_
   ·rw [List.getD_eq_getElem?_getD,List.getElem?_eq_getElem hi];rfl
   ·rw [List.getD_eq_getElem?_getD,List.getElem?_eq_getElem Lb];rfl
  refine U0 (S:=z6 c) (cap:=c.c) hS hc.c16 Lb (a:=at_) (j:=j) (v:=0) Lb ?_ (fun i m' hm'=>?_) (at_j j hj) f0 f1 rfl
  ·rw [yp];omega
  ·have hil:=(List.getElem?_eq_some_iff.1 hm').1;rw [yp] at hil;rw [at_j i hil] at hm';cases hm';refine ⟨rfl,?_⟩;simp only;rw [List.getD_eq_getElem?_getD,List.getElem?_eq_getElem hil];exact hlen _ (List.getElem_mem hil)
 generalize hG:g.grown c l at_ gs.length (xg (g.M.F a 0) gs) (Qz g a m)=G;have KG:∀ b,G.K b↔g.K b\/∃ j:Nat,j<gs.length/\b=at_+z6 c * (j:Int):=fun b=>by rw [<- hG];exact Iff.rfl
 have FK:∀ b,g.K b->∀ f,G.M.F b f=g.M.F b f:=fun b k f=>by rw [<- hG];exact Uv k _ _
 have uK:∀ b,g.K b->G.up b=g.up b:=fun b k=>by rw [<- hG];exact Uv k _ _
 have FN:∀ j:Nat,j<gs.length->∀ f,0<=f->f<z6 c->G.M.F (at_+z6 c * (j:Int)) f=nkF ⟨at_+z6 c * (j:Int),(xg (g.M.F a 0) gs).getD j 0,(gs.getD j []).length,jh (if j+1=gs.length then r else at_+z6 c * ((j:Int)+1)) false,gs.getD j []⟩ f:=fun j hj f f0 f1=>by rw [<- words j hj f f0 f1,<- hG];exact q1p (notK j hj) _ _
 have uN:∀ j:Nat,j<gs.length->G.up (at_+z6 c * (j:Int))=(xg (g.M.F a 0) gs).getD (j+1) (Qz g a m):=fun j hj=>by rw [<- hG];refine (q1p (notK j hj) _ _).trans ?_;rw [show at_+z6 c * (j:Int) - at_=(j:Int) * z6 c by rw [Int.mul_comm];omega,Int.mul_ediv_cancel _ Lb];rfl
 have eL:G.L=g.L:=by rw [<- hG];rfl
 have e1:G.M.hn=g.M.hn:=by rw [<- hG];rfl
 have e2:G.M.ht=g.M.ht:=by rw [<- hG];rfl
 have e3:G.M.top=g.M.top:=by rw [<- hG];rfl
 have KN:∀ j:Nat,j<gs.length->G.K (at_+z6 c * (j:Int)):=fun j hj=>(KG _).2 (.inr ⟨j,hj,rfl⟩)
 have new:∀ b,G.K b->¬ g.K b->∃ j:Nat,j<gs.length/\b=at_+z6 c * (j:Int):=fun b k n=>((KG b).1 k).resolve_left n
 have hct:∀ j:Nat,j<gs.length->((gs.getD j []).length:Int)<=c.c:=fun j hj=>by rw [List.getD_eq_getElem?_getD,List.getElem?_eq_getElem hj];exact hlen _ (List.getElem_mem hj)
 have keys:∀ j:Nat,j<gs.length->g.M.F a 0<=(xg (g.M.F a 0) gs).getD j 0/\(xg (g.M.F a 0) gs).getD j 0<(xg (g.M.F a 0) gs).getD (j+1) (Qz g a m)/\(xg (g.M.F a 0) gs).getD (j+1) (Qz g a m)<=Qz g a m/\∀ y∈gs.getD j [],(xg (g.M.F a 0) gs).getD j 0<=y.k/\y.k<(xg (g.M.F a 0) gs).getD (j+1) (Qz g a m):=fun j hj=>by
  have g1:gs[j]? = some (gs.getD j []):=by rw [List.getD_eq_getElem?_getD,List.getElem?_eq_getElem hj];rfl
  have g2:(xg (g.M.F a 0) gs)[j]? = some ((xg (g.M.F a 0) gs).getD j 0):=by rw [List.getD_eq_getElem?_getD,List.getElem?_eq_getElem Lb];rfl
  obtain ⟨k1,k2,k3,k4⟩:=gk g1 g2;by_cases hl:j+1<gs.length
  ·have g3:(xg (g.M.F a 0) gs)[j+1]? = some ((xg (g.M.F a 0) gs).getD (j+1) (Qz g a m)):=by rw [List.getD_eq_getElem?_getD,List.getElem?_eq_getElem Lb];rfl
   obtain ⟨q1,q2,q3⟩:=k4 _ g3;exact ⟨k1,q1,by omega,fun y hy=>⟨(k3 y hy).1,q3 y hy⟩⟩
  ·have g3:(xg (g.M.F a 0) gs).getD (j+1) (Qz g a m)=Qz g a m:=by rw [List.getD_eq_getElem?_getD,List.getElem?_eq_none Lb];rfl
   rw [g3];exact ⟨k1,k2,Int.le_refl _,k3⟩
 have brand:∀ b,G.K b->¬ g.K b->qd5 c G.K G.up G.M b:=fun b k n=>by
  obtain ⟨j,hj,rfl⟩:=new b k n;obtain ⟨p1,p2⟩:=place j hj;obtain ⟨q1,q2,q3,q4⟩:=keys j hj;have f0:=FN j hj 0 Lb Lb;have f1:=FN j hj 1 Lb Lb;have f2:=FN j hj 2 Lb Lb;have f3:=FN j hj 3 Lb Lb;have f4:=FN j hj 4 Lb Lb;have f5:=FN j hj 5 Lb Lb;have htop:=O.top;simp only [nkF] at f0 f1 f2 f3 f4 f5;simp only [qf,if_true,qd,show (1:Int)≠0 by decide,show (2:Int)≠0 by decide,show (2:Int)≠1 by decide,show (3:Int)≠0 by decide,show (3:Int)≠1 by decide,show (3:Int)≠2 by decide,show (4:Int)≠0 by decide,show (4:Int)≠1 by decide,show (4:Int)≠2 by decide,show (5:Int)≠0 by decide,show (5:Int)≠1 by decide,show (5:Int)≠2 by decide,show (3:Int)<7 by decide,show (4:Int)<7 by decide,show (5:Int)<7 by decide,if_false] at f0 f1 f2 f3 f4 f5;refine ⟨⟨?_,by omega,by rw [e3];omega⟩,?_,?_,f3,f4,f5,fun i i0 i1=>?_,fun i i0 i1=>?_,by rw [f1];have:=hct j hj;have:=hc.c16;omega⟩
  ·obtain ⟨k,hk⟩:=O.al;exact ⟨k+j,by rw [hk,Int.natCast_add,Int.add_mul,Int.mul_comm (z6 c)];omega⟩
  ·rw [f0,uN j hj];omega
  ·rw [f2,uN j hj];by_cases hl:j+1=gs.length
   ·rw [qf hl];have g3:(xg (g.M.F a 0) gs).getD (j+1) (Qz g a m)=Qz g a m:=by rw [List.getD_eq_getElem?_getD,List.getElem?_eq_none Lb];rfl
    rw [g3];rcases B.led.behind hc h with ⟨b1,b2⟩ | ⟨b1,b2⟩
    ·left;rw [b1];exact ⟨by decide,b2⟩
    ·right;have:=Wm hc h b1;rw [Jd Lb Lb,show 2 * r / 2=r by omega];exact ⟨(KG _).2 (.inl b1),by rw [FK _ b1];exact b2⟩
   ·rw [qd hl];right;have hj1:j+1<gs.length:=by omega
    obtain ⟨p3,p4⟩:=place (j+1) hj1;have em:at_+z6 c * ((j:Int)+1)=at_+z6 c * ((j+1:Nat):Int):=by rw [Int.natCast_add];rfl
    rw [em,Jd Lb Lb,show 2 * (at_+z6 c * ((j+1:Nat):Int)) / 2=at_+z6 c * ((j+1:Nat):Int) by omega];refine ⟨KN _ hj1,?_⟩;rw [FN _ hj1 0 Lb Lb];simp only [nkF,if_true];rw [List.getD_eq_getElem?_getD,List.getD_eq_getElem?_getD,List.getElem?_eq_getElem Lb];rfl
  ·have h16:=hc.c16;rw [FN j hj _ Lb O4,FN j hj (8+3 * i) Lb O4,q9z i0,qav i0,f0,uN j hj];simp only;cases hy:(gs.getD j [])[i.toNat]? with
   | none=>intro k;simp at k
   | some y=>intro _ _;exact q4 y (List.mem_of_getElem? hy)
  ·have h16:=hc.c16;rw [f1,FN j hj _ Lb O4,q9z i0];intro k;simp only;rw [List.getElem?_eq_none Lb];exact .inl rfl
 have ki:KI c G.K G.up G.M:=h.ki.grow (fun b k=>(KG b).2 (.inl k)) uK (fun b k f=>FK b k f) e1 (fun k=>by rw [e2]) e3 brand;have h15:=h.p15 hc
 have nx:∀ j:Nat,j<gs.length->G.M.F (at_+z6 c * (j:Int)) 2=jh (if j+1=gs.length then r else at_+z6 c * ((j:Int)+1)) false:=fun j hj=>by have f2:=FN j hj 2 Lb Lb;simp only [nkF] at f2;simpa using f2
 have eb:∀ x,Bn G x↔Bn g x:=fun x=>by
  constructor
  ·rintro (k | ⟨k1,k2,k3⟩)
   ·rw [eL] at k;exact .inl k
   ·by_cases kk:g.K x
    ·rw [FK x kk] at k2 k3;exact .inr ⟨kk,k2,k3⟩
    ·obtain ⟨j,hj,rfl⟩:=new x k1 kk;rw [nx j hj,q4c] at k2;omega
  ·rintro (k | ⟨k1,k2,k3⟩)
   ·left;rw [eL];exact k
   ·right;rw [FK x k1,FK x k1];exact ⟨(KG _).2 (.inl k1),k2,k3⟩
 have lk:∀ {y n t:Int},Led c g y n t->Led c G y n t:=fun L=>L.keep h15 (fun x k=>(KG x).2 (.inl k)) (fun x=>(eb x).2) (fun b k _=>FK b k 2) (fun b k _=>FK b k 3) (fun b k _=>FK b k 4)
 have bK:∀ x,Bn g x->g.K x:=fun x k=>k.K h
 have bg:Bg c G:=by
  refine ⟨?_,fun x hx=>?_,fun x hx=>?_,fun k k0 k1=>?_,fun x hx hn=>?_,fun x hx hn=>?_,fun x hx hn=>?_⟩
  ·rw [e1,eL];exact h.bg.cl.congr (fun x hx=>by rw [FK x (h.bg.K x hx)])
  ·rw [eL] at hx;exact (KG x).2 (.inl (h.bg.K x hx))
  ·have hx':=(eb x).1 hx;rw [FK x (bK x hx')];exact (h.bg.nx x hx').imp id (eb _).2
  ·rw [e2];exact (h.bg.ht k k0 k1).imp id (eb _).2
  ·by_cases kk:g.K x
   ·rw [FK x kk] at hn ⊢;obtain ⟨q1,q2⟩:=h.bg.ld x kk hn;rw [FK _ (bK _ q1)];exact ⟨(eb _).2 q1,q2⟩
   ·exact absurd (brand x hx kk).ld hn
  ·by_cases kk:g.K x
   ·rw [FK x kk] at hn;obtain ⟨st,rb,n,t,N,sn,sh⟩:=h.bg.rp x kk hn;refine ⟨by rw [FK x kk];exact st,fun k=>by rw [eL] at k;rw [FK x kk];exact (eb _).2 (rb k),n,t,lk N,fun k=>by rw [FK _ (N.m0'.resolve_left k)];exact sn k,fun k=>?_⟩;rw [eL] at k;obtain ⟨qs,q1,q2,q3⟩:=sh k;rw [FK x kk];exact ⟨qs,q1,q2.congr (fun z hz=>by rw [FK z (q3 z hz).1]),fun z hz=>⟨(KG z).2 (.inl (q3 z hz).1),by rw [eb];exact (q3 z hz).2⟩⟩
   ·exact absurd (brand x hx kk).rp hn
  ·have hx':=(eb x).1 hx;rw [eL] at hn;rw [FK x (bK x hx'),FK x (bK x hx')];exact h.bg.gn x hx' hn
 refine ⟨⟨ki,⟨h.rel.len,fun b k f h0 h1=>?_,by rw [e1];exact h.rel.hn,fun k h0 h1=>by rw [e2];exact h.rel.ht k h0 h1,by rw [e3];exact h.rel.top,fun p hp=>h.rel.fz p (by rw [<- e3];exact hp)⟩,bg⟩,?_,fun b k n=>(brand b k n).c16,hgl,?_,fun x=>(eb x).2,(List.range' 0 gs.length).map (fun j:Nat=>at_+z6 c * (j:Int)),?_,?_,fun q hq=>?_⟩
 ·by_cases kk:g.K b
  ·rw [FK b kk];exact h.rel.F b kk f h0 h1
  ·rw [<- hG];exact (q1p kk _ _).symm
 ·exact ⟨fun b k=>(KG b).2 (.inl k),uK,fun b k=>FK b k 0,fun b k _=>FK b k 2,fun b k _=>FK b k 3,fun b k _=>FK b k 4,fun b k _=>FK b k 5,fun b i k _ _ _=>⟨FK b k _,FK b k _,FK b k _⟩,fun b k=>by rw [FK b k];exact Int.le_refl _,by rw [e3];exact Int.le_refl _,fun x=>(eb x).2,fun x _ k=>by rw [eL];exact k,fun x k k2=>by rw [FK x k];exact k2⟩
 ·have:=FN 0 hgl 0 Lb Lb;simp only [nkF,if_true] at this;rw [show at_+z6 c * ((0:Nat):Int)=at_ by simp] at this;rw [this];rw [List.getD_eq_getElem?_getD,Ki _ (fun e=>by rw [e] at hgl;simp at hgl)];rfl
 ·intro e;have:=congrArg List.length e;simp at this;rw [this] at hgl;simp at hgl
 ·have:=q1r (F:=G.M.F) (f:=fun j:Nat=>at_+z6 c * (j:Int)) (r:=r) (n:=gs.length) (fun j hj=>?_) gs.length 0 Lb hgl
  ·simpa using this
  ·show G.M.F (at_+z6 c * (j:Int)) 2 / 2=if j+1=gs.length then r else at_+z6 c * ((j+1:Nat):Int);rw [nx j hj]
   have hr:0<=r/\r<=100000000:=by
    rcases B.led.behind hc h with ⟨b1,-⟩ | ⟨b1,-⟩
    ·omega
    ·have:=Wm hc h b1;omega
   by_cases hl:j+1=gs.length
   ·rw [qf hl,qf hl,Jd Lb Lb];omega
   ·rw [qd hl,qd hl];obtain ⟨p3,p4⟩:=place (j+1) Lb;have em:at_+z6 c * ((j:Int)+1)=at_+z6 c * ((j+1:Nat):Int):=by rw [Int.natCast_add];rfl
    rw [em,Jd Lb Lb];omega
 ·obtain ⟨j,hj,rfl⟩:=List.mem_map.1 hq
  have hj2:j<gs.length:=by have:=List.mem_range'_1.1 hj;omega
  refine ⟨KN j hj2,fun k=>?_⟩;exact notK j hj2 (((eb _).1 k).K h)
theorem R4 (hc:c.Ok) (h:OkG c g l) {a m r at_:Int} {gs:List (List It)} {its:List It} {vs:List Int} {w:List (Int×Int)} (B:qdf c g l a m r at_ gs its vs) (hw:w=yg (yf c at_ r (g.M.F a 0) gs)) (O:Own c g l at_ gs.length w w.length) (h5:g.M.F a 5=0) (sa:1<=g.M.F a 6) (sm:m≠0->1<=g.M.F m 6) :
  ∃ g',Goes c g l g' (yl l (a+5) at_) no2 (Re c at_ gs.length)/\g'.M.F a 5≠0:=by
 obtain ⟨ok,ext,ct,hgl,e0,ebn,qs,qn,qsg,qK⟩:=grown hc h B hw O;have hsz:=xm hc;have hal:=Z1 hc O.al;have ka:=ext.K _ B.led.K;have eF:∀ b,g.K b->∀ f,(g.grown c l at_ gs.length (xg (g.M.F a 0) gs) (Qz g a m)).M.F b f=g.M.F b f:=fun b k f=>Uv k _ _
 have kat:(g.grown c l at_ gs.length (xg (g.M.F a 0) gs) (Qz g a m)).K at_:=.inr ⟨0,hgl,by simp⟩;have hK:∀ b,(g.grown c l at_ gs.length (xg (g.M.F a 0) gs) (Qz g a m)).K b->g.K b\/∃ j:Nat,j<gs.length/\b=at_+z6 c * (j:Int):=fun b k=>k
 have e3:(g.grown c l at_ gs.length (xg (g.M.F a 0) gs) (Qz g a m)).M.top=g.M.top:=rfl;have eL:(g.grown c l at_ gs.length (xg (g.M.F a 0) gs) (Qz g a m)).L=g.L:=rfl;generalize g.grown c l at_ gs.length (xg (g.M.F a 0) gs) (Qz g a m)=G at *;have LG:Led c G a m r:=B.led.keep (h.p15 hc) ext.K ext.bn ext.nm ext.ld ext.mt;have G2:=q6l hc ok ka (v:=at_) (by rw [eF a B.led.K];exact h5) ⟨kat,by rw [eF a B.led.K];exact e0⟩ (ext.st _ B.led.K sa) ⟨m,r,LG,fun k=>ext.st _ (B.led.m0'.resolve_left k) (sm k),fun _=>⟨qs,qn,qsg,qK⟩⟩;have hnc:∀ b f,f≠5->(G.set a 5 at_).M.F b f=G.M.F b f:=fun b f hf=>xd hf
 refine ⟨_,⟨G2.ok,ext.trans G2.ext,⟨fun b i kb i0 i1 _ k=>?_,fun p p0 p1 p2 p3=>?_⟩,fun b kb=>?_,?_,fun x k k2=>absurd (show x∈(G.set a 5 at_).L by rw [show (G.set a 5 at_).L=G.L from rfl,eL];exact k) k2⟩,?_⟩
 ·rw [hnc b _ Lb,hnc b _ Lb,eF b kb,eF b kb];exact ⟨k,rfl⟩
 ·have hne:∀ b,G.K b->¬ (b<=p/\p<b+z6 c):=fun b kb hp=>by
   rcases hK b kb with kb | ⟨j,hj,rfl⟩
   ·exact p2 b kb hp
   ·have h1:0<=z6 c * (j:Int):=Int.mul_nonneg Lb Lb;have h2:=q07 (S:=z6 c) Lb hj;exact p3 ⟨by omega,by omega⟩
  exact G2.kp.priv p p0 (by rw [e3];exact p1) hne (fun k=>k)
 ·have kb':G.K b:=kb;by_cases k:g.K b
  ·left;refine ⟨k,?_⟩;rw [hnc b 1 Lb,eF b k];omega
  ·right;rw [hnc b 1 Lb];exact ct b kb' k
 ·show (G.set a 5 at_).M.top<=_;rw [show (G.set a 5 at_).M.top=G.M.top from rfl,e3];omega
 ·rw [show (G.set a 5 at_).M.F a 5=at_ from upd_same _ _ _ _];omega
end
section
variable {c:Cf} {g:Gst} {l:List Int}
theorem Own.keep (hc:c.Ok) {g':Gst} {l':List Int} {mc:Int->Int->Prop} {mp:Int->Prop} {a:Int} {n i:Nat} {w:List (Int×Int)} (h:Own c g l a n w i) (e:Goes c g l g' l' mc mp) (hm:∀ q,Re c a n q->¬ mp q):Own c g' l' a n w i:=by have hal:=Z1 hc h.al;have ht:=h.top;refine ⟨h.al,Int.le_trans ht e.ext.top,h.wd,fun p p0 p1=>?_⟩;obtain ⟨h1,h2⟩:=h.nk p p0 p1;obtain ⟨k1,k2⟩:=e.kp.priv p Lb Lb h1 (hm p ⟨p0,p1⟩);exact ⟨k2,k1.trans h2⟩
structure BdI (c:Cf) (g:Gst) (l:List Int) (x:Bd):Prop where
 cc:x.c=c
 inv:x.line=0\/Zg x
 led:Led c g x.chunk x.mate x.after
 mn:2<=x.line->x.mn=g.M.F x.chunk 0
 its:∀ y∈x.l,g.M.F x.chunk 0<=y.k/\y.k<Qz g x.chunk x.mate
 c3:x.line=3\/x.line=4->∃ b j,g.K b/\(0<=j/\j<c.c)/\(b=x.chunk\/(b=x.mate/\x.mate≠0))/\x.sa=b+(7+3 * j)/\3<=g.M.F b (7+3 * j)
 k4:x.line=4->g.M.F x.chunk 0<=x.x.k/\x.x.k<Qz g x.chunk x.mate
 g5:5<=x.line->x.groups=xy (Yf x.l x.versions) c.c
 w6:x.line=6\/x.line=7->x.w=yg (yf c x.at_ x.after x.mn x.groups)/\yf c x.at_ x.after x.mn x.groups≠[]/\Own c g l x.at_ x.groups.length x.w (if x.line=6 then x.i.toNat else x.w.length)
 r8:x.line=8->g.M.F x.chunk 5≠0
 r0:x.line=0->x.e=0->g.K x.repl/\g.M.F x.repl 0=g.M.F x.chunk 0/\g.M.F x.chunk 5=x.repl
def Bd.mineP (c:Cf) (x:Bd):Int->Prop:=fun q=>(x.line=6\/x.line=7)/\Re c x.at_ x.groups.length q
theorem qa5 (hc:c.Ok) (h:OkG c g l) {g':Gst} (e:Ext c g g') {a m r:Int} (L:Led c g a m r):Qz g' a m=Qz g a m:=by
 unfold Qz;by_cases k:m=0
 ·rw [qf k];exact e.up _ L.K
 ·rw [qd k];exact e.up _ ((L.m0 hc h).resolve_left k)
theorem BdI.keep (hc:c.Ok) (h:OkG c g l) {g':Gst} {l':List Int} {mc:Int->Int->Prop} {mp:Int->Prop} {x:Bd} (hx:BdI c g l x) (e:Goes c g l g' l' mc mp) (hm:∀ q,x.mineP c q->¬ mp q):BdI c g' l' x:=by
 have e0:=e.ext.mn _ hx.led.K;have eh:=qa5 hc h e.ext hx.led;refine ⟨hx.cc,hx.inv,hx.led.ext hc h e.ext,by rw [e0];exact hx.mn,by rw [e0,eh];exact hx.its,fun k=>?_,by rw [e0,eh];exact hx.k4,hx.g5,fun k=>?_,fun k=>?_,fun k k2=>?_⟩
 ·obtain ⟨b,j,h1,h2,h3,h4,h5⟩:=hx.c3 k;exact ⟨b,j,e.ext.K _ h1,h2,h3,h4,by rw [(e.ext.gv b j h1 h2.1 h2.2 h5).1];exact h5⟩
 ·obtain ⟨h1,h2,h3⟩:=hx.w6 k;exact ⟨h1,h2,h3.keep hc e (fun q hq=>hm q ⟨k,hq⟩)⟩
 ·rw [e.ext.rp _ hx.led.K (hx.r8 k)];exact hx.r8 k
 ·obtain ⟨h1,h2,h3⟩:=hx.r0 k k2;have:=h.p15 hc _ h1;exact ⟨e.ext.K _ h1,by rw [e.ext.mn _ h1,e0];exact h2,by rw [e.ext.rp _ hx.led.K (by rw [h3];omega)];exact h3⟩
theorem BdI.new (hc:c.Ok) {a m r:Int} (L:Led c g a m r) {vs:List Int} (hv:vs.length<=100):BdI c g l (Bd.new c a m r vs) :=
 ⟨rfl,.inr (Zg.new hc a m r hv),L,fun k=>by simp [Bd.new] at k,fun y hy=>by simp [Bd.new] at hy,fun k=>by simp [Bd.new] at k,fun k=>by simp [Bd.new] at k,fun k=>by simp [Bd.new] at k,fun k=>by simp [Bd.new] at k,fun k=>by simp [Bd.new] at k,fun k=>by simp [Bd.new] at k⟩
theorem qb8 {x:Bd} (h1:x.c=c) (h2:Zg x.on) (h3:Led c g x.chunk x.mate x.after) (h4:x.mn=g.M.F x.chunk 0) (h5:∀ y∈x.l,g.M.F x.chunk 0<=y.k/\y.k<Qz g x.chunk x.mate):BdI c g l x.on:=by
 unfold Bd.on at *;by_cases e:Q3 x.c x.mate<=x.i+1
 ·rw [qf e] at *;exact ⟨h1,.inr h2,h3,fun _=>h4,h5,fun k=>by simp at k,fun k=>by simp at k,fun _=>by simp only;rw [h1],fun k=>by simp at k,fun k=>by simp at k,fun k=>by simp at k⟩
 ·rw [qd e] at *;exact ⟨h1,.inr h2,h3,fun _=>h4,h5,fun k=>by simp at k,fun k=>by simp at k,fun k=>by simp at k,fun k=>by simp at k,fun k=>by simp at k,fun k=>by simp at k⟩
theorem Yg (x:Bd):x.on.line=5\/x.on.line=2:=by unfold Bd.on;split <;> simp
theorem qcw (hc:c.Ok) (h:OkG c g l) {a m r b j:Int} (L:Led c g a m r) (hb:b=a\/(b=m/\m≠0)) (hK:g.K b) (hj:0<=j/\j<c.c) (h3:3<=g.M.F b (7+3 * j)):g.M.F a 0<=g.M.F b (8+3 * j)/\g.M.F b (8+3 * j)<Qz g a m:=by
 have h1:=h.ki.cl b j hK hj.1 hj.2 Lb Lb;have h2:=qdi hc h L;rcases hb with rfl | ⟨rfl,hm⟩
 ·omega
 ·have:=L.mn hc h hm;have:=h.ki.mn a L.K;have e:Qz g a b=g.up b:=by unfold Qz;rw [qd hm]
  rw [e];omega
theorem q5u (hc:c.Ok) {s:St} (h:OkG c g s.l) {a:Int} {n i:Nat} {w:List (Int×Int)} {q:Int×Int} (O:Own c g s.l a n w i) (hq:w[i]? = some q) (hp:Re c a n q.1) :
  Goes c g s.l g (s.store q.1 q.2).l no2 (Re c a n)/\Own c g (s.store q.1 q.2).l a n w (i+1):=by
 have hal:=Z1 hc O.al;have ht:=O.top;have hwd:=O.wd;have hl:=h.rel.len;have G:=q75 hc h q.2 (p:=q.1) (by have:=hp.1;omega) (by have:=hp.2;omega) (O.nk q.1 hp.1 hp.2).1;refine ⟨G.weak (fun _ _ k=>k) (fun p k=>by rw [show p=q.1 from k];exact hp),O.al,O.top,O.wd,fun p p0 p1=>⟨(O.nk p p0 p1).1,?_⟩⟩;rw [Xe,vz,List.take_add_one,hq,Option.toList_some,q2j,<- (O.nk p p0 p1).2,Qf];show _=if q.1=p then q.2 else qw s.l p;by_cases e:p=q.1
 ·rw [qf ⟨e,by have:=hp.1;omega,by have:=hp.2;omega⟩,qf e.symm]
 ·rw [qd (fun k=>e k.1),qd (fun k=>e k.symm)]
theorem q84 (hc:c.Ok) {at_ r mn:Int} {gs:List (List It)} (h0:0<=at_) (hb:at_+z6 c * (gs.length:Int)<=40000) (hne:yf c at_ r mn gs≠[]):∀ q∈yg (yf c at_ r mn gs),Re c at_ gs.length q.1:=by intro q hq;have hsz:=xm hc;obtain ⟨ec,hlen⟩:=Ww hne;rw [ec] at hq;unfold yg at hq;rw [List.mem_flatMap] at hq;obtain ⟨n,hn,hq⟩:=hq;obtain ⟨i,hi⟩:=List.getElem?_of_mem hn;have hil:=(List.getElem?_eq_some_iff.1 hi).1;rw [yp] at hil;have hml:=q2a mn gs;rw [Yu (c:=c) r Lb gs at_ _ i gs[i] ((xg mn gs)[i]'(by omega)) h0 Lb (List.getElem?_eq_getElem hil) (List.getElem?_eq_getElem Lb)] at hi;cases hi;have h1:0<=z6 c * (i:Int):=Int.mul_nonneg Lb Lb;have h2:=q07 (S:=z6 c) Lb hil;have:=Tm Ls Ls (cap:=c.c) (by simp only;exact hlen _ (List.getElem_mem hil)) hc.c16 q hq;simp only at this;unfold Re;have hS:z6 c=7+3 * c.c:=rfl;omega
theorem BdI.step (hc:c.Ok) {s:St} (h:OkG c g s.l) (hB:g.M.top<=900000000000000) {x:Bd} (hx:BdI c g s.l x) (sa:1<=g.M.F x.chunk 6) (sm:x.mate≠0->1<=g.M.F x.mate 6):∃ g',Goes c g s.l g' (x.step s).2.l no2 (x.mineP c)/\BdI c g' (x.step s).2.l (x.step s).1/\∀ q,(x.step s).1.mineP c q->x.mineP c q\/g.M.top<=q:=by
 have same:=Goes.same h no2 (x.mineP c);have hsz:=xm hc;have hkb:=Wm hc h hx.led.K;rcases hx.inv with l0 | inv
 ·have e:x.step s=(x,s):=by unfold Bd.step;rw [qd Lb,qd Lb,qd Lb,qd Lb,qd Lb,qd Lb,qd Lb,qd Lb]
  rw [e];exact ⟨g,same,hx,fun q k=>.inl k⟩
 have hst:=inv.step s;have nomine:∀ (y:Bd) (q:Int),(y.line≠6/\y.line≠7)->y.mineP c q->x.mineP c q\/g.M.top<=q:=fun y q k1 k2=>by have:=k2.1;omega
 have hi0:=inv.i0
 have cell:2<=x.line/\x.line<=4->∃ b j,g.K b/\(0<=j/\j<c.c)/\(b=x.chunk\/(b=x.mate/\x.mate≠0))/\x.sa=b+(7+3 * j)/\9+3 * j<z6 c:=fun k=>by obtain ⟨i1,i2,-⟩:=inv.i4 k;rw [hx.cc] at i2;unfold Bd.sa;rw [hx.cc];exact q6r hc h hx.led.K (hx.led.m0 hc h) ⟨i1,i2⟩
 rcases (by have:=inv.ln;omega:x.line=1\/x.line=2\/x.line=3\/x.line=4\/x.line=5\/x.line=6\/x.line=7\/x.line=8) with e | e | e | e | e | e | e | e
 ·have ex:x.step s=(({ x with mn:=qw s.l (wrap64 x.chunk),i:=-1 }:Bd).on,s.load (wrap64 x.chunk)):=by unfold Bd.step;rw [qf e]
  rw [ex] at hst ⊢;have hon:=Yg ({ x with mn:=qw s.l (wrap64 x.chunk),i:=-1 }:Bd);refine ⟨g,same,qb8 hx.cc (hst.resolve_left Ls) hx.led (rd0 hc h hx.led.K) hx.its,fun q k=>nomine _ q O6 k⟩
 ·obtain ⟨b,j,hb,hj,hbm,hsa,h9⟩:=cell Lb;have hrd:qw s.l x.sa=g.M.F b (7+3 * j):=by rw [hsa];exact h.rel.F _ hb _ Lb Lb
  by_cases hv:qw s.l x.sa<3
  ·have ex:x.step s=(({ x with x:=⟨0,Vi (qw s.l x.sa),0⟩,line:=3 }:Bd).on,s.load x.sa):=by unfold Bd.step;rw [qd Lb,qf e];simp only;rw [qf hv]
   rw [ex] at hst ⊢;have hon:=Yg ({ x with x:=⟨0,Vi (qw s.l x.sa),0⟩,line:=3 }:Bd);exact ⟨g,same,qb8 hx.cc (hst.resolve_left Ls) hx.led (hx.mn Lb) hx.its,fun q k=>nomine _ q O6 k⟩
  ·have ex:x.step s=({ x with x:=⟨0,Vi (qw s.l x.sa),0⟩,line:=3 },s.load x.sa):=by unfold Bd.step;rw [qd Lb,qf e];simp only;rw [qd hv]
   rw [ex] at hst ⊢;rw [hrd] at hv;exact ⟨g,same,⟨hx.cc,hst,hx.led,fun _=>hx.mn Lb,hx.its,fun _=>⟨b,j,hb,hj,hbm,hsa,by omega⟩,fun k=>by simp at k,fun k=>by simp at k,fun k=>by simp at k,fun k=>by simp at k,fun k=>by simp at k⟩,fun q k=>nomine _ q Lc k⟩
 ·obtain ⟨b,j,hb,hj,hbm,hsa,h3⟩:=hx.c3 (.inl e);have hbb:=Wm hc h hb;have h16:=hc.c16;have ex:x.step s=({ x with x:=⟨qw s.l (wrap64 (x.sa+1)),x.x.v,x.x.d⟩,line:=4 },s.load (wrap64 (x.sa+1))):=by unfold Bd.step;rw [qd Lb,qd Lb,qf e]
  rw [ex] at hst ⊢
  have hk:qw s.l (wrap64 (x.sa+1))=g.M.F b (8+3 * j):=by rw [hsa,Zu Lb (by unfold z6 at *;omega),show b+(7+3 * j)+1=b+(8+3 * j) by omega];exact h.rel.F _ hb _ Lb O4
  refine ⟨g,same,⟨hx.cc,hst,hx.led,fun _=>hx.mn Lb,hx.its,fun _=>⟨b,j,hb,hj,hbm,hsa,h3⟩,fun _=>?_,fun k=>by simp at k,fun k=>by simp at k,fun k=>by simp at k,fun k=>by simp at k⟩,fun q k=>nomine _ q Lc k⟩;simp only;rw [hk];exact qcw hc h hx.led hbm hb hj h3
 ·have ex:x.step s=(({ x with x:=⟨x.x.k,x.x.v,qw s.l (wrap64 (x.sa+2))⟩,l:=x.l++[⟨x.x.k,x.x.v,qw s.l (wrap64 (x.sa+2))⟩] }:Bd).on,s.load (wrap64 (x.sa+2))):=by unfold Bd.step;rw [qd Lb,qd Lb,qd Lb,qf e]
  rw [ex] at hst ⊢;have hon:=Yg ({ x with x:=⟨x.x.k,x.x.v,qw s.l (wrap64 (x.sa+2))⟩,l:=x.l++[⟨x.x.k,x.x.v,qw s.l (wrap64 (x.sa+2))⟩] }:Bd);refine ⟨g,same,qb8 hx.cc (hst.resolve_left Ls) hx.led (hx.mn Lb) (fun y hy=>?_),fun q k=>nomine _ q O6 k⟩;simp only at hy;rcases List.mem_append.1 hy with hy | hy
  ·exact hx.its y hy
  ·rw [List.mem_singleton.1 hy];exact hx.k4 e
 ·have htop:=h.rel.top;have hT:15<=g.M.top:=(Z1 hc h.ki.top).2;have hg:=inv.g.1;have hS:z6 c=7+3 * c.c:=rfl;obtain ⟨m1,m2,m3⟩:=q1w (g:=x.groups.length) (c:=c.c) Lb (by have:=hc.c2;have:=hc.t1;omega) hc.c16;rw [<- hS] at m1 m2 m3;have h41:(x.groups.length:Int) * z6 c<=41 * 55:=Int.mul_le_mul Lb Lb Lb Lb;have ex:x.step s=(x.five (qw s.l 2),s.add 2 (x.groups.length * z6 x.c)):=by unfold Bd.step;rw [qd Lb,qd Lb,qd Lb,qd Lb,qf e]
  rw [ex] at hst ⊢;simp only;rw [htop,hx.cc,qca,htop,Zu (a:=g.M.top+(x.groups.length:Int) * z6 c) Lb Lb];rw [htop] at hst;have G:=(q95 hc h x.groups.length Lb).weak (mc':=no2) (mp':=x.mineP c) (fun _ _ k=>k) (fun _ k=>k.elim);have L':=hx.led.ext hc h G.ext;have hmn:=hx.mn Lb;have hg5:=hx.g5 Lb;unfold Bd.five at hst ⊢;simp only at hst ⊢;rw [hx.cc,Zu Lb Lb] at hst ⊢;split
  ·exact ⟨_,G,⟨rfl,.inl rfl,L',fun k=>by simp at k,hx.its,fun k=>by simp at k,fun k=>by simp at k,fun k=>by simp at k,fun k=>by simp at k,fun k=>by simp at k,fun _ k=>by simp at k⟩,fun q k=>nomine _ q Lc k⟩
  ·rename_i hne;rw [qd hne] at hst;have hwd:g.M.top+z6 c * (x.groups.length:Int)<=c.wd:=by rw [Int.mul_comm];omega
   have hw2:=hc.w2
   have O:Own c { g with M:={ g.M with top:=g.M.top+(x.groups.length:Int) * z6 c } } (yl s.l 2 (g.M.top+(x.groups.length:Int) * z6 c)) g.M.top x.groups.length (yg (yf c g.M.top x.after x.mn x.groups)) 0:=by
    refine ⟨h.ki.top,by simp only;rw [Int.mul_comm];omega,hwd,fun p p0 p1=>⟨fun a ha hp=>?_,?_⟩⟩
    ·have:=(h.ki.al a ha).2.2;omega
    ·rw [vz,qd Lb];exact h.rel.fz p p0
   refine ⟨_,G,⟨rfl,hst,L',fun _=>hmn,hx.its,fun k=>by simp at k,fun k=>by simp at k,fun _=>hg5,fun _=>⟨rfl,fun k=>hne (.inr (.inr k)),?_⟩,fun k=>by simp at k,fun k=>by simp at k⟩,fun q k=>.inr ?_⟩
   ·simp only [if_true];exact O
   ·exact k.2.1
 ·obtain ⟨w1,w2,O⟩:=hx.w6 (.inl e);rw [qf e] at O;obtain ⟨i0,i1⟩:=inv.w6 e;have ex:x.step s=({ x with i:=x.i+1,line:=if (x.w.length:Int)<=x.i+1 then 7 else 6 },s.store x.nth.1 x.nth.2):=by unfold Bd.step;rw [qd Lb,qd Lb,qd Lb,qd Lb,qd Lb,qf e]
  rw [ex] at hst ⊢;have hnth:x.w[x.i.toNat]? = some x.nth:=by unfold Bd.nth;rw [List.getD_eq_getElem?_getD,List.getElem?_eq_getElem Lb];rfl
  have hal:=Z1 hc O.al;have hwd:=O.wd;have hw2:=hc.w2;have hin:Re c x.at_ x.groups.length x.nth.1:=q84 hc Lb Lb w2 x.nth (by rw [<- w1];exact List.mem_of_getElem? hnth);obtain ⟨G,O'⟩:=q5u hc h O hnth hin;refine ⟨g,G.weak (fun _ _ k=>k) (fun q k=>⟨.inl e,k⟩),⟨hx.cc,hst,hx.led,fun _=>hx.mn Lb,hx.its,fun k=>?_,fun k=>?_,fun _=>hx.g5 Lb,fun k=>⟨w1,w2,?_⟩,fun k=>?_,fun k=>?_⟩,fun q k=>.inl ⟨.inl e,k.2⟩⟩
  ·exact Gx
  ·exact Gx
  ·simp only at k ⊢;by_cases hh:(x.w.length:Int)<=x.i+1
   ·rw [qf hh,qd Lb];rw [show x.w.length=x.i.toNat+1 by omega];exact O'
   ·rw [qd hh,qf rfl,show (x.i+1).toNat=x.i.toNat+1 by omega];exact O'
  ·exact Gx
  ·exact Gx
 ·obtain ⟨w1,w2,O⟩:=hx.w6 (.inr e);rw [qd Lb] at O;have ex:x.step s=({ x with line:=8 },s.swap (wrap64 (x.chunk+5)) 0 x.at_):=by unfold Bd.step;rw [qd Lb,qd Lb,qd Lb,qd Lb,qd Lb,qd Lb,qf e]
  rw [ex] at hst ⊢;simp only;rw [Zu Lb Lb];have hmn:=hx.mn Lb
  have mk:∀ g':Gst,∀ l',Ext c g g'->g'.M.F x.chunk 5≠0->BdI c g' l' { x with line:=8 }:=fun g' l' ee e5=>by have e0:=ee.mn _ hx.led.K;have eh:=qa5 hc h ee hx.led;exact ⟨hx.cc,hst,hx.led.ext hc h ee,fun _=>by simp only;rw [e0];exact hmn,by simp only;rw [e0,eh];exact hx.its,fun k=>by simp at k,fun k=>by simp at k,fun _=>hx.g5 Lb,fun k=>by simp at k,fun _=>e5,fun k=>by simp at k⟩
  cases hcn:s.can (x.chunk+5) 0 with
  | true =>
   have hp:=jv hcn;rw [h.rel.F _ hx.led.K 5 Lb Lb] at hp;rw [ji hcn];rw [hmn] at w1 w2;obtain ⟨g',G,e5⟩:=R4 hc h ⟨hx.led,hx.its,hx.g5 Lb,w2⟩ w1 O hp sa sm;exact ⟨g',G.weak (fun _ _ k=>k) (fun q k=>⟨.inr e,k⟩),mk g' _ G.ext e5,fun q k=>nomine _ q Lc k⟩
  | false =>
   rw [Q5 hcn];exact ⟨g,same,mk g _ (Ext.refl _ _) (Ut hc h hx.led.K Lb Lb hcn),fun q k=>nomine _ q Lc k⟩
 ·have ex:x.step s=({ x with repl:=qw s.l (wrap64 (x.chunk+5)),line:=0 },s.load (wrap64 (x.chunk+5))):=by unfold Bd.step;rw [qd Lb,qd Lb,qd Lb,qd Lb,qd Lb,qd Lb,qd Lb,qf e]
  rw [ex];refine ⟨g,same,⟨hx.cc,.inl rfl,hx.led,fun k=>by simp at k,hx.its,fun k=>by simp at k,fun k=>by simp at k,fun k=>by simp at k,fun k=>by simp at k,fun k=>by simp at k,fun _ _=>?_⟩,fun q k=>nomine _ q Lc k⟩;simp only;rw [rd hc h hx.led.K Lb Lb];exact ⟨((h.ki.rp _ hx.led.K).resolve_left (hx.r8 e)).1,((h.ki.rp _ hx.led.K).resolve_left (hx.r8 e)).2,rfl⟩
end
section
variable {c:Cf} {g:Gst} {l:List Int}
structure FmI (c:Cf) (g:Gst) (l:List Int) (f:Fm):Prop where
 ld:LdI c g f.l
 l0:f.part≠1->f.l.line=0
 s:∀ y,f.s=some y->SlI c g y
 n:∀ y,f.n=some y->NdI c y/\q0y y
 b:f.part=5->∀ y,f.b=some y->BdI c g l y/\y.chunk=f.l.three.1/\y.mate=f.l.three.2.1
 r:f.part=6->g.K f.repl/\g.M.F f.repl 0=g.M.F f.l.three.1 0/\g.M.F f.l.three.1 5=f.repl
 p:∀ y,f.p=some y->SpI c g y
 ls:LdS c g f.l
 ss:∀ y,f.s=some y->SlS c g y/\(f.part=2->y.chunk=f.l.three.1/\y.mate=f.l.three.2.1)
 sl:f.part≠1->f.part≠2->1<=g.M.F f.l.three.1 6/\(f.l.three.2.1≠0->1<=g.M.F f.l.three.2.1 6)
 ps:∀ y,f.p=some y->SpS c g y
def Fm.mineP (c:Cf) (f:Fm):Int->Prop:=fun q=>f.part=5/\∃ y,f.b=some y/\y.mineP c q
theorem FmI.led {f:Fm} (h:FmI c g l f) (h1:f.part≠1):Led c g f.l.three.1 f.l.three.2.1 f.l.three.2.2:=h.ld.led h.ls (h.l0 h1)
theorem FmI.keep (hc:c.Ok) (h:OkG c g l) {g':Gst} {l':List Int} {mc:Int->Int->Prop} {mp:Int->Prop} {f:Fm} (hf:FmI c g l f) (e:Goes c g l g' l' mc mp) (hm:∀ q,f.mineP c q->¬ mp q):FmI c g' l' f:=by
 refine ⟨hf.ld.ext hc (fun a ha=>h.ki.pos hc ha) e.ext,hf.l0,fun y k=>(hf.s y k).ext e.ext,hf.n,fun k y k2=>?_,fun k=>?_,fun y k=>(hf.p y k).ext e.ext,hf.ls.ext hc h hf.ld e.ext,fun y k=>⟨(hf.ss y k).1.ext (hf.s y k) e.ext,(hf.ss y k).2⟩,fun k k2=>?_,fun y k=>(hf.ps y k).ext hc h (hf.p y k) e.ext⟩
 ·obtain ⟨h1,h2⟩:=hf.b k y k2;exact ⟨h1.keep hc h e (fun q hq=>hm q ⟨k,y,k2,hq⟩),h2⟩
 ·obtain ⟨h1,h2,h4⟩:=hf.r k;have h3:=(hf.led Lb).K;have:=h.p15 hc _ h1;exact ⟨e.ext.K _ h1,by rw [e.ext.mn _ h1,e.ext.mn _ h3];exact h2,by rw [e.ext.rp _ h3 (by rw [h4];omega)];exact h4⟩
 ·have L:=hf.led k;obtain ⟨k3,k4⟩:=hf.sl k k2;exact ⟨e.ext.st _ L.K k3,fun k5=>e.ext.st _ (L.m0'.resolve_left k5) (k4 k5)⟩
theorem FmI.new {a:Int} (ha:g.K a) (hb:Bn g a) (d:Bool):FmI c g l (Fm.new c a d) :=
 ⟨LdI.new ha d,fun k=>absurd rfl k,fun y k=>Pe,fun y k=>Pe,fun k=>(by simp [Fm.new] at k),fun k=>(by simp [Fm.new] at k),fun y k=>Pe,LdS.new hb d,fun y k=>Pe,fun k=>absurd rfl k,fun y k=>Pe⟩
theorem Led.mB (hc:c.Ok) (h:OkG c g l) {a m r:Int} (L:Led c g a m r):m=0\/Bn g m:=by
 rcases L.m with ⟨e,-⟩ | ⟨e1,e2,-⟩
 ·exact .inl e
 ·right;have:=h.p15 hc _ e1;have k:=(h.bg.nx a L.B).resolve_left (by rw [<- e2];omega);rw [<- e2] at k;exact k
theorem FmI.splice (hc:c.Ok) (h:OkG c g l) {f:Fm} (hf:FmI c g l f) (h1:f.part≠1) (h2:f.part≠2) {r:Int} (hr:g.K r/\g.M.F r 0=g.M.F f.l.three.1 0/\g.M.F f.l.three.1 5=r):FmI c g l (f.splice c r):=by
 have L:=hf.led h1;refine ⟨hf.ld,fun _=>hf.l0 h1,hf.s,hf.n,fun k=>(by simp [Fm.splice] at k),fun _=>hr,fun y k=>?_,hf.ls,fun y k=>⟨(hf.ss y k).1,fun e=>by simp [Fm.splice] at e⟩,fun _ _=>hf.sl h1 h2,fun y k=>?_⟩
 ·unfold Fm.splice at k;simp only [Option.some.injEq] at k;rw [<- k];exact SpI.new L.K (L.m0 hc h) ⟨hr.1,hr.2.1⟩
 ·unfold Fm.splice at k;simp only [Option.some.injEq] at k;rw [<- k];exact SpS.new L.B (L.mB hc h) hr.2.2
structure MdI (c:Cf) (g:Gst) (l:List Int) (m:Md):Prop where
 cc:m.c=c
 f:∀ f,f∈m.f->FmI c g l f
 low:∀ f,f∈m.f.dropLast->f.part=6
def Md.mineP (c:Cf) (m:Md):Int->Prop:=fun q=>∃ f,f∈m.f/\f.mineP c q
theorem MdI.keep (hc:c.Ok) (h:OkG c g l) {g':Gst} {l':List Int} {mc:Int->Int->Prop} {mp:Int->Prop} {m:Md} (hm:MdI c g l m) (e:Goes c g l g' l' mc mp) (hp:∀ q,m.mineP c q->¬ mp q):MdI c g' l' m :=
 ⟨hm.cc,fun f hf=>(hm.f f hf).keep hc h e (fun q hq=>hp q ⟨f,hf,hq⟩),hm.low⟩
theorem MdI.new (hc:c.Ok) {a:Int} (ha:g.K a) (hb:Bn g a) (ds:List Int):MdI c g l (Md.new c a ds) :=
 ⟨rfl,fun f hf=>by unfold Md.new at hf;rw [List.mem_singleton.1 hf];exact FmI.new ha hb _,fun f hf=>by simp [Md.new] at hf⟩
theorem Vj (x:Bd):x.on.chunk=x.chunk:=by unfold Bd.on;split <;> rfl
theorem Uz (x:Bd) (s:St):(x.step s).1.chunk=x.chunk:=by
 unfold Bd.step;split
 ·exact Vj _
 ·split
  ·simp only;split
   ·exact Vj _
   ·rfl
  ·split
   ·rfl
   ·split
    ·exact Vj _
    ·exact Eb
theorem Yk (x:Bd):x.on.mate=x.mate:=by unfold Bd.on;split <;> rfl
theorem q00 (x:Bd) (s:St):(x.step s).1.mate=x.mate:=by
 unfold Bd.step;split
 ·exact Yk _
 ·split
  ·simp only;split
   ·exact Yk _
   ·rfl
  ·split
   ·rfl
   ·split
    ·exact Yk _
    ·exact Eb
theorem Rz (x:Sl) (s:St):(x.step s).1.chunk=x.chunk/\(x.step s).1.mate=x.mate:=by
 unfold Sl.step;split
 ·exact (Zc x _).2
 ·exact ⟨rfl,rfl⟩
theorem MdI.step (hc:c.Ok) {s:St} (h:OkG c g s.l) (hB:g.M.top<=900000000000000) {m:Md} (hx:MdI c g s.l m):∃ g',Goes c g s.l g' (m.step s).2.l no2 (m.mineP c)/\MdI c g' (m.step s).2.l (m.step s).1/\∀ q,(m.step s).1.mineP c q->m.mineP c q\/g.M.top<=q:=by
 have same:=Goes.same h no2 (m.mineP c);have all:∃ g',Goes c g s.l g' s.l no2 (m.mineP c)/\MdI c g' s.l m/\∀ q,m.mineP c q->m.mineP c q\/g.M.top<=q:=⟨g,same,hx,fun q k=>.inl k⟩;unfold Md.step;cases hg:m.f.getLast? with
 | none=>exact all
 | some f =>
  have hfm:f∈m.f:=List.mem_of_getLast? hg;have hf:=hx.f f hfm
  have below:∀ g':Gst,∀ l' mc mp,Goes c g s.l g' l' mc mp->∀ y,y∈m.f.dropLast->FmI c g' l' y:=fun g' l' mc mp e y hy =>
   (hx.f y (List.dropLast_subset _ hy)).keep hc h e (fun q hq=>by have:=hx.low y hy;have:=hq.1;omega)
  have put:∀ (g':Gst) (l':List Int) (mc:Int->Int->Prop) (mp:Int->Prop) (ds:List Int) (e:Int) (f2:Fm),Goes c g s.l g' l' mc mp->FmI c g' l' f2->MdI c g' l' { m with draws:=ds,e:=e,f:=m.f.dropLast++[f2] }:=fun g' l' mc mp ds e f2 G h2 =>
   ⟨hx.cc,fun y hy=>by
    rcases List.mem_append.1 hy with hy | hy
    ·exact below g' l' mc mp G y hy
    ·rw [List.mem_singleton.1 hy];exact h2,fun y hy=>by simp only [List.dropLast_concat] at hy;exact hx.low y hy⟩
  have mine:∀ (ds:List Int) (e:Int) (f2:Fm) (q:Int),(f2.mineP c q->f.mineP c q\/g.M.top<=q)->({ m with draws:=ds,e:=e,f:=m.f.dropLast++[f2] }:Md).mineP c q->m.mineP c q\/g.M.top<=q:=fun ds e f2 q k ⟨y,hy,hq⟩=>by
   rcases List.mem_append.1 hy with hy | hy
   ·exact .inl ⟨y,List.dropLast_subset _ hy,hq⟩
   ·rw [List.mem_singleton.1 hy] at hq;exact (k hq).imp (fun k=>⟨f,hfm,k⟩) id
  have nom:∀ (f2:Fm) (q:Int),f2.part≠5->f2.mineP c q->f.mineP c q\/g.M.top<=q:=fun f2 q k1 k2=>absurd k2.1 k1
  have wk:∀ (g':Gst) (l':List Int),Goes c g s.l g' l' no2 no1->Goes c g s.l g' l' no2 (m.mineP c):=fun g' l' G=>G.weak (fun _ _ k=>k) (fun _ k=>k.elim)
  have hcm:=hx.cc;simp only;by_cases p1:f.part=1
  ·rw [qf p1];obtain ⟨g',G,k,kS⟩:=hf.ld.step hc h hf.ls;have hb:=hf.keep hc h G (fun q hq=>by have:=hq.1;omega)
   have h2:FmI c g' (f.l.step s).2.l (if (f.l.step s).1.line=0 then { f with l:=(f.l.step s).1,part:=2,s:=some (Sl.new m.c (f.l.step s).1.three.1 (f.l.step s).1.three.2.1) } else { f with l:=(f.l.step s).1 }):=by
    split
    ·rename_i e0;have L:=k.led kS e0;refine ⟨k,fun _=>e0,fun y e=>?_,hf.n,fun e=>by simp at e,fun e=>by simp at e,hb.p,kS,fun y e=>?_,fun _ e=>absurd rfl e,hb.ps⟩
     ·simp only [Option.some.injEq] at e;rw [<- e,hcm];exact SlI.new hc L.K (L.m0 hc G.ok)
     ·simp only [Option.some.injEq] at e;rw [<- e,hcm];exact ⟨SlS.new L.B (L.mB hc G.ok),fun _=>⟨rfl,rfl⟩⟩
    ·exact ⟨k,fun e=>absurd p1 e,hb.s,hf.n,fun e=>by simp only at e;omega,fun e=>by simp only at e;omega,hb.p,kS,fun y e=>⟨(hb.ss y e).1,fun e=>by simp only at e;omega⟩,fun e=>absurd p1 e,hb.ps⟩
   have hp5:(if (f.l.step s).1.line=0 then { f with l:=(f.l.step s).1,part:=2,s:=some (Sl.new m.c (f.l.step s).1.three.1 (f.l.step s).1.three.2.1) } else { f with l:=(f.l.step s).1 }).part≠5:=by split <;> (simp only;omega)
   generalize (if (f.l.step s).1.line=0 then { f with l:=(f.l.step s).1,part:=2,s:=some (Sl.new m.c (f.l.step s).1.three.1 (f.l.step s).1.three.2.1) } else { f with l:=(f.l.step s).1 })=f2 at *;refine ⟨g',wk _ _ G,?_,fun q=>?_⟩
   ·split
    ·exact put g' _ _ _ m.draws.tail m.e f2 G h2
    ·exact put g' _ _ _ m.draws m.e f2 G h2
   ·split
    ·exact mine m.draws.tail m.e f2 q (nom f2 q hp5)
    ·exact mine m.draws m.e f2 q (nom f2 q hp5)
  ·rw [qd p1];have hl0:=hf.l0 p1;have L:=hf.led p1;by_cases p2:f.part=2
   ·rw [qf p2];cases hs:f.s with
    | none=>exact all
    | some x =>
     obtain ⟨g',G,k,kS⟩:=(hf.s x hs).step hc h (hf.ss x hs).1;obtain ⟨c1,c2⟩:=(hf.ss x hs).2 p2;obtain ⟨d1,d2⟩:=Rz x s;have hb:=hf.keep hc h G (fun q hq=>by have:=hq.1;omega);refine ⟨g',wk _ _ G,put g' _ _ _ m.draws m.e _ G ⟨hb.ld,fun _=>hl0,fun y e=>?_,hf.n,fun e=>?_,fun e=>?_,hb.p,hb.ls,fun y e=>?_,fun e e2=>?_,hb.ps⟩,fun q=>mine m.draws m.e _ q (nom _ q ?_)⟩
     ·exact Hv
     ·exact Dp
     ·exact Dp
     ·simp only [Option.some.injEq] at e;rw [<- e];exact ⟨kS,fun _=>⟨d1.trans c1,d2.trans c2⟩⟩
     ·simp only at e2 ⊢;have e0:(x.step s).1.line=0:=Classical.byContradiction fun q=>e2 (qd q)
      rw [<- c1,<- c2,<- d1,<- d2];exact ⟨kS.s1 Lb,fun q=>kS.s2 Lb Lb q⟩
     ·simp only;split <;> omega
   ·rw [qd p2];by_cases p3:f.part=3
    ·rw [qf p3];have hrd:=rd hc h L.K (f:=5) Lb Nf;rw [hrd];refine ⟨g,same,put g _ _ _ m.draws m.e _ same ?_,fun q=>mine m.draws m.e _ q (nom _ q ?_)⟩
     ·split
      ·exact ⟨hf.ld,fun _=>hl0,hf.s,hf.n,fun e=>by simp at e,fun e=>by simp at e,hf.p,hf.ls,fun y e=>⟨(hf.ss y e).1,fun e=>by simp at e⟩,fun _ _=>hf.sl p1 p2,hf.ps⟩
      ·rename_i e;rw [hcm];exact hf.splice hc h p1 p2 ⟨((h.ki.rp _ L.K).resolve_left e).1,((h.ki.rp _ L.K).resolve_left e).2,rfl⟩
     ·split
      ·simp
      ·simp [Fm.splice]
    ·rw [qd p3];by_cases p4:f.part=4
     ·rw [qf p4];cases hn:f.n with
      | none =>
       refine ⟨g,same,put g _ _ _ m.draws m.e _ same ⟨hf.ld,fun _=>hl0,hf.s,fun y e=>?_,fun e=>by simp only at e;omega,fun e=>by simp only at e;omega,hf.p,hf.ls,hf.ss,hf.sl,hf.ps⟩,fun q=>mine m.draws m.e _ q (nom _ q Ls)⟩;simp only [Option.some.injEq] at e;rw [<- e,hcm];exact ⟨NdI.new hc,q0y.new hc⟩
      | some x =>
       obtain ⟨k1,k2⟩:=hf.n x hn;obtain ⟨G,k3⟩:=k1.step hc h;have k4:=k2.step s;have hb:=hf.keep hc h G (fun q hq=>by have:=hq.1;omega);simp only;refine ⟨g,wk _ _ G,put g _ _ _ m.draws m.e _ G ?_,fun q=>mine m.draws m.e _ q ?_⟩
       ·split
        ·refine ⟨hb.ld,fun _=>hl0,hb.s,fun y e=>?_,fun _ y e=>?_,fun e=>by simp at e,hb.p,hb.ls,fun y e=>⟨(hb.ss y e).1,fun e=>by simp at e⟩,fun _ _=>hb.sl p1 p2,hb.ps⟩
         ·exact Hf
         ·simp only [Option.some.injEq] at e;rw [<- e,hcm];exact ⟨BdI.new hc L (by have h1:=k4.l;have h2:=k4.t8;omega),rfl,rfl⟩
        ·refine ⟨hb.ld,fun _=>hl0,hb.s,fun y e=>?_,fun e=>by simp only at e;omega,fun e=>by simp only at e;omega,hb.p,hb.ls,hb.ss,hb.sl,hb.ps⟩;exact Hf
       ·split
        ·rintro ⟨-,y,e,hq⟩;simp only [Option.some.injEq] at e;rw [<- e] at hq;have:=hq.1;simp [Bd.new] at this
        ·exact nom _ q Ls
     ·rw [qd p4];by_cases p5:f.part=5
      ·rw [qf p5];cases hb:f.b with
       | none=>exact all
       | some x =>
        obtain ⟨k1,k2,k2m⟩:=hf.b p5 x hb;obtain ⟨sl1,sl2⟩:=hf.sl p1 p2;obtain ⟨g',G,k3,k4⟩:=k1.step hc h hB (by rw [k2];exact sl1) (by rw [k2m];exact sl2);have hch:=Uz x s;have hcm2:=q00 x s;have hsl:1<=g'.M.F f.l.three.1 6/\(f.l.three.2.1≠0->1<=g'.M.F f.l.three.2.1 6):=⟨G.ext.st _ L.K sl1,fun q=>G.ext.st _ (L.m0'.resolve_left q) (sl2 q)⟩;have hls:=hf.ls.ext hc h hf.ld G.ext;have hss:∀ y,f.s=some y->SlS c g' y:=fun y e=>(hf.ss y e).1.ext (hf.s y e) G.ext
        have hps:∀ y,f.p=some y->SpS c g' y:=fun y e=>(hf.ps y e).ext hc h (hf.p y e) G.ext
        have bel:=below g' _ _ _ G;have hfl:=hf.ld.ext hc (fun a ha=>h.ki.pos hc ha) G.ext;have GG:Goes c g s.l g' (x.step s).2.l no2 (m.mineP c):=G.weak (fun _ _ k=>k) (fun q k=>⟨f,hfm,p5,x,hb,k⟩);simp only;refine ⟨g',GG,?_,fun q=>?_⟩
        ·by_cases e0:(x.step s).1.line=0
         ·rw [qf e0];by_cases e1:(x.step s).1.e=0
          ·rw [qf e1];have hr:=k3.r0 e0 e1;rw [hch,k2] at hr;refine put g' _ _ _ m.draws m.e _ G ?_;rw [hcm];have F0:FmI c g' (x.step s).2.l ({ f with part:=4,b:=some (x.step s).1 }:Fm):=⟨hfl,fun _=>hl0,fun y e=>(hf.s y e).ext G.ext,hf.n,fun e=>by simp at e,fun e=>by simp at e,fun y e=>(hf.p y e).ext G.ext,hls,fun y e=>⟨hss y e,fun e=>by simp at e⟩,fun _ _=>hsl,hps⟩;exact F0.splice hc G.ok Lc Lc hr
          ·rw [qd e1];exact ⟨hcm,fun y hy=>by simp at hy,fun y hy=>by simp at hy⟩
         ·rw [qd e0];refine put g' _ _ _ m.draws m.e _ G ⟨hfl,fun _=>hl0,fun y e=>(hf.s y e).ext G.ext,hf.n,fun _ y e=>?_,fun e=>by simp only at e;omega,fun y e=>(hf.p y e).ext G.ext,hls,fun y e=>⟨hss y e,fun e=>by simp only at e;omega⟩,fun _ _=>hsl,hps⟩;simp only [Option.some.injEq] at e;rw [<- e];exact ⟨k3,by simp only;rw [hch];exact k2,by simp only;rw [hcm2];exact k2m⟩
        ·by_cases e0:(x.step s).1.line=0
         ·rw [qf e0];by_cases e1:(x.step s).1.e=0
          ·rw [qf e1];exact mine m.draws m.e _ q (nom _ q (by simp [Fm.splice]))
          ·rw [qd e1];rintro ⟨y,hy,-⟩;simp at hy
         ·rw [qd e0];refine mine m.draws m.e _ q ?_;rintro ⟨-,y,e,hq⟩;simp only [Option.some.injEq] at e;rw [<- e] at hq;exact (k4 q hq).imp (fun k=>⟨p5,x,hb,k⟩) id
      ·rw [qd p5];by_cases p6:f.part=6
       ·rw [qf p6];cases hp:f.p with
        | none=>exact all
        | some x =>
         obtain ⟨g',G,k,kS⟩:=(hf.p x hp).step hc h (hf.ps x hp);have hb:=hf.keep hc h G (fun q hq=>by have:=hq.1;omega);have bel:=below g' _ _ _ G;simp only;refine ⟨g',wk _ _ G,?_,fun q=>?_⟩
         ·by_cases e0:(x.step s).1.line=0
          ·rw [qf e0];by_cases e1:(x.step s).1.stuck=0
           ·rw [qf e1];exact ⟨hcm,bel,fun y hy=>hx.low y (List.dropLast_subset _ hy)⟩
           ·rw [qd e1];have hst:=k.st.resolve_left e1;have F0:FmI c g' (x.step s).2.l (({ f with p:=some (x.step s).1 }:Fm)):=⟨hb.ld,fun _=>hl0,hb.s,hf.n,fun e=>absurd e p5,hb.r,fun y e=>Nu,hb.ls,hb.ss,hb.sl,fun y e=>Nt⟩;have F1:=F0.splice hc G.ok p1 p2 (hb.r p6);rw [hcm];refine ⟨rfl,fun y hy=>?_,fun y hy=>?_⟩
            ·simp only at hy;rcases List.mem_append.1 hy with hy | hy
             ·exact bel y hy
             ·simp only [List.mem_cons,List.not_mem_nil,or_false] at hy;rcases hy with rfl | rfl
              ·exact F1
              ·exact FmI.new hst (kS.sB.resolve_left e1) _
            ·simp only at hy;rw [List.dropLast_append_of_ne_nil Lc] at hy;simp only [List.dropLast_cons_cons,List.dropLast_singleton,List.mem_append,List.mem_singleton] at hy;rcases hy with hy | rfl
             ·exact hx.low y hy
             ·rfl
          ·rw [qd e0];exact put g' _ _ _ m.draws m.e _ G ⟨hb.ld,fun _=>hl0,hb.s,hf.n,fun e=>absurd e p5,hb.r,fun y e=>Nu,hb.ls,hb.ss,hb.sl,fun y e=>Nt⟩
         ·by_cases e0:(x.step s).1.line=0
          ·rw [qf e0];by_cases e1:(x.step s).1.stuck=0
           ·rw [qf e1];rintro ⟨y,hy,hq⟩;exact .inl ⟨y,List.dropLast_subset _ hy,hq⟩
           ·rw [qd e1];rintro ⟨y,hy,hq⟩;simp only at hy;rcases List.mem_append.1 hy with hy | hy
            ·exact .inl ⟨y,List.dropLast_subset _ hy,hq⟩
            ·simp only [List.mem_cons,List.not_mem_nil,or_false] at hy;rcases hy with rfl | rfl
             ·have:=hq.1;simp [Fm.splice] at this
             ·have:=hq.1;simp [Fm.new] at this
          ·rw [qd e0];exact mine m.draws m.e _ q (nom _ q p5)
       ·rw [qd p6];exact all
end
end Go.Proofs.YtleclbldlladmaaGreat.Mx
