/- Parts. -/
import Derived.Test.YtppajakfaomkaaaGreatDoorYav
import Derived.Test.YtppajakfaomkaaaGreatDoorYax
import Derived.Test.YtppajakfaomkaaaGreatDoorYbf
set_option linter.unusedVariables false
set_option linter.unusedSimpArgs false
set_option maxRecDepth 100000
set_option maxHeartbeats 12800000
namespace Go.Proofs.YtppajakfaomkaaaGreatDoor.Mx
open Go.RowKit Ar Ref Og Mp
def laid (w:List (Int×Int)) (v p:Int):Int:=w.foldl (fun v q=>if q.1=p then q.2 else v) v
theorem q22 (a b:List (Int×Int)) (v p:Int):laid (a++b) v p=laid b (laid a v p) p:=List.foldl_append
theorem Q6 (q:Int×Int) (b:List (Int×Int)) (v p:Int):laid (q :: b) v p=laid b (if q.1=p then q.2 else v) p:=rfl
theorem Qc {p:Int}:∀ {w:List (Int×Int)} {v:Int},(∀ q∈w,q.1≠p)->laid w v p=v
 | [],_,_=>rfl
 | q :: w,v,h=>by
  rw [Q6,qd (h q (by simp))]
  exact Qc (fun r hr=>h r (by simp [hr]))
def nkF (n:Nk) (f:Int):Int :=
 if f=0 then n.mn else if f=1 then n.ct else if f=2 then n.nx else if f<7 then 0 else
 match n.its[((f - 7) / 3).toNat]? with
 | none=>0
 | some y=>if (f - 7) % 3=0 then vq y.v else if (f - 7) % 3=1 then y.k else y.d
theorem Qz {a:Int} (h0:0<=a) (h1:a<=40000):∀ {l:List It} {k:Nat},k+l.length<=16->∀ q∈yl a k l,a+7+3 * k<=q.1/\q.1<a+7+3 * (k+l.length)
 | [],_,_,q,hq=>by simp [yl] at hq
 | y :: r,k,hk,q,hq=>by
  rw [List.length_cons] at hk ⊢
  have e:Qg a k=a+7+3 * k:=by unfold Qg;exact Zv (by omega) (by omega)
  unfold yl at hq
  rw [e,Zv (by omega) (by omega),Zv (by omega) (by omega)] at hq
  simp only [List.mem_cons] at hq
  rcases hq with rfl | rfl | rfl | hq
  ·simp only;omega
  ·simp only;omega
  ·simp only;omega
  ·have:=Qz h0 h1 (l:=r) (k:=k+1) (by omega) q hq
   omega
theorem q4p {a:Int} (h0:0<=a) (h1:a<=40000):∀ {l:List It} {k i:Nat} {y:It} {o v:Int},k+l.length<=16->l[i]? = some y->0<=o->o<3->laid (yl a k l) v (a+(7+3 * (k+i)+o))=if o=0 then vq y.v else if o=1 then y.k else y.d
 | [],_,_,_,_,_,_,h,_,_=>by simp at h
 | z :: r,k,i,y,o,v,hk,hy,o0,o1=>by
  rw [List.length_cons] at hk
  have e:Qg a k=a+7+3 * k:=by unfold Qg;exact Zv (by omega) (by omega)
  unfold yl
  rw [e,Zv (by omega) (by omega),Zv (by omega) (by omega),Q6,Q6,Q6]
  cases i with
  | zero =>
   obtain rfl:z=y:=by simpa using hy
   rw [Qc (fun q hq=>by have:=(Qz h0 h1 (by omega) q hq).1;omega)]
   simp only
   repeat' split
   all_goals first | rfl | omega
  | succ i =>
   have:=q4p h0 h1 (l:=r) (k:=k+1) (i:=i) (y:=y) (o:=o) (v:=if a+7+3 * (k:Int)+2=a+(7+3 * (k+((i+1:Nat):Int))+o) then z.d else if a+7+3 * (k:Int)+1=a+(7+3 * (k+((i+1:Nat):Int))+o) then z.k else if a+7+3 * (k:Int)=a+(7+3 * (k+((i+1:Nat):Int))+o) then vq z.v else v) (by omega) (by simpa using hy) o0 o1
   rw [<- this]
   congr 1
   omega
theorem Ww {n:Nk} (h0:0<=n.at_) (h1:n.at_<=40000) {cap:Int} (hc:(n.its.length:Int)<=cap) (h16:cap<=16):∀ q∈Z9 n,n.at_<=q.1/\q.1<n.at_+(7+3 * cap):=by
 intro q hq
 unfold Z9 at hq
 rw [Zv (by omega) (by omega),Zv (by omega) (by omega),Zv (by omega) (by omega)] at hq
 simp only [List.mem_cons] at hq
 rcases hq with rfl | rfl | rfl | hq
 ·simp only;omega
 ·simp only;omega
 ·simp only;omega
 ·have:=Qz h0 h1 (by omega) q hq
  omega
theorem qb4 {n:Nk} (h0:0<=n.at_) (h1:n.at_<=40000) (hl:n.its.length<=16) {f:Int} (f0:0<=f):laid (Z9 n) 0 (n.at_+f)=nkF n f:=by
 unfold Z9
 rw [Zv (by omega) (by omega),Zv (by omega) (by omega),Zv (by omega) (by omega),Q6,Q6,Q6]
 unfold nkF
 by_cases c0:f=0
 ·rw [qf c0,Qc (fun q hq=>by have:=(Qz h0 h1 (by omega) q hq).1;omega),qd (by omega),qd (by omega),qf (by omega)]
 rw [qd c0]
 by_cases c1:f=1
 ·rw [qf c1,Qc (fun q hq=>by have:=(Qz h0 h1 (by omega) q hq).1;omega),qd (by omega),qf (by omega)]
 rw [qd c1]
 by_cases c2:f=2
 ·rw [qf c2,Qc (fun q hq=>by have:=(Qz h0 h1 (by omega) q hq).1;omega),qf (by omega)]
 rw [qd c2,qd (show ¬ n.at_+2=n.at_+f by omega),qd (show ¬ n.at_+1=n.at_+f by omega),qd (show ¬ n.at_=n.at_+f by omega)]
 by_cases c7:f<7
 ·rw [qf c7,Qc (fun q hq=>by have:=(Qz h0 h1 (by omega) q hq).1;omega)]
 rw [qd c7]
 cases hy:n.its[((f - 7) / 3).toNat]? with
 | none =>
  have:=List.getElem?_eq_none_iff.1 hy
  rw [Qc (fun q hq=>by have:=(Qz h0 h1 (by omega) q hq).2;omega)]
 | some y =>
  have:=q4p h0 h1 (k:=0) (v:=0) (o:=(f - 7) % 3) (by omega) hy (by omega) (by omega)
  rw [show n.at_+(7+3 * (((0:Nat):Int)+(((f - 7) / 3).toNat:Int))+(f - 7) % 3)=n.at_+f by omega] at this
  exact this
theorem Wq {S cap:Int} (hS:S=7+3 * cap) (h16:cap<=16) (hcap:0<=cap):∀ {ns:List Nk} {j:Nat} {n:Nk} {a v f:Int},0<=a->a+S * ns.length<=40000 ->
  (∀ (i:Nat) (m:Nk),ns[i]? = some m->m.at_=a+S * i/\(m.its.length:Int)<=cap)->ns[j]? = some n->0<=f->f<S->v=0->laid (yz ns) v (n.at_+f)=nkF n f
 | [],_,_,_,_,_,_,_,_,hj,_,_,_=>by simp at hj
 | m :: r,j,n,a,v,f,ha,hb,hm,hj,f0,f1,hv=>by
  have hl:S * (((m :: r).length:Nat):Int)=S * (r.length:Int)+S:=by rw [List.length_cons,Int.natCast_add,Int.mul_add];simp
  have hr0:0<=S * (r.length:Int):=Int.mul_nonneg (by omega) (by omega)
  rw [hl] at hb
  have hm0:=hm 0 m rfl
  have e0:m.at_=a:=by rw [hm0.1];simp
  have hrest:∀ (i:Nat) (k:Nk),r[i]? = some k->k.at_=a+S+S * i/\(k.its.length:Int)<=cap:=fun i k hk=>by
   have:=hm (i+1) k (by simpa using hk)
   rw [Int.natCast_add,Int.mul_add] at this
   exact ⟨by rw [this.1];simp;omega,this.2⟩
  show laid (Z9 m++yz r) v (n.at_+f)=_
  rw [q22]
  cases j with
  | zero =>
   obtain rfl:m=n:=by simpa using hj
   rw [hv,qb4 (by omega) (by omega) (by omega) f0]
   refine Qc (fun q hq=>?_)
   unfold yz at hq
   rw [List.mem_flatMap] at hq
   obtain ⟨k,hk,hq⟩:=hq
   obtain ⟨i,hi⟩:=List.getElem?_of_mem hk
   obtain ⟨k1,k2⟩:=hrest i k hi
   have hil:=(List.getElem?_eq_some_iff.1 hi).1
   have h1:0<=S * (i:Int):=Int.mul_nonneg (by omega) (by omega)
   have h2:S * (i:Int)<=S * (r.length:Int):=Int.mul_le_mul_of_nonneg_left (by omega) (by omega)
   have:=(Ww (by omega) (by omega) k2 h16 q hq).1
   omega
  | succ j =>
   have hj':r[j]? = some n:=by simpa using hj
   obtain ⟨k1,k2⟩:=hrest j n hj'
   have h1:0<=S * (j:Int):=Int.mul_nonneg (by omega) (by omega)
   refine Wq hS h16 hcap (ns:=r) (j:=j) (n:=n) (a:=a+S) (by omega) (by omega) hrest hj' f0 f1 ?_
   rw [hv]
   refine Qc (fun q hq=>?_)
   have:=(Ww (by omega) (by omega) hm0.2 h16 q hq).2
   omega
theorem q3h {s:List It} (cells lo up:Int) (h:Srt s) (hl:∀ x∈s,lo<=x.k/\x.k<up) (hlu:lo<up) {i:Nat} {a:List It} {m:Int} (ha:(xz s cells)[i]? = some a) (hm:(xo lo (xz s cells))[i]? = some m) :
  lo<=m/\m<up/\(∀ x∈a,m<=x.k/\x.k<up)/\∀ m',(xo lo (xz s cells))[i+1]? = some m'->m<m'/\m'<up/\∀ x∈a,x.k<m':=by
 have mem:∀ {j:Nat} {b:List It} {x:It},(xz s cells)[j]? = some b->x∈b->x∈s:=fun hb hx=>by
  rw [<- Ym cells h];exact List.mem_flatten.2 ⟨_,List.mem_of_getElem? hb,hx⟩
 have hme:lo<=m/\m<up/\∀ x∈a,m<=x.k:=by
  cases i with
  | zero =>
   rw [Jj lo (fun e=>by rw [e] at ha;simp at ha)] at hm
   obtain rfl:=qi hm
   exact ⟨Int.le_refl _,hlu,fun x hx=>(hl x (mem ha hx)).1⟩
  | succ i =>
   rw [Jm lo ha] at hm
   have hs:s≠[]:=fun e=>by
    subst e
    have:(xz ([]:List It) cells).length=1:=rfl
    have:=(List.getElem?_eq_some_iff.1 ha).1;omega
   have hfa:=Yc cells h hs a (List.mem_of_getElem? ha)
   obtain ⟨y,b,rfl⟩:=List.exists_cons_of_ne_nil hfa
   obtain rfl:=qi hm
   have hy:=hl y (mem ha (by simp))
   refine ⟨hy.1,hy.2,fun x hx=>?_⟩
   have hsub:(y :: b).Sublist s:=by
    have h1:(y :: b).Sublist (xz s cells).flatten:=List.sublist_flatten_of_mem (List.mem_of_getElem? ha)
    rwa [Ym cells h] at h1
   have hb:=q04 h hsub
   show y.k<=x.k
   rcases List.mem_cons.1 hx with rfl | hx
   ·exact Int.le_refl _
   ·have:=(Vv.1 hb).1 x hx;unfold leT at this;omega
 refine ⟨hme.1,hme.2.1,fun x hx=>⟨hme.2.2 x hx,(hl x (mem ha hx)).2⟩,fun m' hm'=>?_⟩
 have hil:i+1<(xz s cells).length:=by
  have h1:=(List.getElem?_eq_some_iff.1 hm').1
  have:(xo lo (xz s cells)).length=(xz s cells).length:=by
   unfold xo;split
   ·rename_i e;rw [e];rfl
   ·rename_i e;rw [e];simp
  omega
 have hb:(xz s cells)[i+1]? = some (xz s cells)[i+1]:=List.getElem?_eq_getElem hil
 obtain ⟨x,y,e1,e2,e3,e4⟩:=q5r cells lo h (fun x hx=>(hl x hx).1) ha hb hm
 rw [hm'] at e3
 obtain rfl:=qi e3
 have hy:y∈(xz s cells)[i+1]:=List.mem_of_mem_head? (by rw [e2];simp)
 exact ⟨e4,(hl y (mem hb hy)).2,fun z hz=>Kv cells h (Nat.lt_succ_self i) ha hb z hz y hy⟩
theorem q21 (lo:Int) (gs:List (List It)):(xo lo gs).length=gs.length:=by
 unfold xo;split
 ·rfl
 ·simp
noncomputable def q8z (P:Prop) (x y:Int):Int:=@ite Int P (Classical.propDecidable P) x y
theorem Ui {P:Prop} (h:P) (x y:Int):q8z P x y=x:=qf h
theorem q0c {P:Prop} (h:¬ P) (x y:Int):q8z P x y=y:=qd h
section
variable {c:Cf} {g:Gst} {l:List Int}
def Zd (g:Gst) (a m:Int):Int:=g.up (if m=0 then a else m)
structure Own (c:Cf) (g:Gst) (l:List Int) (at_:Int) (n:Nat) (w:List (Int×Int)) (i:Nat):Prop where
 al:Al c at_
 top:at_+za c * (n:Int)<=g.M.top
 wd:at_+za c * (n:Int)<=c.wd
 nk:∀ p,at_<=p->p<at_+za c * (n:Int)->(∀ a,g.K a->¬ (a<=p/\p<a+za c))/\qq l p=laid (w.take i) 0 p
def R9 (c:Cf) (at_:Int) (n:Nat):Int->Prop:=fun q=>at_<=q/\q<at_+za c * (n:Int)
theorem q9l {n:Nk} {i:Int} (h:0<=i):nkF n (7+3 * i)=match n.its[i.toNat]? with | none=>0 | some y=>vq y.v:=by
 unfold nkF
 rw [qd (by omega),qd (by omega),qd (by omega),qd (by omega),show (7+3 * i - 7) / 3=i by omega]
 cases n.its[i.toNat]? with
 | none=>rfl
 | some y=>simp only;rw [qf (by omega)]
theorem qa3 {n:Nk} {i:Int} (h:0<=i):nkF n (8+3 * i)=match n.its[i.toNat]? with | none=>0 | some y=>y.k:=by
 unfold nkF
 rw [qd (by omega),qd (by omega),qd (by omega),qd (by omega),show (8+3 * i - 7) / 3=i by omega]
 cases n.its[i.toNat]? with
 | none=>rfl
 | some y=>simp only;rw [qd (by omega),qf (by omega)]
noncomputable def Gst.grown (c:Cf) (g:Gst) (l:List Int) (at_:Int) (n:Nat) (ms:List Int) (hi:Int):Gst where
 K:=fun b=>g.K b\/∃ j:Nat,j<n/\b=at_+za c * (j:Int)
 up:=fun b=>q8z (g.K b) (g.up b) (ms.getD (((b - at_) / za c).toNat+1) hi)
 M:={ g.M with F:=fun b f=>q8z (g.K b) (g.M.F b f) (qq l (b+f)) }
structure qcw (c:Cf) (g:Gst) (l:List Int) (a m r at_:Int) (gs:List (List It)) (its:List It) (vs:List Int):Prop where
 led:Led c g a m r
 bits:∀ y∈its,g.M.F a 0<=y.k/\y.k<Zd g a m
 bgs:gs=xz (Yz its vs) c.c
 ne:ym c at_ r (g.M.F a 0) gs≠[]
theorem qcj (hc:c.Ok) (h:OkG c g l) {a m r:Int} (L:Led c g a m r):g.M.F a 0<Zd g a m/\Zd g a m<=64/\g.up a<=Zd g a m:=by
 have h1:=h.ki.mn a L.K
 unfold Zd
 by_cases e:m=0
 ·rw [qf e];omega
 ·rw [qd e]
  have h2:=h.ki.mn m ((L.m0 hc h).resolve_left e)
  have h3:=L.mn hc h e
  omega
theorem Ku {at_ r mn:Int} {gs:List (List It)} (h:ym c at_ r mn gs≠[]):ym c at_ r mn gs=jq c at_ r gs (xo mn gs)/\∀ g∈gs,(g.length:Int)<=c.c:=by
 unfold ym at *
 by_cases e:(gs.all fun g=>decide ((g.length:Int)<=c.c))=true
 ·rw [qf e] at h ⊢
  exact ⟨rfl,fun g hg=>by simpa using List.all_eq_true.1 e g hg⟩
 ·rw [qd e] at h;exact absurd rfl h
theorem mulS (S:Int) (j:Nat):S * ((j+1:Nat):Int)=S * (j:Int)+S:=by rw [Int.natCast_add,Int.mul_add];simp
theorem qbo {S:Int} (hS:0<=S) {i j:Nat} (h:i<=j):S * (i:Int)<=S * (j:Int):=Int.mul_le_mul_of_nonneg_left (by omega) hS
theorem Rw {S:Int} (hS:0<=S) {i j:Nat} (h:i<j):S * (i:Int)+S<=S * (j:Int):=by
 rw [<- mulS];exact qbo hS h
theorem q1d {a:Int} (h0:0<=a) (h1:a<=1000000):jv a false=2 * a:=by
 unfold jv hd;simp only [Bool.false_eq_true,if_false];omega
theorem grown (hc:c.Ok) (h:OkG c g l) {a m r at_:Int} {gs:List (List It)} {its:List It} {vs:List Int} {w:List (Int×Int)} (B:qcw c g l a m r at_ gs its vs) (hw:w=yz (ym c at_ r (g.M.F a 0) gs)) (O:Own c g l at_ gs.length w w.length) :
  OkG c (g.grown c l at_ gs.length (xo (g.M.F a 0) gs) (Zd g a m)) l/\Ext c g (g.grown c l at_ gs.length (xo (g.M.F a 0) gs) (Zd g a m)) /\
  (∀ b,(g.grown c l at_ gs.length (xo (g.M.F a 0) gs) (Zd g a m)).K b->¬ g.K b->0<=(g.grown c l at_ gs.length (xo (g.M.F a 0) gs) (Zd g a m)).M.F b 1/\(g.grown c l at_ gs.length (xo (g.M.F a 0) gs) (Zd g a m)).M.F b 1<=16)/\0<gs.length /\
  (g.grown c l at_ gs.length (xo (g.M.F a 0) gs) (Zd g a m)).M.F at_ 0=g.M.F a 0:=by
 have hsz:=yd hc
 have hmn:=h.ki.mn a B.led.K
 have hhi:=qcj hc h B.led
 have hal:=Z2 hc O.al
 have hw2:=hc.w2
 obtain ⟨ec,hlen⟩:=Ku B.ne
 have hS:za c=7+3 * c.c:=rfl
 have hn0:0<=za c * (gs.length:Int):=Int.mul_nonneg (by omega) (by omega)
 have hwd:=O.wd
 have hsrt:=q6t its vs
 have hks:∀ y∈Yz its vs,g.M.F a 0<=y.k/\y.k<Zd g a m:=fun y hy=>B.bits y (q50.1 ((Y1 vs _).subset hy))
 have gk:∀ {i:Nat} {b:List It} {mm:Int},gs[i]? = some b->(xo (g.M.F a 0) gs)[i]? = some mm->g.M.F a 0<=mm/\mm<Zd g a m/\(∀ x∈b,mm<=x.k/\x.k<Zd g a m)/\∀ m',(xo (g.M.F a 0) gs)[i+1]? = some m'->mm<m'/\m'<Zd g a m/\∀ x∈b,x.k<m':=fun {i b mm} h1 h2=>by
  rw [B.bgs] at h1 h2 ⊢
  exact q3h (cells:=c.c) (g.M.F a 0) (Zd g a m) hsrt hks hhi.1 h1 h2
 have hgl:0<gs.length:=by
  rw [B.bgs];exact q6x c.c hsrt
 have hml:=q21 (g.M.F a 0) gs
 -- a new chunk's place
 have place:∀ j:Nat,j<gs.length->at_<=at_+za c * (j:Int)/\at_+za c * (j:Int)+za c<=at_+za c * (gs.length:Int):=fun j hj=>by
  have h1:0<=za c * (j:Int):=Int.mul_nonneg (by omega) (by omega)
  have h2:=Rw (S:=za c) (by omega) hj
  omega
 have notK:∀ j:Nat,j<gs.length->¬ g.K (at_+za c * (j:Int)):=fun j hj k=>by
  obtain ⟨h1,h2⟩:=place j hj
  exact (O.nk (at_+za c * (j:Int)) h1 (by omega)).1 _ k ⟨Int.le_refl _,by omega⟩
 -- a new chunk's words
 have words:∀ j:Nat,j<gs.length->∀ f,0<=f->f<za c->qq l (at_+za c * (j:Int)+f)=nkF ⟨at_+za c * (j:Int),(xo (g.M.F a 0) gs).getD j 0,(gs.getD j []).length,jv (if j+1=gs.length then r else at_+za c * ((j:Int)+1)) false,gs.getD j []⟩ f:=fun j hj f f0 f1=>by
  obtain ⟨h1,h2⟩:=place j hj
  rw [(O.nk _ (by omega) (by omega)).2,List.take_length,hw,ec]
  have at_j:∀ (i:Nat),i<gs.length->(jq c at_ r gs (xo (g.M.F a 0) gs))[i]? = some ⟨at_+za c * (i:Int),(xo (g.M.F a 0) gs).getD i 0,(gs.getD i []).length,jv (if i+1=gs.length then r else at_+za c * ((i:Int)+1)) false,gs.getD i []⟩:=fun i hi=>by
   refine Yk r (by omega) gs at_ _ i _ _ (by omega) (by omega) ?_ ?_
   ·rw [List.getD_eq_getElem?_getD,List.getElem?_eq_getElem hi];rfl
   ·rw [List.getD_eq_getElem?_getD,List.getElem?_eq_getElem (by omega)];rfl
  refine Wq (S:=za c) (cap:=c.c) hS hc.c16 (by omega) (a:=at_) (j:=j) (v:=0) (by omega) ?_ (fun i m' hm'=>?_) (at_j j hj) f0 f1 rfl
  ·rw [yn];omega
  ·have hil:=(List.getElem?_eq_some_iff.1 hm').1
   rw [yn] at hil
   rw [at_j i hil] at hm'
   cases hm'
   refine ⟨rfl,?_⟩
   simp only
   rw [List.getD_eq_getElem?_getD,List.getElem?_eq_getElem hil]
   exact hlen _ (List.getElem_mem hil)
 generalize hG:g.grown c l at_ gs.length (xo (g.M.F a 0) gs) (Zd g a m)=G
 have KG:∀ b,G.K b↔g.K b\/∃ j:Nat,j<gs.length/\b=at_+za c * (j:Int):=fun b=>by rw [<- hG];exact Iff.rfl
 have FK:∀ b,g.K b->∀ f,G.M.F b f=g.M.F b f:=fun b k f=>by rw [<- hG];exact Ui k _ _
 have uK:∀ b,g.K b->G.up b=g.up b:=fun b k=>by rw [<- hG];exact Ui k _ _
 have FN:∀ j:Nat,j<gs.length->∀ f,0<=f->f<za c->G.M.F (at_+za c * (j:Int)) f=nkF ⟨at_+za c * (j:Int),(xo (g.M.F a 0) gs).getD j 0,(gs.getD j []).length,jv (if j+1=gs.length then r else at_+za c * ((j:Int)+1)) false,gs.getD j []⟩ f:=fun j hj f f0 f1=>by
  rw [<- words j hj f f0 f1,<- hG];exact q0c (notK j hj) _ _
 have uN:∀ j:Nat,j<gs.length->G.up (at_+za c * (j:Int))=(xo (g.M.F a 0) gs).getD (j+1) (Zd g a m):=fun j hj=>by
  rw [<- hG]
  refine (q0c (notK j hj) _ _).trans ?_
  rw [show at_+za c * (j:Int) - at_=(j:Int) * za c by rw [Int.mul_comm];omega,Int.mul_ediv_cancel _ (by omega)]
  rfl
 have e1:G.M.hn=g.M.hn:=by rw [<- hG];rfl
 have e2:G.M.ht=g.M.ht:=by rw [<- hG];rfl
 have e3:G.M.top=g.M.top:=by rw [<- hG];rfl
 have KN:∀ j:Nat,j<gs.length->G.K (at_+za c * (j:Int)):=fun j hj=>(KG _).2 (.inr ⟨j,hj,rfl⟩)
 have new:∀ b,G.K b->¬ g.K b->∃ j:Nat,j<gs.length/\b=at_+za c * (j:Int):=fun b k n=>((KG b).1 k).resolve_left n
 have hct:∀ j:Nat,j<gs.length->((gs.getD j []).length:Int)<=c.c:=fun j hj=>by
  rw [List.getD_eq_getElem?_getD,List.getElem?_eq_getElem hj];exact hlen _ (List.getElem_mem hj)
 have keys:∀ j:Nat,j<gs.length->g.M.F a 0<=(xo (g.M.F a 0) gs).getD j 0/\(xo (g.M.F a 0) gs).getD j 0<(xo (g.M.F a 0) gs).getD (j+1) (Zd g a m)/\(xo (g.M.F a 0) gs).getD (j+1) (Zd g a m)<=Zd g a m/\∀ y∈gs.getD j [],(xo (g.M.F a 0) gs).getD j 0<=y.k/\y.k<(xo (g.M.F a 0) gs).getD (j+1) (Zd g a m):=fun j hj=>by
  have g1:gs[j]? = some (gs.getD j []):=by rw [List.getD_eq_getElem?_getD,List.getElem?_eq_getElem hj];rfl
  have g2:(xo (g.M.F a 0) gs)[j]? = some ((xo (g.M.F a 0) gs).getD j 0):=by rw [List.getD_eq_getElem?_getD,List.getElem?_eq_getElem (by omega)];rfl
  obtain ⟨k1,k2,k3,k4⟩:=gk g1 g2
  by_cases hl:j+1<gs.length
  ·have g3:(xo (g.M.F a 0) gs)[j+1]? = some ((xo (g.M.F a 0) gs).getD (j+1) (Zd g a m)):=by rw [List.getD_eq_getElem?_getD,List.getElem?_eq_getElem (by omega)];rfl
   obtain ⟨q1,q2,q3⟩:=k4 _ g3
   exact ⟨k1,q1,by omega,fun y hy=>⟨(k3 y hy).1,q3 y hy⟩⟩
  ·have g3:(xo (g.M.F a 0) gs).getD (j+1) (Zd g a m)=Zd g a m:=by rw [List.getD_eq_getElem?_getD,List.getElem?_eq_none (by omega)];rfl
   rw [g3]
   exact ⟨k1,k2,Int.le_refl _,k3⟩
 have brand:∀ b,G.K b->¬ g.K b->qcd c G.K G.up G.M b:=fun b k n=>by
  obtain ⟨j,hj,rfl⟩:=new b k n
  obtain ⟨p1,p2⟩:=place j hj
  obtain ⟨q1,q2,q3,q4⟩:=keys j hj
  have f0:=FN j hj 0 (by omega) (by omega)
  have f1:=FN j hj 1 (by omega) (by omega)
  have f2:=FN j hj 2 (by omega) (by omega)
  have f3:=FN j hj 3 (by omega) (by omega)
  have f4:=FN j hj 4 (by omega) (by omega)
  have f5:=FN j hj 5 (by omega) (by omega)
  have htop:=O.top
  simp only [nkF] at f0 f1 f2 f3 f4 f5
  simp only [qf,if_true,qd,show (1:Int)≠0 by decide,show (2:Int)≠0 by decide,show (2:Int)≠1 by decide,show (3:Int)≠0 by decide,show (3:Int)≠1 by decide,show (3:Int)≠2 by decide,show (4:Int)≠0 by decide,show (4:Int)≠1 by decide,show (4:Int)≠2 by decide,show (5:Int)≠0 by decide,show (5:Int)≠1 by decide,show (5:Int)≠2 by decide,show (3:Int)<7 by decide,show (4:Int)<7 by decide,show (5:Int)<7 by decide,if_false] at f0 f1 f2 f3 f4 f5
  refine ⟨⟨?_,by omega,by rw [e3];omega⟩,?_,?_,f3,f4,f5,fun i i0 i1=>?_,fun i i0 i1=>?_,by rw [f1];have:=hct j hj;have:=hc.c16;omega⟩
  ·obtain ⟨k,hk⟩:=O.al
   exact ⟨k+j,by rw [hk,Int.natCast_add,Int.add_mul,Int.mul_comm (za c)];omega⟩
  ·rw [f0,uN j hj];omega
  ·rw [f2,uN j hj]
   by_cases hl:j+1=gs.length
   ·rw [qf hl]
    have g3:(xo (g.M.F a 0) gs).getD (j+1) (Zd g a m)=Zd g a m:=by rw [List.getD_eq_getElem?_getD,List.getElem?_eq_none (by omega)];rfl
    rw [g3]
    rcases B.led.behind hc h with ⟨b1,b2⟩ | ⟨b1,b2⟩
    ·left;rw [b1];exact ⟨by decide,b2⟩
    ·right
     have:=Ta hc h b1
     rw [q1d (by omega) (by omega),show 2 * r / 2=r by omega]
     exact ⟨(KG _).2 (.inl b1),by rw [FK _ b1];exact b2⟩
   ·rw [qd hl]
    right
    have hj1:j+1<gs.length:=by omega
    obtain ⟨p3,p4⟩:=place (j+1) hj1
    have em:at_+za c * ((j:Int)+1)=at_+za c * ((j+1:Nat):Int):=by rw [Int.natCast_add];rfl
    rw [em,q1d (by omega) (by omega),show 2 * (at_+za c * ((j+1:Nat):Int)) / 2=at_+za c * ((j+1:Nat):Int) by omega]
    refine ⟨KN _ hj1,?_⟩
    rw [FN _ hj1 0 (by omega) (by omega)]
    simp only [nkF,if_true]
    rw [List.getD_eq_getElem?_getD,List.getD_eq_getElem?_getD,List.getElem?_eq_getElem (by omega)];rfl
  ·have h16:=hc.c16
   rw [FN j hj _ (by omega) (by unfold za;omega),FN j hj (8+3 * i) (by omega) (by unfold za;omega),q9l i0,qa3 i0,f0,uN j hj]
   simp only
   cases hy:(gs.getD j [])[i.toNat]? with
   | none=>intro k;simp at k
   | some y=>intro _ _;exact q4 y (List.mem_of_getElem? hy)
  ·have h16:=hc.c16
   rw [f1,FN j hj _ (by omega) (by unfold za;omega),q9l i0]
   intro k
   simp only
   rw [List.getElem?_eq_none (by omega)]
   exact .inl rfl
 have ki:KI c G.K G.up G.M:=h.ki.grow (fun b k=>(KG b).2 (.inl k)) uK (fun b k f=>FK b k f) e1 (fun k=>by rw [e2]) e3 brand
 refine ⟨⟨ki,⟨h.rel.len,fun b k f h0 h1=>?_,by rw [e1];exact h.rel.hn,fun k h0 h1=>by rw [e2];exact h.rel.ht k h0 h1,by rw [e3];exact h.rel.top,fun p hp=>h.rel.fz p (by rw [<- e3];exact hp)⟩⟩,?_,fun b k n=>(brand b k n).c16,hgl,?_⟩
 ·by_cases kk:g.K b
  ·rw [FK b kk];exact h.rel.F b kk f h0 h1
  ·rw [<- hG];exact (q0c kk _ _).symm
 ·exact ⟨fun b k=>(KG b).2 (.inl k),uK,fun b k=>FK b k 0,fun b k _=>FK b k 2,fun b k _=>FK b k 3,fun b k _=>FK b k 4,fun b k _=>FK b k 5,fun b i k _ _ _=>⟨FK b k _,FK b k _,FK b k _⟩,fun b k=>by rw [FK b k];exact Int.le_refl _,by rw [e3];exact Int.le_refl _⟩
 ·have:=FN 0 hgl 0 (by omega) (by omega)
  simp only [nkF,if_true] at this
  rw [show at_+za c * ((0:Nat):Int)=at_ by simp] at this
  rw [this]
  rw [List.getD_eq_getElem?_getD,Jj _ (fun e=>by rw [e] at hgl;simp at hgl)];rfl
theorem Tp (hc:c.Ok) (h:OkG c g l) {a m r at_:Int} {gs:List (List It)} {its:List It} {vs:List Int} {w:List (Int×Int)} (B:qcw c g l a m r at_ gs its vs) (hw:w=yz (ym c at_ r (g.M.F a 0) gs)) (O:Own c g l at_ gs.length w w.length) (h5:g.M.F a 5=0) :
  ∃ g',Goes c g l g' (yp l (a+5) at_) no2 (R9 c at_ gs.length)/\g'.M.F a 5≠0:=by
 obtain ⟨ok,ext,ct,hgl,e0⟩:=grown hc h B hw O
 have hsz:=yd hc
 have hal:=Z2 hc O.al
 have ka:=ext.K _ B.led.K
 have eF:∀ b,g.K b->∀ f,(g.grown c l at_ gs.length (xo (g.M.F a 0) gs) (Zd g a m)).M.F b f=g.M.F b f:=fun b k f=>Ui k _ _
 have kat:(g.grown c l at_ gs.length (xo (g.M.F a 0) gs) (Zd g a m)).K at_:=.inr ⟨0,hgl,by simp⟩
 have hK:∀ b,(g.grown c l at_ gs.length (xo (g.M.F a 0) gs) (Zd g a m)).K b->g.K b\/∃ j:Nat,j<gs.length/\b=at_+za c * (j:Int):=fun b k=>k
 have e3:(g.grown c l at_ gs.length (xo (g.M.F a 0) gs) (Zd g a m)).M.top=g.M.top:=rfl
 generalize g.grown c l at_ gs.length (xo (g.M.F a 0) gs) (Zd g a m)=G at *
 have G2:=q5j hc ok ka (v:=at_) (by rw [eF a B.led.K];exact h5) ⟨kat,by rw [eF a B.led.K];exact e0⟩
 have hnc:∀ b f,f≠5->(G.set a 5 at_).M.F b f=G.M.F b f:=fun b f hf=>xg hf
 refine ⟨_,⟨G2.ok,ext.trans G2.ext,⟨fun b i kb i0 i1 _ k=>?_,fun p p0 p1 p2 p3=>?_⟩,fun b kb=>?_,?_⟩,?_⟩
 ·rw [hnc b _ (by omega),hnc b _ (by omega),eF b kb,eF b kb];exact ⟨k,rfl⟩
 ·have hne:∀ b,G.K b->¬ (b<=p/\p<b+za c):=fun b kb hp=>by
   rcases hK b kb with kb | ⟨j,hj,rfl⟩
   ·exact p2 b kb hp
   ·have h1:0<=za c * (j:Int):=Int.mul_nonneg (by omega) (by omega)
    have h2:=Rw (S:=za c) (by omega) hj
    exact p3 ⟨by omega,by omega⟩
  exact G2.kp.priv p p0 (by rw [e3];exact p1) hne (fun k=>k)
 ·have kb':G.K b:=kb
  by_cases k:g.K b
  ·left;refine ⟨k,?_⟩
   rw [hnc b 1 (by omega),eF b k];omega
  ·right;rw [hnc b 1 (by omega)];exact ct b kb' k
 ·show (G.set a 5 at_).M.top<=_
  rw [show (G.set a 5 at_).M.top=G.M.top from rfl,e3];omega
 ·rw [show (G.set a 5 at_).M.F a 5=at_ from upd_same _ _ _ _];omega
end
section
variable {c:Cf} {g:Gst} {l:List Int}
theorem Own.keep (hc:c.Ok) {g':Gst} {l':List Int} {mc:Int->Int->Prop} {mp:Int->Prop} {a:Int} {n i:Nat} {w:List (Int×Int)} (h:Own c g l a n w i) (e:Goes c g l g' l' mc mp) (hm:∀ q,R9 c a n q->¬ mp q):Own c g' l' a n w i:=by
 have hal:=Z2 hc h.al
 have ht:=h.top
 refine ⟨h.al,Int.le_trans ht e.ext.top,h.wd,fun p p0 p1=>?_⟩
 obtain ⟨h1,h2⟩:=h.nk p p0 p1
 obtain ⟨k1,k2⟩:=e.kp.priv p (by omega) (by omega) h1 (hm p ⟨p0,p1⟩)
 exact ⟨k2,k1.trans h2⟩
structure BdI (c:Cf) (g:Gst) (l:List Int) (x:Bd):Prop where
 cc:x.c=c
 inv:x.line=0\/Ze x
 led:Led c g x.chunk x.mate x.after
 mn:2<=x.line->x.mn=g.M.F x.chunk 0
 its:∀ y∈x.l,g.M.F x.chunk 0<=y.k/\y.k<Zd g x.chunk x.mate
 c3:x.line=3\/x.line=4->∃ b j,g.K b/\(0<=j/\j<c.c)/\(b=x.chunk\/(b=x.mate/\x.mate≠0))/\x.sa=b+(7+3 * j)/\3<=g.M.F b (7+3 * j)
 k4:x.line=4->g.M.F x.chunk 0<=x.x.k/\x.x.k<Zd g x.chunk x.mate
 g5:5<=x.line->x.groups=xz (Yz x.l x.versions) c.c
 w6:x.line=6\/x.line=7->x.w=yz (ym c x.at_ x.after x.mn x.groups)/\ym c x.at_ x.after x.mn x.groups≠[]/\Own c g l x.at_ x.groups.length x.w (if x.line=6 then x.i.toNat else x.w.length)
 r8:x.line=8->g.M.F x.chunk 5≠0
 r0:x.line=0->x.e=0->g.K x.repl/\g.M.F x.repl 0=g.M.F x.chunk 0
def Bd.mineP (c:Cf) (x:Bd):Int->Prop:=fun q=>(x.line=6\/x.line=7)/\R9 c x.at_ x.groups.length q
theorem q9t (hc:c.Ok) (h:OkG c g l) {g':Gst} (e:Ext c g g') {a m r:Int} (L:Led c g a m r):Zd g' a m=Zd g a m:=by
 unfold Zd
 by_cases k:m=0
 ·rw [qf k];exact e.up _ L.K
 ·rw [qd k];exact e.up _ ((L.m0 hc h).resolve_left k)
theorem BdI.keep (hc:c.Ok) (h:OkG c g l) {g':Gst} {l':List Int} {mc:Int->Int->Prop} {mp:Int->Prop} {x:Bd} (hx:BdI c g l x) (e:Goes c g l g' l' mc mp) (hm:∀ q,x.mineP c q->¬ mp q):BdI c g' l' x:=by
 have e0:=e.ext.mn _ hx.led.K
 have eh:=q9t hc h e.ext hx.led
 refine ⟨hx.cc,hx.inv,hx.led.ext e.ext,by rw [e0];exact hx.mn,by rw [e0,eh];exact hx.its,fun k=>?_,by rw [e0,eh];exact hx.k4,hx.g5,fun k=>?_,fun k=>?_,fun k k2=>?_⟩
 ·obtain ⟨b,j,h1,h2,h3,h4,h5⟩:=hx.c3 k
  exact ⟨b,j,e.ext.K _ h1,h2,h3,h4,by rw [(e.ext.gv b j h1 h2.1 h2.2 h5).1];exact h5⟩
 ·obtain ⟨h1,h2,h3⟩:=hx.w6 k
  exact ⟨h1,h2,h3.keep hc e (fun q hq=>hm q ⟨k,hq⟩)⟩
 ·rw [e.ext.rp _ hx.led.K (hx.r8 k)];exact hx.r8 k
 ·obtain ⟨h1,h2⟩:=hx.r0 k k2
  exact ⟨e.ext.K _ h1,by rw [e.ext.mn _ h1,e0];exact h2⟩
theorem BdI.new (hc:c.Ok) {a m r:Int} (L:Led c g a m r) {vs:List Int} (hv:vs.length<=100):BdI c g l (Bd.new c a m r vs) :=
 ⟨rfl,.inr (Ze.new hc a m r hv),L,fun k=>by simp [Bd.new] at k,fun y hy=>by simp [Bd.new] at hy,fun k=>by simp [Bd.new] at k,fun k=>by simp [Bd.new] at k,fun k=>by simp [Bd.new] at k,fun k=>by simp [Bd.new] at k,fun k=>by simp [Bd.new] at k,fun k=>by simp [Bd.new] at k⟩
theorem qag {x:Bd} (h1:x.c=c) (h2:Ze x.on) (h3:Led c g x.chunk x.mate x.after) (h4:x.mn=g.M.F x.chunk 0) (h5:∀ y∈x.l,g.M.F x.chunk 0<=y.k/\y.k<Zd g x.chunk x.mate):BdI c g l x.on:=by
 unfold Bd.on at *
 by_cases e:kw x.c x.mate<=x.i+1
 ·rw [qf e] at *
  exact ⟨h1,.inr h2,h3,fun _=>h4,h5,fun k=>by simp at k,fun k=>by simp at k,fun _=>by simp only;rw [h1],fun k=>by simp at k,fun k=>by simp at k,fun k=>by simp at k⟩
 ·rw [qd e] at *
  exact ⟨h1,.inr h2,h3,fun _=>h4,h5,fun k=>by simp at k,fun k=>by simp at k,fun k=>by simp at k,fun k=>by simp at k,fun k=>by simp at k,fun k=>by simp at k⟩
theorem Yl (x:Bd):x.on.line=5\/x.on.line=2:=by unfold Bd.on;split <;> simp
theorem qcu (hc:c.Ok) (h:OkG c g l) {a m r b j:Int} (L:Led c g a m r) (hb:b=a\/(b=m/\m≠0)) (hK:g.K b) (hj:0<=j/\j<c.c) (h3:3<=g.M.F b (7+3 * j)):g.M.F a 0<=g.M.F b (8+3 * j)/\g.M.F b (8+3 * j)<Zd g a m:=by
 have h1:=h.ki.cl b j hK hj.1 hj.2 (by omega) (by omega)
 have h2:=qcj hc h L
 rcases hb with rfl | ⟨rfl,hm⟩
 ·omega
 ·have:=L.mn hc h hm
  have:=h.ki.mn a L.K
  have e:Zd g a b=g.up b:=by unfold Zd;rw [qd hm]
  rw [e];omega
theorem q6l (hc:c.Ok) {s:St} (h:OkG c g s.l) {a:Int} {n i:Nat} {w:List (Int×Int)} {q:Int×Int} (O:Own c g s.l a n w i) (hq:w[i]? = some q) (hp:R9 c a n q.1) :
  Goes c g s.l g (s.store q.1 q.2).l no2 (R9 c a n)/\Own c g (s.store q.1 q.2).l a n w (i+1):=by
 have hal:=Z2 hc O.al
 have ht:=O.top
 have hwd:=O.wd
 have hl:=h.rel.len
 have G:=q67 hc h q.2 (p:=q.1) (by have:=hp.1;omega) (by have:=hp.2;omega) (O.nk q.1 hp.1 hp.2).1
 refine ⟨G.weak (fun _ _ k=>k) (fun p k=>by rw [show p=q.1 from k];exact hp),O.al,O.top,O.wd,fun p p0 p1=>⟨(O.nk p p0 p1).1,?_⟩⟩
 rw [Xa,vk,List.take_add_one,hq,Option.toList_some,q22,<- (O.nk p p0 p1).2,Q6]
 show _=if q.1=p then q.2 else qq s.l p
 by_cases e:p=q.1
 ·rw [qf ⟨e,by have:=hp.1;omega,by have:=hp.2;omega⟩,qf e.symm]
 ·rw [qd (fun k=>e k.1),qd (fun k=>e k.symm)]
theorem q8r (hc:c.Ok) {at_ r mn:Int} {gs:List (List It)} (h0:0<=at_) (hb:at_+za c * (gs.length:Int)<=40000) (hne:ym c at_ r mn gs≠[]):∀ q∈yz (ym c at_ r mn gs),R9 c at_ gs.length q.1:=by
 intro q hq
 have hsz:=yd hc
 obtain ⟨ec,hlen⟩:=Ku hne
 rw [ec] at hq
 unfold yz at hq
 rw [List.mem_flatMap] at hq
 obtain ⟨n,hn,hq⟩:=hq
 obtain ⟨i,hi⟩:=List.getElem?_of_mem hn
 have hil:=(List.getElem?_eq_some_iff.1 hi).1
 rw [yn] at hil
 have hml:=q21 mn gs
 rw [Yk (c:=c) r (by omega) gs at_ _ i gs[i] ((xo mn gs)[i]'(by omega)) h0 (by omega) (List.getElem?_eq_getElem hil) (List.getElem?_eq_getElem (by omega))] at hi
 cases hi
 have h1:0<=za c * (i:Int):=Int.mul_nonneg (by omega) (by omega)
 have h2:=Rw (S:=za c) (by omega) hil
 have:=Ww (by simp only;omega) (by simp only;omega) (cap:=c.c) (by simp only;exact hlen _ (List.getElem_mem hil)) hc.c16 q hq
 simp only at this
 unfold R9
 have hS:za c=7+3 * c.c:=rfl
 omega
theorem BdI.step (hc:c.Ok) {s:St} (h:OkG c g s.l) (hB:g.M.top<=900000000) {x:Bd} (hx:BdI c g s.l x):∃ g',Goes c g s.l g' (x.step s).2.l no2 (x.mineP c)/\BdI c g' (x.step s).2.l (x.step s).1/\∀ q,(x.step s).1.mineP c q->x.mineP c q\/g.M.top<=q:=by
 have same:=Goes.same h no2 (x.mineP c)
 have hsz:=yd hc
 have hkb:=Ta hc h hx.led.K
 rcases hx.inv with l0 | inv
 ·have e:x.step s=(x,s):=by unfold Bd.step;rw [qd (by omega),qd (by omega),qd (by omega),qd (by omega),qd (by omega),qd (by omega),qd (by omega),qd (by omega)]
  rw [e];exact ⟨g,same,hx,fun q k=>.inl k⟩
 have hst:=inv.step s
 have nomine:∀ (y:Bd) (q:Int),(y.line≠6/\y.line≠7)->y.mineP c q->x.mineP c q\/g.M.top<=q:=fun y q k1 k2=>by have:=k2.1;omega
 have hi0:=inv.i0
 have cell:2<=x.line/\x.line<=4->∃ b j,g.K b/\(0<=j/\j<c.c)/\(b=x.chunk\/(b=x.mate/\x.mate≠0))/\x.sa=b+(7+3 * j)/\9+3 * j<za c:=fun k=>by
  obtain ⟨i1,i2,-⟩:=inv.i4 k
  rw [hx.cc] at i2
  unfold Bd.sa;rw [hx.cc]
  exact q5c hc h hx.led.K (hx.led.m0 hc h) ⟨i1,i2⟩
 rcases (by have:=inv.ln;omega:x.line=1\/x.line=2\/x.line=3\/x.line=4\/x.line=5\/x.line=6\/x.line=7\/x.line=8) with e | e | e | e | e | e | e | e
 ·have ex:x.step s=(({ x with mn:=qq s.l (wrap64 x.chunk),i:=-1 }:Bd).on,s.load (wrap64 x.chunk)):=by unfold Bd.step;rw [qf e]
  rw [ex] at hst ⊢
  have hon:=Yl ({ x with mn:=qq s.l (wrap64 x.chunk),i:=-1 }:Bd)
  refine ⟨g,same,qag hx.cc (hst.resolve_left (by simp only;omega)) hx.led (rd0 hc h hx.led.K) hx.its,fun q k=>nomine _ q (by simp only at hon ⊢;omega) k⟩
 ·obtain ⟨b,j,hb,hj,hbm,hsa,h9⟩:=cell (by omega)
  have hrd:qq s.l x.sa=g.M.F b (7+3 * j):=by rw [hsa];exact h.rel.F _ hb _ (by omega) (by omega)
  by_cases hv:qq s.l x.sa<3
  ·have ex:x.step s=(({ x with x:=⟨0,Va (qq s.l x.sa),0⟩,line:=3 }:Bd).on,s.load x.sa):=by unfold Bd.step;rw [qd (by omega),qf e];simp only;rw [qf hv]
   rw [ex] at hst ⊢
   have hon:=Yl ({ x with x:=⟨0,Va (qq s.l x.sa),0⟩,line:=3 }:Bd)
   exact ⟨g,same,qag hx.cc (hst.resolve_left (by simp only;omega)) hx.led (hx.mn (by omega)) hx.its,fun q k=>nomine _ q (by simp only at hon ⊢;omega) k⟩
  ·have ex:x.step s=({ x with x:=⟨0,Va (qq s.l x.sa),0⟩,line:=3 },s.load x.sa):=by unfold Bd.step;rw [qd (by omega),qf e];simp only;rw [qd hv]
   rw [ex] at hst ⊢
   rw [hrd] at hv
   exact ⟨g,same,⟨hx.cc,hst,hx.led,fun _=>hx.mn (by omega),hx.its,fun _=>⟨b,j,hb,hj,hbm,hsa,by omega⟩,fun k=>by simp at k,fun k=>by simp at k,fun k=>by simp at k,fun k=>by simp at k,fun k=>by simp at k⟩,fun q k=>nomine _ q (by simp) k⟩
 ·obtain ⟨b,j,hb,hj,hbm,hsa,h3⟩:=hx.c3 (.inl e)
  have hbb:=Ta hc h hb
  have h16:=hc.c16
  have ex:x.step s=({ x with x:=⟨qq s.l (wrap64 (x.sa+1)),x.x.v,x.x.d⟩,line:=4 },s.load (wrap64 (x.sa+1))):=by unfold Bd.step;rw [qd (by omega),qd (by omega),qf e]
  rw [ex] at hst ⊢
  have hk:qq s.l (wrap64 (x.sa+1))=g.M.F b (8+3 * j):=by
   rw [hsa,Zv (by omega) (by unfold za at *;omega),show b+(7+3 * j)+1=b+(8+3 * j) by omega];exact h.rel.F _ hb _ (by omega) (by unfold za;omega)
  refine ⟨g,same,⟨hx.cc,hst,hx.led,fun _=>hx.mn (by omega),hx.its,fun _=>⟨b,j,hb,hj,hbm,hsa,h3⟩,fun _=>?_,fun k=>by simp at k,fun k=>by simp at k,fun k=>by simp at k,fun k=>by simp at k⟩,fun q k=>nomine _ q (by simp) k⟩
  simp only
  rw [hk];exact qcu hc h hx.led hbm hb hj h3
 ·have ex:x.step s=(({ x with x:=⟨x.x.k,x.x.v,qq s.l (wrap64 (x.sa+2))⟩,l:=x.l++[⟨x.x.k,x.x.v,qq s.l (wrap64 (x.sa+2))⟩] }:Bd).on,s.load (wrap64 (x.sa+2))):=by unfold Bd.step;rw [qd (by omega),qd (by omega),qd (by omega),qf e]
  rw [ex] at hst ⊢
  have hon:=Yl ({ x with x:=⟨x.x.k,x.x.v,qq s.l (wrap64 (x.sa+2))⟩,l:=x.l++[⟨x.x.k,x.x.v,qq s.l (wrap64 (x.sa+2))⟩] }:Bd)
  refine ⟨g,same,qag hx.cc (hst.resolve_left (by simp only;omega)) hx.led (hx.mn (by omega)) (fun y hy=>?_),fun q k=>nomine _ q (by simp only at hon ⊢;omega) k⟩
  simp only at hy
  rcases List.mem_append.1 hy with hy | hy
  ·exact hx.its y hy
  ·rw [List.mem_singleton.1 hy];exact hx.k4 e
 ·have htop:=h.rel.top
  have hT:15<=g.M.top:=(Z2 hc h.ki.top).2
  have hg:=inv.g.1
  have hS:za c=7+3 * c.c:=rfl
  obtain ⟨m1,m2,m3⟩:=q1o (g:=x.groups.length) (c:=c.c) (by omega) (by have:=hc.c2;have:=hc.t1;omega) hc.c16
  rw [<- hS] at m1 m2 m3
  have h41:(x.groups.length:Int) * za c<=41 * 55:=Int.mul_le_mul (by omega) (by omega) (by omega) (by omega)
  have ex:x.step s=(x.five (qq s.l 2),s.add 2 (x.groups.length * za x.c)):=by unfold Bd.step;rw [qd (by omega),qd (by omega),qd (by omega),qd (by omega),qf e]
  rw [ex] at hst ⊢
  simp only
  rw [htop,hx.cc,qd4,htop,Zv (a:=g.M.top+(x.groups.length:Int) * za c) (by omega) (by omega)]
  rw [htop] at hst
  have G:=(q8o hc h x.groups.length (by omega)).weak (mc':=no2) (mp':=x.mineP c) (fun _ _ k=>k) (fun _ k=>k.elim)
  have L':=hx.led.ext G.ext
  have hmn:=hx.mn (by omega)
  have hg5:=hx.g5 (by omega)
  unfold Bd.five at hst ⊢
  simp only at hst ⊢
  rw [hx.cc,Zv (by omega) (by omega)] at hst ⊢
  split
  ·exact ⟨_,G,⟨rfl,.inl rfl,L',fun k=>by simp at k,hx.its,fun k=>by simp at k,fun k=>by simp at k,fun k=>by simp at k,fun k=>by simp at k,fun k=>by simp at k,fun _ k=>by simp at k⟩,fun q k=>nomine _ q (by simp) k⟩
  ·rename_i hne
   rw [qd hne] at hst
   have hwd:g.M.top+za c * (x.groups.length:Int)<=c.wd:=by rw [Int.mul_comm];omega
   have hw2:=hc.w2
   have O:Own c { g with M:={ g.M with top:=g.M.top+(x.groups.length:Int) * za c } } (yp s.l 2 (g.M.top+(x.groups.length:Int) * za c)) g.M.top x.groups.length (yz (ym c g.M.top x.after x.mn x.groups)) 0:=by
    refine ⟨h.ki.top,by simp only;rw [Int.mul_comm];omega,hwd,fun p p0 p1=>⟨fun a ha hp=>?_,?_⟩⟩
    ·have:=(h.ki.al a ha).2.2;omega
    ·rw [vk,qd (by omega)];exact h.rel.fz p p0
   refine ⟨_,G,⟨rfl,hst,L',fun _=>hmn,hx.its,fun k=>by simp at k,fun k=>by simp at k,fun _=>hg5,fun _=>⟨rfl,fun k=>hne (.inr (.inr k)),?_⟩,fun k=>by simp at k,fun k=>by simp at k⟩,fun q k=>.inr ?_⟩
   ·simp only [if_true];exact O
   ·exact k.2.1
 ·obtain ⟨w1,w2,O⟩:=hx.w6 (.inl e)
  rw [qf e] at O
  obtain ⟨i0,i1⟩:=inv.w6 e
  have ex:x.step s=({ x with i:=x.i+1,line:=if (x.w.length:Int)<=x.i+1 then 7 else 6 },s.store x.nth.1 x.nth.2):=by unfold Bd.step;rw [qd (by omega),qd (by omega),qd (by omega),qd (by omega),qd (by omega),qf e]
  rw [ex] at hst ⊢
  have hnth:x.w[x.i.toNat]? = some x.nth:=by unfold Bd.nth;rw [List.getD_eq_getElem?_getD,List.getElem?_eq_getElem (by omega)];rfl
  have hal:=Z2 hc O.al
  have hwd:=O.wd
  have hw2:=hc.w2
  have hin:R9 c x.at_ x.groups.length x.nth.1:=q8r hc (by omega) (by omega) w2 x.nth (by rw [<- w1];exact List.mem_of_getElem? hnth)
  obtain ⟨G,O'⟩:=q6l hc h O hnth hin
  refine ⟨g,G.weak (fun _ _ k=>k) (fun q k=>⟨.inl e,k⟩),⟨hx.cc,hst,hx.led,fun _=>hx.mn (by omega),hx.its,fun k=>?_,fun k=>?_,fun _=>hx.g5 (by omega),fun k=>⟨w1,w2,?_⟩,fun k=>?_,fun k=>?_⟩,fun q k=>.inl ⟨.inl e,k.2⟩⟩
  ·simp only at k;split at k <;> omega
  ·simp only at k;split at k <;> omega
  ·simp only at k ⊢
   by_cases hh:(x.w.length:Int)<=x.i+1
   ·rw [qf hh,qd (by omega)]
    rw [show x.w.length=x.i.toNat+1 by omega];exact O'
   ·rw [qd hh,qf rfl,show (x.i+1).toNat=x.i.toNat+1 by omega];exact O'
  ·simp only at k;split at k <;> omega
  ·simp only at k;split at k <;> omega
 ·obtain ⟨w1,w2,O⟩:=hx.w6 (.inr e)
  rw [qd (by omega)] at O
  have ex:x.step s=({ x with line:=8 },s.swap (wrap64 (x.chunk+5)) 0 x.at_):=by unfold Bd.step;rw [qd (by omega),qd (by omega),qd (by omega),qd (by omega),qd (by omega),qd (by omega),qf e]
  rw [ex] at hst ⊢
  simp only
  rw [Zv (by omega) (by omega)]
  have hmn:=hx.mn (by omega)
  have mk:∀ g':Gst,∀ l',Ext c g g'->g'.M.F x.chunk 5≠0->BdI c g' l' { x with line:=8 }:=fun g' l' ee e5=>by
   have e0:=ee.mn _ hx.led.K
   have eh:=q9t hc h ee hx.led
   exact ⟨hx.cc,hst,hx.led.ext ee,fun _=>by simp only;rw [e0];exact hmn,by simp only;rw [e0,eh];exact hx.its,fun k=>by simp at k,fun k=>by simp at k,fun _=>hx.g5 (by omega),fun k=>by simp at k,fun _=>e5,fun k=>by simp at k⟩
  cases hcn:s.can (x.chunk+5) 0 with
  | true =>
   have hp:=jo hcn
   rw [h.rel.F _ hx.led.K 5 (by omega) (by omega)] at hp
   rw [je hcn]
   rw [hmn] at w1 w2
   obtain ⟨g',G,e5⟩:=Tp hc h ⟨hx.led,hx.its,hx.g5 (by omega),w2⟩ w1 O hp
   exact ⟨g',G.weak (fun _ _ k=>k) (fun q k=>⟨.inr e,k⟩),mk g' _ G.ext e5,fun q k=>nomine _ q (by simp) k⟩
  | false =>
   rw [wm hcn]
   exact ⟨g,same,mk g _ (Ext.refl _ _) (Rk hc h hx.led.K (by omega) (by omega) hcn),fun q k=>nomine _ q (by simp) k⟩
 ·have ex:x.step s=({ x with repl:=qq s.l (wrap64 (x.chunk+5)),line:=0 },s.load (wrap64 (x.chunk+5))):=by unfold Bd.step;rw [qd (by omega),qd (by omega),qd (by omega),qd (by omega),qd (by omega),qd (by omega),qd (by omega),qf e]
  rw [ex]
  refine ⟨g,same,⟨hx.cc,.inl rfl,hx.led,fun k=>by simp at k,hx.its,fun k=>by simp at k,fun k=>by simp at k,fun k=>by simp at k,fun k=>by simp at k,fun k=>by simp at k,fun _ _=>?_⟩,fun q k=>nomine _ q (by simp) k⟩
  simp only
  rw [rd hc h hx.led.K (by omega) (by omega)]
  exact (h.ki.rp _ hx.led.K).resolve_left (hx.r8 e)
end
section
variable {c:Cf} {g:Gst} {l:List Int}
structure FmI (c:Cf) (g:Gst) (l:List Int) (f:Fm):Prop where
 ld:LdI c g f.l
 l0:f.part≠1->f.l.line=0
 s:∀ y,f.s=some y->SlI c g y
 n:∀ y,f.n=some y->NdI c y/\Ry y
 b:f.part=5->∀ y,f.b=some y->BdI c g l y/\y.chunk=f.l.three.1
 r:f.part=6->g.K f.repl/\g.M.F f.repl 0=g.M.F f.l.three.1 0
 p:∀ y,f.p=some y->SpI c g y
def Fm.mineP (c:Cf) (f:Fm):Int->Prop:=fun q=>f.part=5/\∃ y,f.b=some y/\y.mineP c q
theorem FmI.led {f:Fm} (h:FmI c g l f) (h1:f.part≠1):Led c g f.l.three.1 f.l.three.2.1 f.l.three.2.2:=h.ld.led (h.l0 h1)
theorem FmI.keep (hc:c.Ok) (h:OkG c g l) {g':Gst} {l':List Int} {mc:Int->Int->Prop} {mp:Int->Prop} {f:Fm} (hf:FmI c g l f) (e:Goes c g l g' l' mc mp) (hm:∀ q,f.mineP c q->¬ mp q):FmI c g' l' f:=by
 refine ⟨hf.ld.ext hc (fun a ha=>h.ki.pos hc ha) e.ext,hf.l0,fun y k=>(hf.s y k).ext e.ext,hf.n,fun k y k2=>?_,fun k=>?_,fun y k=>(hf.p y k).ext e.ext⟩
 ·obtain ⟨h1,h2⟩:=hf.b k y k2
  exact ⟨h1.keep hc h e (fun q hq=>hm q ⟨k,y,k2,hq⟩),h2⟩
 ·obtain ⟨h1,h2⟩:=hf.r k
  have h3:=(hf.led (by omega)).K
  exact ⟨e.ext.K _ h1,by rw [e.ext.mn _ h1,e.ext.mn _ h3];exact h2⟩
theorem FmI.new {a:Int} (ha:g.K a) (d:Bool):FmI c g l (Fm.new c a d) :=
 ⟨LdI.new ha d,fun k=>absurd rfl k,fun y k=>(by cases k),fun y k=>(by cases k),fun k=>(by simp [Fm.new] at k),fun k=>(by simp [Fm.new] at k),fun y k=>(by cases k)⟩
theorem FmI.splice (hc:c.Ok) (h:OkG c g l) {f:Fm} (hf:FmI c g l f) (h1:f.part≠1) {r:Int} (hr:g.K r/\g.M.F r 0=g.M.F f.l.three.1 0):FmI c g l (f.splice c r):=by
 have L:=hf.led h1
 refine ⟨hf.ld,fun _=>hf.l0 h1,hf.s,hf.n,fun k=>(by simp [Fm.splice] at k),fun _=>hr,fun y k=>?_⟩
 unfold Fm.splice at k
 simp only [Option.some.injEq] at k
 rw [<- k]
 exact SpI.new L.K (L.m0 hc h) hr
structure MdI (c:Cf) (g:Gst) (l:List Int) (m:Md):Prop where
 cc:m.c=c
 f:∀ f,f∈m.f->FmI c g l f
 low:∀ f,f∈m.f.dropLast->f.part=6
def Md.mineP (c:Cf) (m:Md):Int->Prop:=fun q=>∃ f,f∈m.f/\f.mineP c q
theorem MdI.keep (hc:c.Ok) (h:OkG c g l) {g':Gst} {l':List Int} {mc:Int->Int->Prop} {mp:Int->Prop} {m:Md} (hm:MdI c g l m) (e:Goes c g l g' l' mc mp) (hp:∀ q,m.mineP c q->¬ mp q):MdI c g' l' m :=
 ⟨hm.cc,fun f hf=>(hm.f f hf).keep hc h e (fun q hq=>hp q ⟨f,hf,hq⟩),hm.low⟩
theorem MdI.new (hc:c.Ok) {a:Int} (ha:g.K a) (ds:List Int):MdI c g l (Md.new c a ds) :=
 ⟨rfl,fun f hf=>by unfold Md.new at hf;rw [List.mem_singleton.1 hf];exact FmI.new ha _,fun f hf=>by simp [Md.new] at hf⟩
theorem Xz (x:Bd):x.on.chunk=x.chunk:=by unfold Bd.on;split <;> rfl
theorem Ue (x:Bd) (s:St):(x.step s).1.chunk=x.chunk:=by
 unfold Bd.step
 split
 ·exact Xz _
 ·split
  ·simp only;split
   ·exact Xz _
   ·rfl
  ·split
   ·rfl
   ·split
    ·exact Xz _
    ·split
     ·unfold Bd.five;simp only;split <;> rfl
     ·split
      ·rfl
      ·split
       ·rfl
       ·split <;> rfl
theorem MdI.step (hc:c.Ok) {s:St} (h:OkG c g s.l) (hB:g.M.top<=900000000) {m:Md} (hx:MdI c g s.l m):∃ g',Goes c g s.l g' (m.step s).2.l no2 (m.mineP c)/\MdI c g' (m.step s).2.l (m.step s).1/\∀ q,(m.step s).1.mineP c q->m.mineP c q\/g.M.top<=q:=by
 have same:=Goes.same h no2 (m.mineP c)
 have all:∃ g',Goes c g s.l g' s.l no2 (m.mineP c)/\MdI c g' s.l m/\∀ q,m.mineP c q->m.mineP c q\/g.M.top<=q:=⟨g,same,hx,fun q k=>.inl k⟩
 unfold Md.step
 cases hg:m.f.getLast? with
 | none=>exact all
 | some f =>
  have hfm:f∈m.f:=List.mem_of_getLast? hg
  have hf:=hx.f f hfm
  have below:∀ g':Gst,∀ l' mc mp,Goes c g s.l g' l' mc mp->∀ y,y∈m.f.dropLast->FmI c g' l' y:=fun g' l' mc mp e y hy =>
   (hx.f y (List.dropLast_subset _ hy)).keep hc h e (fun q hq=>by have:=hx.low y hy;have:=hq.1;omega)
  have put:∀ (g':Gst) (l':List Int) (mc:Int->Int->Prop) (mp:Int->Prop) (ds:List Int) (e:Int) (f2:Fm),Goes c g s.l g' l' mc mp->FmI c g' l' f2->MdI c g' l' { m with draws:=ds,e:=e,f:=m.f.dropLast++[f2] }:=fun g' l' mc mp ds e f2 G h2 =>
   ⟨hx.cc,fun y hy=>by
    rcases List.mem_append.1 hy with hy | hy
    ·exact below g' l' mc mp G y hy
    ·rw [List.mem_singleton.1 hy];exact h2,fun y hy=>by simp only [List.dropLast_concat] at hy;exact hx.low y hy⟩
  have mine:∀ (ds:List Int) (e:Int) (f2:Fm) (q:Int),(f2.mineP c q->f.mineP c q\/g.M.top<=q)->({ m with draws:=ds,e:=e,f:=m.f.dropLast++[f2] }:Md).mineP c q->m.mineP c q\/g.M.top<=q:=fun ds e f2 q k ⟨y,hy,hq⟩=>by
   rcases List.mem_append.1 hy with hy | hy
   ·exact .inl ⟨y,List.dropLast_subset _ hy,hq⟩
   ·rw [List.mem_singleton.1 hy] at hq
    exact (k hq).imp (fun k=>⟨f,hfm,k⟩) id
  have nom:∀ (f2:Fm) (q:Int),f2.part≠5->f2.mineP c q->f.mineP c q\/g.M.top<=q:=fun f2 q k1 k2=>absurd k2.1 k1
  have wk:∀ (g':Gst) (l':List Int),Goes c g s.l g' l' no2 no1->Goes c g s.l g' l' no2 (m.mineP c):=fun g' l' G=>G.weak (fun _ _ k=>k) (fun _ k=>k.elim)
  have hcm:=hx.cc
  simp only
  by_cases p1:f.part=1
  ·rw [qf p1]
   obtain ⟨g',G,k⟩:=hf.ld.step hc h
   have hb:=hf.keep hc h G (fun q hq=>by have:=hq.1;omega)
   have h2:FmI c g' (f.l.step s).2.l (if (f.l.step s).1.line=0 then { f with l:=(f.l.step s).1,part:=2,s:=some (Sl.new m.c (f.l.step s).1.three.1 (f.l.step s).1.three.2.1) } else { f with l:=(f.l.step s).1 }):=by
    split
    ·rename_i e0
     have L:=k.led e0
     refine ⟨k,fun _=>e0,fun y e=>?_,hf.n,fun e=>by simp at e,fun e=>by simp at e,hb.p⟩
     simp only [Option.some.injEq] at e
     rw [<- e,hcm];exact SlI.new hc L.K (L.m0 hc G.ok)
    ·exact ⟨k,fun e=>absurd p1 e,hb.s,hf.n,fun e=>by simp only at e;omega,fun e=>by simp only at e;omega,hb.p⟩
   have hp5:(if (f.l.step s).1.line=0 then { f with l:=(f.l.step s).1,part:=2,s:=some (Sl.new m.c (f.l.step s).1.three.1 (f.l.step s).1.three.2.1) } else { f with l:=(f.l.step s).1 }).part≠5:=by
    split <;> (simp only;omega)
   generalize (if (f.l.step s).1.line=0 then { f with l:=(f.l.step s).1,part:=2,s:=some (Sl.new m.c (f.l.step s).1.three.1 (f.l.step s).1.three.2.1) } else { f with l:=(f.l.step s).1 })=f2 at *
   refine ⟨g',wk _ _ G,?_,fun q=>?_⟩
   ·split
    ·exact put g' _ _ _ m.draws.tail m.e f2 G h2
    ·exact put g' _ _ _ m.draws m.e f2 G h2
   ·split
    ·exact mine m.draws.tail m.e f2 q (nom f2 q hp5)
    ·exact mine m.draws m.e f2 q (nom f2 q hp5)
  ·rw [qd p1]
   have hl0:=hf.l0 p1
   have L:=hf.led p1
   by_cases p2:f.part=2
   ·rw [qf p2]
    cases hs:f.s with
    | none=>exact all
    | some x =>
     obtain ⟨g',G,k⟩:=(hf.s x hs).step hc h
     have hb:=hf.keep hc h G (fun q hq=>by have:=hq.1;omega)
     refine ⟨g',wk _ _ G,put g' _ _ _ m.draws m.e _ G ⟨hb.ld,fun _=>hl0,fun y e=>?_,hf.n,fun e=>?_,fun e=>?_,hb.p⟩,fun q=>mine m.draws m.e _ q (nom _ q ?_)⟩
     ·simp only [Option.some.injEq] at e;rw [<- e];exact k
     ·simp only at e;split at e <;> omega
     ·simp only at e;split at e <;> omega
     ·simp only;split <;> omega
   ·rw [qd p2]
    by_cases p3:f.part=3
    ·rw [qf p3]
     have hrd:=rd hc h L.K (f:=5) (by omega) (by have:=yd hc;omega)
     rw [hrd]
     refine ⟨g,same,put g _ _ _ m.draws m.e _ same ?_,fun q=>mine m.draws m.e _ q (nom _ q ?_)⟩
     ·split
      ·exact ⟨hf.ld,fun _=>hl0,hf.s,hf.n,fun e=>by simp at e,fun e=>by simp at e,hf.p⟩
      ·rename_i e;rw [hcm];exact hf.splice hc h p1 ((h.ki.rp _ L.K).resolve_left e)
     ·split
      ·simp
      ·simp [Fm.splice]
    ·rw [qd p3]
     by_cases p4:f.part=4
     ·rw [qf p4]
      cases hn:f.n with
      | none =>
       refine ⟨g,same,put g _ _ _ m.draws m.e _ same ⟨hf.ld,fun _=>hl0,hf.s,fun y e=>?_,fun e=>by simp only at e;omega,fun e=>by simp only at e;omega,hf.p⟩,fun q=>mine m.draws m.e _ q (nom _ q (by simp only;omega))⟩
       simp only [Option.some.injEq] at e;rw [<- e,hcm];exact ⟨NdI.new hc,Ry.new hc⟩
      | some x =>
       obtain ⟨k1,k2⟩:=hf.n x hn
       obtain ⟨G,k3⟩:=k1.step hc h
       have k4:=k2.step s
       have hb:=hf.keep hc h G (fun q hq=>by have:=hq.1;omega)
       simp only
       refine ⟨g,wk _ _ G,put g _ _ _ m.draws m.e _ G ?_,fun q=>mine m.draws m.e _ q ?_⟩
       ·split
        ·refine ⟨hb.ld,fun _=>hl0,hb.s,fun y e=>?_,fun _ y e=>?_,fun e=>by simp at e,hb.p⟩
         ·simp only [Option.some.injEq] at e;rw [<- e];exact ⟨k3,k4⟩
         ·simp only [Option.some.injEq] at e;rw [<- e,hcm];exact ⟨BdI.new hc L (by have h1:=k4.l;have h2:=k4.t8;omega),rfl⟩
        ·refine ⟨hb.ld,fun _=>hl0,hb.s,fun y e=>?_,fun e=>by simp only at e;omega,fun e=>by simp only at e;omega,hb.p⟩
         simp only [Option.some.injEq] at e;rw [<- e];exact ⟨k3,k4⟩
       ·split
        ·rintro ⟨-,y,e,hq⟩
         simp only [Option.some.injEq] at e
         rw [<- e] at hq
         have:=hq.1;simp [Bd.new] at this
        ·exact nom _ q (by simp only;omega)
     ·rw [qd p4]
      by_cases p5:f.part=5
      ·rw [qf p5]
       cases hb:f.b with
       | none=>exact all
       | some x =>
        obtain ⟨k1,k2⟩:=hf.b p5 x hb
        obtain ⟨g',G,k3,k4⟩:=k1.step hc h hB
        have hch:=Ue x s
        have bel:=below g' _ _ _ G
        have hfl:=hf.ld.ext hc (fun a ha=>h.ki.pos hc ha) G.ext
        have GG:Goes c g s.l g' (x.step s).2.l no2 (m.mineP c):=G.weak (fun _ _ k=>k) (fun q k=>⟨f,hfm,p5,x,hb,k⟩)
        simp only
        refine ⟨g',GG,?_,fun q=>?_⟩
        ·by_cases e0:(x.step s).1.line=0
         ·rw [qf e0]
          by_cases e1:(x.step s).1.e=0
          ·rw [qf e1]
           have hr:=k3.r0 e0 e1
           rw [hch,k2] at hr
           refine put g' _ _ _ m.draws m.e _ G ?_
           rw [hcm]
           have F0:FmI c g' (x.step s).2.l ({ f with part:=4,b:=some (x.step s).1 }:Fm):=⟨hfl,fun _=>hl0,fun y e=>(hf.s y e).ext G.ext,hf.n,fun e=>by simp at e,fun e=>by simp at e,fun y e=>(hf.p y e).ext G.ext⟩
           exact F0.splice hc G.ok (by simp) hr
          ·rw [qd e1]
           exact ⟨hcm,fun y hy=>by simp at hy,fun y hy=>by simp at hy⟩
         ·rw [qd e0]
          refine put g' _ _ _ m.draws m.e _ G ⟨hfl,fun _=>hl0,fun y e=>(hf.s y e).ext G.ext,hf.n,fun _ y e=>?_,fun e=>by simp only at e;omega,fun y e=>(hf.p y e).ext G.ext⟩
          simp only [Option.some.injEq] at e;rw [<- e];exact ⟨k3,by simp only;rw [hch];exact k2⟩
        ·by_cases e0:(x.step s).1.line=0
         ·rw [qf e0]
          by_cases e1:(x.step s).1.e=0
          ·rw [qf e1];exact mine m.draws m.e _ q (nom _ q (by simp [Fm.splice]))
          ·rw [qd e1];rintro ⟨y,hy,-⟩;simp at hy
         ·rw [qd e0]
          refine mine m.draws m.e _ q ?_
          rintro ⟨-,y,e,hq⟩
          simp only [Option.some.injEq] at e
          rw [<- e] at hq
          exact (k4 q hq).imp (fun k=>⟨p5,x,hb,k⟩) id
      ·rw [qd p5]
       by_cases p6:f.part=6
       ·rw [qf p6]
        cases hp:f.p with
        | none=>exact all
        | some x =>
         obtain ⟨g',G,k⟩:=(hf.p x hp).step hc h
         have hb:=hf.keep hc h G (fun q hq=>by have:=hq.1;omega)
         have bel:=below g' _ _ _ G
         simp only
         refine ⟨g',wk _ _ G,?_,fun q=>?_⟩
         ·by_cases e0:(x.step s).1.line=0
          ·rw [qf e0]
           by_cases e1:(x.step s).1.stuck=0
           ·rw [qf e1]
            exact ⟨hcm,bel,fun y hy=>hx.low y (List.dropLast_subset _ hy)⟩
           ·rw [qd e1]
            have hst:=k.st.resolve_left e1
            have F0:FmI c g' (x.step s).2.l (({ f with p:=some (x.step s).1 }:Fm)):=⟨hb.ld,fun _=>hl0,hb.s,hf.n,fun e=>absurd e p5,hb.r,fun y e=>by simp only [Option.some.injEq] at e;rw [<- e];exact k⟩
            have F1:=F0.splice hc G.ok p1 (hb.r p6)
            rw [hcm]
            refine ⟨rfl,fun y hy=>?_,fun y hy=>?_⟩
            ·simp only at hy
             rcases List.mem_append.1 hy with hy | hy
             ·exact bel y hy
             ·simp only [List.mem_cons,List.not_mem_nil,or_false] at hy
              rcases hy with rfl | rfl
              ·exact F1
              ·exact FmI.new hst _
            ·simp only at hy
             rw [List.dropLast_append_of_ne_nil (by simp)] at hy
             simp only [List.dropLast_cons_cons,List.dropLast_singleton,List.mem_append,List.mem_singleton] at hy
             rcases hy with hy | rfl
             ·exact hx.low y hy
             ·rfl
          ·rw [qd e0]
           exact put g' _ _ _ m.draws m.e _ G ⟨hb.ld,fun _=>hl0,hb.s,hf.n,fun e=>absurd e p5,hb.r,fun y e=>by simp only [Option.some.injEq] at e;rw [<- e];exact k⟩
         ·by_cases e0:(x.step s).1.line=0
          ·rw [qf e0]
           by_cases e1:(x.step s).1.stuck=0
           ·rw [qf e1];rintro ⟨y,hy,hq⟩;exact .inl ⟨y,List.dropLast_subset _ hy,hq⟩
           ·rw [qd e1]
            rintro ⟨y,hy,hq⟩
            simp only at hy
            rcases List.mem_append.1 hy with hy | hy
            ·exact .inl ⟨y,List.dropLast_subset _ hy,hq⟩
            ·simp only [List.mem_cons,List.not_mem_nil,or_false] at hy
             rcases hy with rfl | rfl
             ·have:=hq.1;simp [Fm.splice] at this
             ·have:=hq.1;simp [Fm.new] at this
          ·rw [qd e0];exact mine m.draws m.e _ q (nom _ q p5)
       ·rw [qd p6];exact all
end
section
variable {c:Cf} {g:Gst} {l:List Int}
structure PtI (c:Cf) (g:Gst) (l:List Int) (x:Pt):Prop where
 cc:x.c=c
 key:0<=x.key/\x.key<=63
 wkey:x.w.key=x.key
 wi:x.m=none->x.x=none->WkI c g x.w
 xi:x.m=none->∀ y,x.x=some y->ClI c g y
 mi:∀ y,x.m=some y->MdI c g l y
def Pt.mineC (x:Pt):Int->Int->Prop:=fun a i=>x.m=none/\∃ y,x.x=some y/\y.mine a i
def Pt.mineP (c:Cf) (x:Pt):Int->Prop:=fun q=>∃ y,x.m=some y/\y.mineP c q
theorem PtI.new {key:Int} (hk:0<=key/\key<=63) (d:Int) (ds:List Int):PtI c g l (Pt.new c key d ds) :=
 ⟨rfl,hk,rfl,fun _ _=>WkI.new hk,fun _ y e=>(by cases e),fun y e=>(by cases e)⟩
theorem PtI.keep (hc:c.Ok) (h:OkG c g l) {g':Gst} {l':List Int} {mc:Int->Int->Prop} {mp:Int->Prop} {x:Pt} (hx:PtI c g l x) (e:Goes c g l g' l' mc mp) (h1:∀ a i,x.mineC a i->¬ mc a i) (h2:∀ q,x.mineP c q->¬ mp q):PtI c g' l' x :=
 ⟨hx.cc,hx.key,hx.wkey,fun k1 k2=>(hx.wi k1 k2).ext e.ext (kg hc e.ok),fun k1 y k2=>(hx.xi k1 y k2).keep e (fun a i hm=>h1 a i ⟨k1,y,k2,hm⟩),fun y k=>(hx.mi y k).keep hc h e (fun q hq=>h2 q ⟨y,k,hq⟩)⟩
theorem ClI.new {a key:Int} (ha:g.K a) (hk:g.M.F a 0<=key/\key<g.up a) (d:Int):ClI c g (Cl.new c a key d) :=
 ⟨rfl,ha,hk,fun k=>by simp [Cl.new] at k,fun k=>by simp [Cl.new] at k,fun k=>by simp [Cl.new] at k,by simp [Cl.new]⟩
theorem q0v (x:Wk) (s:St):(x.step s).1.key=x.key:=by
 unfold Wk.step
 split
 ·unfold Wk.next Wk.head Wk.ends
  (repeat' split) <;> rfl
 ·rfl
theorem PtI.step (hc:c.Ok) {s:St} (h:OkG c g s.l) (hT:g.M.top<=900000000) (hB:∀ a,g.K a->0<=g.M.F a 1/\g.M.F a 1<=900000000) {x:Pt} (hx:PtI c g s.l x) :
  ∃ g',Goes c g s.l g' (x.step s).2.l x.mineC (x.mineP c)/\PtI c g' (x.step s).2.l (x.step s).1/\(∀ a i,(x.step s).1.mineC a i->x.mineC a i\/(g.K a/\i=g.M.F a 1))/\∀ q,(x.step s).1.mineP c q->x.mineP c q\/g.M.top<=q:=by
 have same:=Goes.same h x.mineC (x.mineP c)
 have hcm:=hx.cc
 unfold Pt.step
 by_cases ho:x.over=true
 ·rw [qf ho];exact ⟨g,same,hx,fun a i k=>.inl k,fun q k=>.inl k⟩
 ·rw [qd ho]
  cases em:x.m with
  | some m =>
   simp only
   obtain ⟨g',G,k,kq⟩:=(hx.mi m em).step hc h hT
   have GG:Goes c g s.l g' (m.step s).2.l x.mineC (x.mineP c):=G.weak (fun _ _ k=>k.elim) (fun q k=>⟨m,em,k⟩)
   by_cases e0:(m.step s).1.f=[]
   ·rw [qf e0]
    refine ⟨g',GG,⟨hcm,hx.key,rfl,fun _ _=>?_,fun _ y e=>(by cases e),fun y e=>(by cases e)⟩,fun a i k=>?_,fun q k=>?_⟩
    ·simp only;rw [hcm];exact WkI.new hx.key
    ·obtain ⟨-,y,e,-⟩:=k;cases e
    ·obtain ⟨y,e,-⟩:=k;cases e
   ·rw [qd e0]
    refine ⟨g',GG,⟨hcm,hx.key,hx.wkey,fun e=>(by cases e),fun e=>(by cases e),fun y e=>?_⟩,fun a i k=>?_,fun q k=>?_⟩
    ·simp only [Option.some.injEq] at e;rw [<- e];exact k
    ·obtain ⟨e,-⟩:=k;cases e
    ·obtain ⟨y,e,hq⟩:=k
     simp only [Option.some.injEq] at e;rw [<- e] at hq
     exact (kq q hq).imp (fun k=>⟨m,em,k⟩) id
  | none =>
   simp only
   have nop:∀ (m':Option Md) (q:Int),(∀ y,m'=some y->∀ q,¬ y.mineP c q)->(∃ y,m'=some y/\y.mineP c q)->x.mineP c q\/g.M.top<=q:=fun m' q k1 ⟨y,k2,k3⟩=>absurd k3 (k1 y k2 q)
   cases ex:x.x with
   | some cl =>
    simp only
    obtain ⟨g',G,k,km⟩:=(hx.xi em cl ex).step hc h hB
    have GG:Goes c g s.l g' (cl.step s).2.l x.mineC (x.mineP c):=G.weak (fun a i k=>⟨em,cl,ex,k⟩) (fun _ k=>k.elim)
    have kc:∀ y:Pt,y.x=some (cl.step s).1->∀ a i,y.mineC a i->x.mineC a i\/(g.K a/\i=g.M.F a 1):=fun y e a i ⟨_,z,e2,hz⟩=>by
     rw [e] at e2;simp only [Option.some.injEq] at e2;rw [<- e2] at hz
     rcases km a i hz with q | ⟨-,q2,q3⟩
     ·exact .inl ⟨em,cl,ex,q⟩
     ·rw [q2] at q3 ⊢;exact .inr ⟨(hx.xi em cl ex).K,q3⟩
    refine ⟨g',GG,?_,fun a i=>?_,fun q=>?_⟩
    ·split
     ·split
      ·exact ⟨hcm,hx.key,hx.wkey,fun _ e=>(by cases e),fun _ y e=>by simp only [Option.some.injEq] at e;rw [<- e];exact k,fun y e=>by first | cases e | (simp only at e;rw [em] at e;cases e) | (rw [em] at e;cases e)⟩
      ·refine ⟨hcm,hx.key,hx.wkey,fun e=>(by cases e),fun e=>(by cases e),fun y e=>?_⟩
       simp only [Option.some.injEq] at e
       rw [<- e,hcm];exact MdI.new hc k.K _
     ·exact ⟨hcm,hx.key,hx.wkey,fun _ e=>(by cases e),fun _ y e=>by simp only [Option.some.injEq] at e;rw [<- e];exact k,fun y e=>by first | cases e | (simp only at e;rw [em] at e;cases e) | (rw [em] at e;cases e)⟩
    ·split
     ·split
      ·exact kc _ rfl a i
      ·exact fun k=>absurd k.1 (by simp)
     ·exact kc _ rfl a i
    ·split
     ·split
      ·exact fun ⟨y,e,_⟩=>by first | cases e | (simp only at e;rw [em] at e;cases e) | (rw [em] at e;cases e)
      ·rintro ⟨y,e,f,hf,hq⟩
       simp only [Option.some.injEq] at e
       rw [<- e] at hf
       unfold Md.new at hf
       rw [List.mem_singleton.1 hf] at hq
       have:=hq.1;simp [Fm.new] at this
     ·exact fun ⟨y,e,_⟩=>by first | cases e | (simp only at e;rw [em] at e;cases e) | (rw [em] at e;cases e)
   | none =>
    have k:=(hx.wi em ex).step hc h
    have ea:=J9 x.w s
    have ek:=q0v x.w s
    simp only
    rw [ea]
    refine ⟨g,same,?_,fun a i=>?_,fun q=>?_⟩
    ·split
     ·rename_i e0
      obtain ⟨k1,k2,k3⟩:=k.e0 e0
      rw [ek,hx.wkey] at k2 k3
      refine ⟨hcm,hx.key,ek.trans hx.wkey,fun _ e=>(by cases e),fun _ y e=>?_,fun y e=>by first | cases e | (simp only at e;rw [em] at e;cases e) | (rw [em] at e;cases e)⟩
      simp only [Option.some.injEq] at e
      rw [<- e,hcm];exact ClI.new k1 ⟨k2,k3⟩ _
     ·exact ⟨hcm,hx.key,ek.trans hx.wkey,fun _ _=>k,fun _ y e=>by first | cases e | (simp only at e;rw [ex] at e;cases e) | (rw [ex] at e;cases e),fun y e=>by first | cases e | (simp only at e;rw [em] at e;cases e) | (rw [em] at e;cases e)⟩
    ·split
     ·rintro ⟨-,y,e,hm⟩
      simp only [Option.some.injEq] at e
      rw [<- e] at hm
      have:=hm.1;simp [Cl.new] at this
     ·rintro ⟨-,y,e,hm⟩
      first | cases e | (simp only at e;rw [ex] at e;cases e) | (rw [ex] at e;cases e)
    ·split
     ·exact fun ⟨y,e,_⟩=>by first | cases e | (simp only at e;rw [em] at e;cases e) | (rw [em] at e;cases e)
     ·exact fun ⟨y,e,_⟩=>by first | cases e | (simp only at e;rw [em] at e;cases e) | (rw [em] at e;cases e)
structure ThI (c:Cf) (g:Gst) (l:List Int) (x:Th):Prop where
 tp:∀ y,x.p=some y->PtI c g l y
 tg:∀ y,x.g=some y->GtI c g y
 ts:∀ y,x.s=some y->SnI c g y
def Th.mineC (x:Th):Int->Int->Prop:=fun a i=>∃ y,x.p=some y/\y.mineC a i
def Th.mineP (c:Cf) (x:Th):Int->Prop:=fun q=>∃ y,x.p=some y/\y.mineP c q
theorem ThI.keep (hc:c.Ok) (h:OkG c g l) {g':Gst} {l':List Int} {mc:Int->Int->Prop} {mp:Int->Prop} {x:Th} (hx:ThI c g l x) (e:Goes c g l g' l' mc mp) (h1:∀ a i,x.mineC a i->¬ mc a i) (h2:∀ q,x.mineP c q->¬ mp q):ThI c g' l' x :=
 ⟨fun y k=>(hx.tp y k).keep hc h e (fun a i hm=>h1 a i ⟨y,k,hm⟩) (fun q hq=>h2 q ⟨y,k,hq⟩),fun y k=>(hx.tg y k).ext e.ext (kg hc e.ok),fun y k=>(hx.ts y k).ext e.ext (kg hc e.ok)⟩
theorem ThI.mine_lt {x:Th} (hx:ThI c g l x) {a i:Int} (k:x.mineC a i):g.K a/\i<g.M.F a 1:=by
 obtain ⟨y,h1,h2,z,h3,h4,rfl,rfl⟩:=k
 have h5:=(hx.tp y h1).xi h2 z h3
 exact ⟨h5.K,(h5.own h4).2⟩
theorem ThI.mineP_lt {x:Th} (hx:ThI c g l x) {q:Int} (k:x.mineP c q):q<g.M.top:=by
 obtain ⟨y,h1,m,h2,f,h3,h4,b,h5,h6,h7⟩:=k
 have k1:=(((hx.tp y h1).mi m h2).f f h3).b h4 b h5
 obtain ⟨-,-,O⟩:=k1.1.w6 h6
 have:=O.top
 have:=h7.2
 omega
structure MaI (N:Nat) (c:Cf) (l:List Int) (ts:List Th) (g:Gst):Prop where
 ok:OkG c g l
 ct:∀ a,g.K a->0<=g.M.F a 1/\g.M.F a 1<=16+N
 tp:g.M.top<=20000+3000 * N
 th:∀ (i:Nat) (x:Th),ts[i]? = some x->ThI c g l x
 dc:∀ (i j:Nat) (x y:Th),ts[i]? = some x->ts[j]? = some y->i≠j->∀ a k,x.mineC a k->¬ y.mineC a k
 dp:∀ (i j:Nat) (x y:Th),ts[i]? = some x->ts[j]? = some y->i≠j->∀ q,x.mineP c q->¬ y.mineP c q
theorem MaI.more {N:Nat} {ts:List Th} (h:MaI N c l ts g):MaI (N+1) c l ts g :=
 ⟨h.ok,fun a ha=>by have:=h.ct a ha;omega,by have:=h.tp;omega,h.th,h.dc,h.dp⟩
theorem MaI.turn {N:Nat} (hc:c.Ok) {ts:List Th} (h:MaI N c l ts g) {n:Nat} {x x':Th} (hx:ts[n]? = some x) {g':Gst} {l':List Int} (G:Goes c g l g' l' x.mineC (x.mineP c)) (hx':ThI c g' l' x') (k1:∀ a i,x'.mineC a i->x.mineC a i\/(g.K a/\i=g.M.F a 1)) (k2:∀ q,x'.mineP c q->x.mineP c q\/g.M.top<=q) :
  MaI (N+1) c l' (ts.set n x') g':=by
 have hnl:=(List.getElem?_eq_some_iff.1 hx).1
 have other:∀ (i:Nat) (y:Th),i≠n->(ts.set n x')[i]? = some y->ts[i]? = some y:=fun i y hi hy=>by
  rwa [List.getElem?_set_ne (fun e=>hi e.symm)] at hy
 have self:∀ (y:Th),(ts.set n x')[n]? = some y->y=x':=fun y hy=>by
  rw [List.getElem?_set_self hnl] at hy;cases hy;rfl
 have sepC:∀ (j:Nat) (y:Th),j≠n->ts[j]? = some y->∀ a k,x'.mineC a k->¬ y.mineC a k:=fun j y hj hy a k hk hy2=>by
  rcases k1 a k hk with q | ⟨q1,q2⟩
  ·exact h.dc n j x y hx hy (fun e=>hj e.symm) a k q hy2
  ·have:=((h.th j y hy).mine_lt hy2).2;omega
 have sepP:∀ (j:Nat) (y:Th),j≠n->ts[j]? = some y->∀ q,x'.mineP c q->¬ y.mineP c q:=fun j y hj hy q hq hy2=>by
  rcases k2 q hq with r | r
  ·exact h.dp n j x y hx hy (fun e=>hj e.symm) q r hy2
  ·have:=(h.th j y hy).mineP_lt hy2;omega
 refine ⟨G.ok,fun a ha=>?_,by have:=G.tu;have:=h.tp;omega,fun i y hy=>?_,fun i j y z hy hz hij a k k3 k4=>?_,fun i j y z hy hz hij q k3 k4=>?_⟩
 ·rcases G.cu a ha with ⟨q1,q2⟩ | q
  ·have:=h.ct a q1;have:=G.ext.ct a q1;omega
  ·omega
 ·by_cases hi:i=n
  ·subst hi;rw [self y hy];exact hx'
  ·have hy':=other i y hi hy
   exact (h.th i y hy').keep hc h.ok G (fun a k k3 k4=>h.dc n i x y hx hy' (fun e=>hi e.symm) a k k4 k3) (fun q k3 k4=>h.dp n i x y hx hy' (fun e=>hi e.symm) q k4 k3)
 ·by_cases hi:i=n
  ·subst hi
   rw [self y hy] at k3
   exact sepC j z (fun e=>hij e.symm) (other j z (fun e=>hij e.symm) hz) a k k3 k4
  ·by_cases hj:j=n
   ·subst hj
    rw [self z hz] at k4
    exact sepC i y hi (other i y hi hy) a k k4 k3
   ·exact h.dc i j y z (other i y hi hy) (other j z hj hz) hij a k k3 k4
 ·by_cases hi:i=n
  ·subst hi
   rw [self y hy] at k3
   exact sepP j z (fun e=>hij e.symm) (other j z (fun e=>hij e.symm) hz) q k3 k4
  ·by_cases hj:j=n
   ·subst hj
    rw [self z hz] at k4
    exact sepP i y hi (other i y hi hy) q k4 k3
   ·exact h.dp i j y z (other i y hi hy) (other j z hj hz) hij q k3 k4
end
theorem qa9 {N:Nat} {m:Mc} (h:MInv N m) {g:Gst} {l:List Int} {n:Nat} {x:Th} (hx:m.t[n]? = some x) (hn:x.next<((m.opsOf (n:Int)).length:Int)):ThI m.c g l (m.begun (n:Int))/\(∀ a i,¬ (m.begun (n:Int)).mineC a i)/\∀ q,¬ (m.begun (n:Int)).mineP m.c q:=by
 have ht:=h.th n x hx
 have h0:=ht.n0
 have hnl:=(List.getElem?_eq_some_iff.1 hx).1
 have htl:=h.tl
 have e:m.th (n:Int)=x:=by unfold Mc.th;rw [Int.toNat_natCast,List.getD_eq_getElem?_getD,hx];rfl
 have hk:=h.opk (n:Int) (q2d (l:=m.opsOf (n:Int)) (i:=x.next.toNat) (0,0,0,0) (by omega))
 have newp:∀ (key d:Int) (ds:List Int) (y:Pt),0<=key/\key<=63->some (Pt.new m.c key d ds)=some y->PtI m.c g l y/\(∀ a i,¬ y.mineC a i)/\∀ q,¬ y.mineP m.c q:=fun key d ds y hk e=>by
  simp only [Option.some.injEq] at e
  rw [<- e]
  exact ⟨PtI.new hk d ds,fun a i ⟨_,z,e,_⟩=>(by cases e),fun q ⟨z,e,_⟩=>(by cases e)⟩
 unfold Mc.begun
 rw [e]
 simp only
 generalize (m.opsOf (n:Int)).getD x.next.toNat (0,0,0,0)=o at *
 split
 ·exact ⟨⟨fun y e=>(newp _ _ _ y hk e).1,fun y e=>(by cases e),fun y e=>(by cases e)⟩,fun a i ⟨y,e,k⟩=>(newp _ _ _ y hk e).2.1 a i k,fun q ⟨y,e,k⟩=>(newp _ _ _ y hk e).2.2 q k⟩
 ·split
  ·exact ⟨⟨fun y e=>(newp _ _ _ y hk e).1,fun y e=>(by cases e),fun y e=>(by cases e)⟩,fun a i ⟨y,e,k⟩=>(newp _ _ _ y hk e).2.1 a i k,fun q ⟨y,e,k⟩=>(newp _ _ _ y hk e).2.2 q k⟩
  ·split
   ·exact ⟨⟨fun y e=>(by cases e),fun y e=>by simp only [Option.some.injEq] at e;rw [<- e];exact GtI.new hk,fun y e=>(by cases e)⟩,fun a i ⟨y,e,k⟩=>(by cases e),fun q ⟨y,e,k⟩=>(by cases e)⟩
   ·exact ⟨⟨fun y e=>(by cases e),fun y e=>(by cases e),fun y e=>by simp only [Option.some.injEq] at e;rw [<- e];exact SnI.new ⟨by omega,by omega⟩ hk⟩,fun a i ⟨y,e,k⟩=>(by cases e),fun q ⟨y,e,k⟩=>(by cases e)⟩
theorem qar {N N':Nat} {m:Mc} {g:Gst} (h:MaI N m.c m.a.l m.t g) (hI:MInv N' m) (hN:N<=200000) {n k:Nat} {x:Th} (hx:m.t[n]? = some x):∃ g',MaI (N+1) (m.steps (n:Int) k).c (m.steps (n:Int) k).a.l (m.steps (n:Int) k).t g'/\Ext m.c g g'/\(m.steps (n:Int) k).c=m.c:=by
 have e:m.th (n:Int)=x:=by unfold Mc.th;rw [Int.toNat_natCast,List.getD_eq_getElem?_getD,hx];rfl
 have hc:=hI.c
 have hT:g.M.top<=900000000:=by have:=h.tp;omega
 have hB:∀ a,g.K a->0<=g.M.F a 1/\g.M.F a 1<=900000000:=fun a ha=>by have:=h.ct a ha;omega
 have ht:=h.th n x hx
 unfold Mc.steps
 simp only [e,Int.toNat_natCast]
 cases hp:x.p with
 | some p =>
  obtain ⟨g',G,k1,k2,k3⟩:=(ht.tp p hp).step hc h.ok hT hB
  have GG:Goes m.c g m.a.l g' (p.step m.a).2.l x.mineC (x.mineP m.c):=G.weak (fun a i k=>⟨p,hp,k⟩) (fun q k=>⟨p,hp,k⟩)
  refine ⟨g',?_,G.ext,rfl⟩
  refine h.turn hc hx GG ⟨fun y e=>?_,fun y e=>(ht.tg y e).ext G.ext (kg hc G.ok),fun y e=>(ht.ts y e).ext G.ext (kg hc G.ok)⟩ (fun a i=>?_) (fun q=>?_)
  ·simp only [Option.some.injEq] at e;rw [<- e];exact k1
  ·rintro ⟨y,e,hy⟩
   simp only [Option.some.injEq] at e;rw [<- e] at hy
   exact (k2 a i hy).imp (fun k=>⟨p,hp,k⟩) id
  ·rintro ⟨y,e,hy⟩
   simp only [Option.some.injEq] at e;rw [<- e] at hy
   exact (k3 q hy).imp (fun k=>⟨p,hp,k⟩) id
 | none =>
  have nop:∀ y:Th,y.p=x.p->(∀ a i,y.mineC a i->x.mineC a i\/(g.K a/\i=g.M.F a 1))/\∀ q,y.mineP m.c q->x.mineP m.c q\/g.M.top<=q:=fun y e =>
   ⟨fun a i ⟨z,e2,hz⟩=>.inl ⟨z,by rw [<- e];exact e2,hz⟩,fun q ⟨z,e2,hz⟩=>.inl ⟨z,by rw [<- e];exact e2,hz⟩⟩
  cases hg:x.g with
  | some y =>
   obtain ⟨g',G,k1⟩:=(ht.tg y hg).step hc h.ok
   have GG:Goes m.c g m.a.l g' (y.step m.a).2.l x.mineC (x.mineP m.c):=G.weak (fun _ _ k=>k.elim) (fun _ k=>k.elim)
   refine ⟨g',?_,G.ext,rfl⟩
   refine h.turn hc hx GG ⟨fun z e=>?_,fun z e=>?_,fun z e=>(ht.ts z e).ext G.ext (kg hc G.ok)⟩ (nop _ hp.symm).1 (nop _ hp.symm).2
   ·first | cases e | (simp only at e;rw [hp] at e;cases e) | (rw [hp] at e;cases e)
   ·simp only [Option.some.injEq] at e;rw [<- e];exact k1
  | none =>
   cases hs:x.s with
   | some y =>
    obtain ⟨g',G,k1⟩:=(ht.ts y hs).step hc h.ok
    have GG:Goes m.c g m.a.l g' (y.step m.a).2.l x.mineC (x.mineP m.c):=G.weak (fun _ _ k=>k.elim) (fun _ k=>k.elim)
    refine ⟨g',?_,G.ext,rfl⟩
    refine h.turn hc hx GG ⟨fun z e=>?_,fun z e=>?_,fun z e=>?_⟩ (nop _ hp.symm).1 (nop _ hp.symm).2
    ·first | cases e | (simp only at e;rw [hp] at e;cases e) | (rw [hp] at e;cases e)
    ·first | cases e | (simp only at e;rw [hg] at e;cases e) | (rw [hg] at e;cases e)
    ·simp only [Option.some.injEq] at e;rw [<- e];exact k1
   | none=>exact ⟨g,h.more,Ext.refl _ _,rfl⟩
theorem q95 (m:Mc):m.notes.c=m.c/\m.notes.a=m.a/\m.notes.t=m.t:=by
 unfold Mc.notes
 simp only
 split
 ·split
  ·simp only;split <;> exact ⟨rfl,rfl,rfl⟩
  ·split <;> exact ⟨rfl,rfl,rfl⟩
 ·split <;> exact ⟨rfl,rfl,rfl⟩
theorem qcm {N N':Nat} {m:Mc} {g:Gst} (h:MaI N m.c m.a.l m.t g) (hI:MInv N' m) (hN:N<=100000) (t:Int):∃ g',MaI (N+2) (m.pick t).c (m.pick t).a.l (m.pick t).t g'/\Ext m.c g g'/\(m.pick t).c=m.c:=by
 unfold Mc.pick
 split
 ·exact ⟨g,h.more.more,Ext.refl _ _,rfl⟩
 ·rename_i ho
  obtain ⟨n,x,rfl,hx,e,hb⟩:=U1 (by simpa using ho)
  simp only
  have hnl:=(List.getElem?_eq_some_iff.1 hx).1
  have h1:MaI (N+1) (if (m.th (n:Int)).busy=true then m else m.begins (n:Int)).c (if (m.th (n:Int)).busy=true then m else m.begins (n:Int)).a.l (if (m.th (n:Int)).busy=true then m else m.begins (n:Int)).t g/\MInv (N'+1) (if (m.th (n:Int)).busy=true then m else m.begins (n:Int))/\(if (m.th (n:Int)).busy=true then m else m.begins (n:Int)).c=m.c/\n<(if (m.th (n:Int)).busy=true then m else m.begins (n:Int)).t.length:=by
   split
   ·exact ⟨h.more,hI.more,rfl,hnl⟩
   ·rename_i hb'
    rw [e] at hb'
    have hn:=hb (by simpa using hb')
    obtain ⟨b1,b2,b3⟩:=qa9 (g:=g) (l:=m.a.l) hI hx hn
    refine ⟨?_,hI.begins hx hn,rfl,by simp [Mc.begins];exact hnl⟩
    unfold Mc.begins
    simp only [Int.toNat_natCast]
    exact h.turn hI.c hx (Goes.same h.ok _ _) b1 (fun a i k=>absurd k (b2 a i)) (fun q k=>absurd k (b3 q))
  generalize (if (m.th (n:Int)).busy=true then m else m.begins (n:Int))=m1 at *
  obtain ⟨h1,hI1,hc1,hnl1⟩:=h1
  split
  ·rename_i k hk
   obtain ⟨g',h2,e2,hc2⟩:=qar h1 hI1 (by omega) (k:=k) (List.getElem?_eq_getElem hnl1)
   generalize m1.steps (n:Int) k=m2 at *
   obtain ⟨n1,n2,n3⟩:=q95 m2
   refine ⟨g',?_,by rw [<- hc1];exact e2,?_⟩
   ·split
    ·simp only;rw [n1,n2,n3];exact h2
    ·exact h2
   ·split
    ·simp only;rw [n1];exact hc2.trans hc1
    ·exact hc2.trans hc1
  ·exact ⟨g,h1.more,Ext.refl _ _,hc1⟩
def g0 (c:Cf):Gst:=⟨fun a=>a=ku c,fun _=>64,⟨fun _ _=>0,2 * ku c,fun _=>0,topP c⟩⟩
theorem Qj {c:Cf} (hc:c.Ok) {p:Int} (h0:0<=p) (h1:p<c.wd):qq (Pl.begun c.t c.c c.wd).l p=Pl.Qo c.t c.c p:=by
 obtain ⟨k,rfl⟩:=Int.eq_ofNat_of_zero_le h0
 obtain ⟨n,hn⟩:=Int.eq_ofNat_of_zero_le (show 0<=c.wd by omega)
 have h:=hc.top
 have:=Pl.q3y (t:=c.t) (c:=c.c) (n:=n) k hc.t1 hc.t8 (by have:=hc.c2;have:=hc.t1;omega) (by omega) (by omega)
 rw [<- hn] at this
 exact this
theorem qbw {c:Cf} (hc:c.Ok):MaI 0 c (Pl.begun c.t c.c c.wd).l (List.replicate c.t.toNat Th.new) (g0 c):=by
 have ht:=hc.t1
 have ht8:=hc.t8
 have htop:=hc.top
 have hc2:=hc.c2
 have hlen:((Pl.begun c.t c.c c.wd).l.length:Int)=c.wd:=by
  rw [(Pl.Y6 (wd:=c.wd) hc.t1 hc.t8 (by omega) hc.top).1];omega
 have hf:Al c (ku c):=⟨0,by simp⟩
 have hsz:za c=7+3 * c.c:=rfl
 have hfp:ku c=14+c.t:=rfl
 have htp:topP c=21+c.t+3 * c.c:=rfl
 have hth:∀ (i:Nat) (x:Th),(List.replicate c.t.toNat Th.new)[i]? = some x->x=Th.new:=fun i x hx=>by
  rw [List.getElem?_replicate] at hx;split at hx
  ·cases hx;rfl
  ·cases hx
 refine ⟨⟨⟨fun a ha=>?_,⟨1,?_⟩,⟨ku c,rfl,rfl,rfl⟩,fun a ha=>⟨Int.le_refl _,by simp [g0],by simp [g0]⟩,fun a ha=>.inl ⟨by simp [g0],rfl⟩,fun a ha=>.inl rfl,fun a ha=>.inl rfl,fun a ha=>.inl rfl,fun k _ _=>.inl rfl,fun a i ha _ _ k=>by simp [g0] at k,fun a i ha _ _ _=>.inl rfl⟩,⟨hlen,fun a ha f f0 f1=>?_,?_,fun k k0 k1=>?_,?_,fun p hp=>?_⟩⟩,fun a ha=>by simp [g0],by simp only [g0];have:=hc.w2;omega,fun i x hx=>?_,fun i j x y hx hy _ a k k1=>?_,fun i j x y hx hy _ q k1=>?_⟩
 ·obtain rfl:a=ku c:=ha
  exact ⟨hf,by omega,by simp only [g0];omega⟩
 ·simp only [g0];omega
 ·obtain rfl:a=ku c:=ha
  rw [Qj hc (by omega) (by omega)]
  unfold Pl.Qo
  rw [qd (by omega),qd (by omega),qd (by omega)];rfl
 ·rw [Qj hc (by unfold xm;omega) (by unfold xm;omega)]
  unfold Pl.Qo xm
  rw [qd (by omega),qd (by omega),qf (by omega)];rfl
 ·rw [Qj hc (by omega) (by omega)]
  unfold Pl.Qo
  rw [qd (by omega),qd (by omega),qd (by omega)];rfl
 ·rw [Qj hc (by omega) (by omega)];rfl
 ·simp only [g0] at hp
  by_cases h:p<c.wd
  ·rw [Qj hc (by omega) h]
   unfold Pl.Qo
   rw [qd (by omega),qd (by omega),qd (by omega)]
  ·exact q9e (.inr (by omega))
 ·rw [hth i x hx]
  exact ⟨fun y e=>(by cases e),fun y e=>(by cases e),fun y e=>(by cases e)⟩
 ·rw [hth i x hx] at k1;obtain ⟨y,e,-⟩:=k1;cases e
 ·rw [hth i x hx] at k1;obtain ⟨y,e,-⟩:=k1;cases e
theorem qc6 {c:Cf} (hc:c.Ok):∀ (ps:List Int) (N N':Nat) (m:Mc) (g:Gst),m.c=c->MaI N c m.a.l m.t g->MInv N' m->N+2 * ps.length<=100000->∃ g',MaI (N+2 * ps.length) c (ps.foldl Mc.pick m).a.l (ps.foldl Mc.pick m).t g'/\Ext c g g'/\(ps.foldl Mc.pick m).c=c
 | [],N,N',m,g,e,h,hI,hN=>⟨g,h,Ext.refl _ _,e⟩
 | p :: ps,N,N',m,g,e,h,hI,hN=>by
  rw [List.length_cons] at hN
  obtain ⟨g1,h1,x1,c1⟩:=qcm (by rw [e];exact h) hI (by omega) p
  rw [c1,e] at h1
  rw [e] at x1
  obtain ⟨g2,h2,x2,c2⟩:=qc6 hc ps (N+2) (N'+4) (m.pick p) g1 (c1.trans e) h1 (hI.pick p) (by omega)
  rw [List.foldl_cons,List.length_cons,show N+2 * (ps.length+1)=N+2+2 * ps.length by omega]
  exact ⟨g2,h2,x1.trans x2,c2⟩
theorem qcq {c:Cf} {rs:List (List O)} (ds:List Int) (hc:c.Ok) (hI:MInv 1 (Mc.new c rs ds)) (ps:List Int) (hp:ps.length<=40000):∃ g,MaI (2 * ps.length) c (q3f c rs ds ps).a.l (q3f c rs ds ps).t g/\(q3f c rs ds ps).c=c:=by
 obtain ⟨g,h,-,e⟩:=qc6 hc ps 0 1 (Mc.new c rs ds) (g0 c) rfl (qbw hc) hI (by omega)
 rw [Nat.zero_add] at h
 exact ⟨g,h,e⟩
end Go.Proofs.YtppajakfaomkaaaGreatDoor.Mx
