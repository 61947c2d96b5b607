/- Parts. -/
import Derived.Test.YtleclbldlladmaaGreatVbf
import Derived.Test.YtleclbldlladmaaGreatVbh
set_option linter.unusedVariables false
set_option linter.unusedSimpArgs false
set_option maxRecDepth 100000
set_option maxHeartbeats 12800000
namespace Go.Proofs.YtleclbldlladmaaGreat.Mx
open Go.RowKit Ar Ref Og Mp Vw Ch
def Pth (g:Gst):Int->List Int->Prop
 | a,[]=>a=0
 | a,x :: r=>a=x/\g.K x/\Pth g (g.M.F x 2 / 2) r/\(∀ y,r.head? = some y->g.M.F y 0=g.up x)/\(r=[]->g.up x=64)
section
variable {c:Cf} {g:Gst} {l:List Int}
theorem q9y (hc:c.Ok) (h:OkG c g l):∀ (n:Nat) (a:Int),g.K a->64 - g.M.F a 0<=n->∃ r,Pth g a (a :: r)
 | 0,a,ha,hn=>by have:=h.ki.mn a ha;omega
 | n+1,a,ha,hn=>by
  have hm:=h.ki.mn a ha;rcases h.ki.nx a ha with ⟨e1,e2⟩ | ⟨e1,e2⟩
  ·exact ⟨[],rfl,ha,e1,fun y k=>by simp at k,fun _=>e2⟩
  ·obtain ⟨r,hr⟩:=q9y hc h n _ e1 Lb;exact ⟨_,rfl,ha,hr,fun y k=>by simp at k;rw [<- k];exact e2,fun k=>by simp at k⟩
theorem Pth.mem {a:Int} {L:List Int} (h:Pth g a L):∀ x∈L,g.K x:=by
 induction L generalizing a with
 | nil=>simp
 | cons y r ih =>
  intro x hx;obtain ⟨-,k,p,-⟩:=h;rcases List.mem_cons.1 hx with rfl | hx
  ·exact k
  ·exact ih p x hx
theorem Pth.above (hc:c.Ok) (h:OkG c g l) {a:Int} {L:List Int} (p:Pth g a L):∀ m,(∀ y,L.head? = some y->m<=g.M.F y 0)->∀ x∈L,m<=g.M.F x 0:=by
 induction L generalizing a with
 | nil=>simp
 | cons y r ih =>
  intro m hm x hx;obtain ⟨-,k,p,q,-⟩:=p;have h1:=hm y rfl;rcases List.mem_cons.1 hx with rfl | hx
  ·exact h1
  ·have h2:=h.ki.mn y k;exact ih p m (fun z hz=>by rw [q z hz];omega) x hx
theorem Pth.rise (hc:c.Ok) (h:OkG c g l) {a:Int} {L:List Int} (p:Pth g a L):L.Pairwise fun x y=>g.up x<=g.M.F y 0:=by
 induction L generalizing a with
 | nil=>exact List.Pairwise.nil
 | cons y r ih =>
  obtain ⟨-,k,p,q,-⟩:=p;exact List.pairwise_cons.2 ⟨fun x hx=>p.above hc h (g.up y) (fun z hz=>by rw [q z hz];exact Int.le_refl _) x hx,ih p⟩
theorem Pth.apart (hc:c.Ok) (h:OkG c g l) {a:Int} {L:List Int} (p:Pth g a L):L.Pairwise fun x y=>x≠y:=by refine (p.rise hc h).imp_of_mem (fun {x y} hx hy k e=>?_);subst e;have:=h.ki.mn x (p.mem x hx);omega
theorem Pth.next {a:Int} {L:List Int} (p:Pth g a L) {i:Nat} {x:Int} (hx:L[i]? = some x):(∀ y,L[i+1]? = some y->g.M.F x 2 / 2=y/\g.M.F y 0=g.up x)/\(L[i+1]? = none->g.M.F x 2 / 2=0/\g.up x=64):=by
 induction L generalizing a i with
 | nil=>simp at hx
 | cons z r ih =>
  obtain ⟨-,k,p,q,q2⟩:=p;cases i with
  | zero =>
   obtain rfl:z=x:=by simpa using hx
   refine ⟨fun y hy=>?_,fun hn=>?_⟩
   ·have:r.head? = some y:=by rw [List.head?_eq_getElem?];simpa using hy
    refine ⟨?_,q y this⟩;cases r with
    | nil=>simp at this
    | cons w r =>
     have e:w=y:=by simpa using this
     rw [<- e];exact p.1
   ·have:r=[]:=by cases r with | nil=>rfl | cons w r=>simp at hn
    subst this;exact ⟨p,q2 rfl⟩
  | succ i=>exact ih p (by simpa using hx)
theorem R6 (hc:c.Ok) (h:OkG c g l) {n:Nat} (hn:c.c=(n:Int)) {a:Int} (ha:g.K a):Z9 l.length n a=true:=by have h1:=Rel.low hc h ha;have h2:=h.rel.len;have:=hc.t1;have:z6 c=7+3 * c.c:=rfl;unfold Z9;simp only [Bool.and_eq_true,decide_eq_true_eq];omega
theorem q6n {w:Int} (h0:0<=w) (h1:w<=1000000000000000):atU w=w / 2:=by unfold atU;omega
theorem q20 (hc:c.Ok) (h:OkG c g l) {n:Nat} (hn:c.c=(n:Int)):∀ (L:List Int) (k:Nat) (a:Int) (acc:List Int),Pth g a L->(∀ x∈acc,∀ y∈L,x≠y)->L.length<k->q7m (qw l) l.length n k a acc=acc++L
 | [],k,a,acc,p,_,hk=>by
  obtain ⟨j,rfl⟩:∃ j,k=j+1:=⟨k - 1,by simp at hk;omega⟩;unfold q7m;rw [qf (.inl p),List.append_nil]
 | x :: r,k,a,acc,p,hd,hk=>by
  obtain ⟨j,rfl⟩:∃ j,k=j+1:=⟨k - 1,by simp at hk;omega⟩
  have ap:=p.apart hc h
  obtain ⟨rfl,kx,p,q,q2⟩:=p
  have hb:=Wm hc h kx
  have hx:=q8o hc h kx
  unfold q7m
  rw [qd]
  ·rw [h.rel.F _ kx 2 Lb Nf,q6n Lb Lb,q20 hc h hn r j _ (acc++[a]) p ?_ (by simp at hk;omega),List.append_assoc];rfl
   intro y hy z hz
   rcases List.mem_append.1 hy with hy | hy
   ·exact hd y hy z Ox
   ·rw [List.mem_singleton.1 hy];exact (List.pairwise_cons.1 ap).1 z hz
  ·rintro (e | e | e)
   ·omega
   ·rw [R6 hc h hn kx] at e;cases e
   ·exact hd a e a Lc rfl
structure Chn (c:Cf) (g:Gst) (l:List Int) (L:List Int):Prop where
 p:Pth g (g.M.hn / 2) L
 ne:L≠[]
 first:∀ x,L[0]? = some x->g.M.F x 0=0
theorem chn_ex (hc:c.Ok) (h:OkG c g l):∃ L,Chn c g l L:=by obtain ⟨a,ha,e1,e2⟩:=h.ki.hd;obtain ⟨r,hr⟩:=q9y hc h 64 a ha Lb;refine ⟨a :: r,?_,by simp,fun x hx=>by simp at hx;rw [<- hx];exact e2⟩;rw [e1,show 2 * a / 2=a by omega];exact hr
theorem Chn.len (hc:c.Ok) (h:OkG c g l) {L:List Int} (C:Chn c g l L) {n:Nat} (hn:c.c=(n:Int)):L.length<=l.length:=by
 refine Kh l.length L ?_ (fun x hx=>?_)
 ·exact C.p.apart hc h
 ·have:=R6 hc h hn (C.p.mem x hx);have:=qds this;have h2:=hc.c2;have:=hc.t1;omega
theorem Chn.all (hc:c.Ok) (h:OkG c g l) {L:List Int} (C:Chn c g l L) {n:Nat} (hn:c.c=(n:Int)):allF (qw l) l.length n c.t=L:=by have hl:=C.len hc h hn;obtain ⟨a,ha,e1,e2⟩:=h.ki.hd;have hb:=Wm hc h ha;have hsz:=xm hc;unfold allF;rw [show (9:Int)+c.t=xn c+2 by unfold xn;omega,h.rel.hn,q6n Lb Lb,q20 hc h hn L _ _ [] C.p Lc Lb];rfl
def keyOf (g:Gst) (L:List Int) (key z:Int):Int:=L.foldl (fun at_ x=>if g.M.F x 0<=key then x else at_) z
theorem Wp {key:Int}:∀ {L:List Int} {z:Int},(∀ x∈L,key<g.M.F x 0)->keyOf g L key z=z
 | [],_,_=>rfl
 | x :: r,z,h=>by
  have:=h x Lc;show keyOf g r key (if g.M.F x 0<=key then x else z)=z;rw [qd Lb];exact Wp (fun y hy=>h y (by simp [hy]))
theorem q2m (hc:c.Ok) (h:OkG c g l) {key:Int} (h1:key<64):∀ {L:List Int} {a z:Int},Pth g a L->(∀ y,L.head? = some y->g.M.F y 0<=key)->L≠[]->keyOf g L key z∈L/\g.M.F (keyOf g L key z) 0<=key/\key<g.up (keyOf g L key z)
 | [],_,_,_,_,ne=>absurd rfl ne
 | x :: r,a,z,p,hh,_=>by
  have hx:=hh x rfl;obtain ⟨-,kx,p,q,q2⟩:=p
  have e0:keyOf g (x :: r) key z=keyOf g r key x:=by show keyOf g r key (if g.M.F x 0<=key then x else z)=_;rw [qf hx]
  rw [e0];by_cases hk:key<g.up x
  ·have e:keyOf g r key x=x:=Wp (fun y hy=>by
    have:=p.above hc h (g.up x) (fun w hw=>by rw [q w hw];exact Int.le_refl _) y hy
    omega)
   rw [e];exact ⟨by simp,hx,hk⟩
  ·have hr:r≠[]:=fun e=>by have:=q2 e;omega
   obtain ⟨k1,k2,k3⟩:=q2m hc h h1 (z:=x) p (fun y hy=>by rw [q y hy];omega) hr;exact ⟨by simp [k1],k2,k3⟩
theorem chunk_one (hc:c.Ok) (h:OkG c g l) {L:List Int} {a key x y:Int} (p:Pth g a L) (hx:x∈L) (hy:y∈L) (h1:g.M.F x 0<=key/\key<g.up x) (h2:g.M.F y 0<=key/\key<g.up y):x=y:=by
 have hp:=p.rise hc h;obtain ⟨i,hi,rfl⟩:=List.mem_iff_getElem.1 hx;obtain ⟨j,hj,rfl⟩:=List.mem_iff_getElem.1 hy;have hpg:=List.pairwise_iff_getElem.1 hp;rcases Nat.lt_trichotomy i j with k | k | k
 ·have:=hpg i j hi hj k;omega
 ·subst k;rfl
 ·have:=hpg j i hj hi k;omega
theorem Chn.of (hc:c.Ok) (h:OkG c g l) {L:List Int} (C:Chn c g l L) {key:Int} (h0:0<=key) (h1:key<64):keyOf g L key 0∈L/\g.M.F (keyOf g L key 0) 0<=key/\key<g.up (keyOf g L key 0) :=
 q2m hc h h1 C.p (fun y hy=>by rw [C.first y (by rw [<- List.head?_eq_getElem?];exact hy)];exact h0) C.ne
theorem ofL_key (hc:c.Ok) (h:OkG c g l) {n:Nat} (hn:c.c=(n:Int)) {L:List Int} (key:Int) (hL:∀ x∈L,g.K x):ofL (L.map (ckF (qw l) n)) key=keyOf g L key 0:=by
 have hsz:=xm hc;suffices H:∀ z:Int,(L.map (ckF (qw l) n)).foldl (fun at_ x=>if x.1.mn<=key then x.1.at_ else at_) z=keyOf g L key z from H 0
 unfold keyOf;intro z;induction L generalizing z with
 | nil=>rfl
 | cons x r ih =>
  have e:=h.rel.F x (hL x Lc) 0 Lb Lb;rw [Int.add_zero] at e;rw [List.map_cons,List.foldl_cons,List.foldl_cons];rw [show (ckF (qw l) n x).1.mn=qw l x from rfl,show (ckF (qw l) n x).1.at_=x from rfl,e];exact ih (fun y hy=>hL y (by simp [hy])) _
theorem qai (hc:c.Ok) (h:OkG c g l) {n:Nat} (hn:c.c=(n:Int)) {x:Int} (hx:g.K x):∀ it∈Wu (ckF (qw l) n x).2,g.M.F x 0<=it.k/\it.k<g.up x:=by
 intro it hit;unfold Wu ckF at hit;simp only [List.mem_filterMap,List.mem_map,List.mem_range] at hit;obtain ⟨ce,⟨i,hi,rfl⟩,h2⟩:=hit;unfold qcm at h2;split at h2
 ·rename_i h3;cases h2;have hsz:z6 c=7+3 * c.c:=rfl;simp only at h3 ⊢;rw [show x+7+3 * (i:Int)=x+(7+3 * i) by omega,h.rel.F x hx _ Lb Lb] at h3;rw [show x+7+3 * (i:Int)+1=x+(8+3 * i) by omega,h.rel.F x hx _ Lb Lb];exact h.ki.cl x i hx Lb Lb Lb Lb
 ·cases h2
theorem isL_chain (hc:c.Ok) (h:OkG c g l) {n:Nat} (hn:c.c=(n:Int)) {L:List Int} (C:Chn c g l L):isL (L.map (ckF (qw l) n))=true:=by
 have hsz:=xm hc
 have mn:∀ x,g.K x->(ckF (qw l) n x).1.mn=g.M.F x 0:=fun x k=>by have e:=h.rel.F x k 0 Lb Lb;rw [Int.add_zero] at e;exact e
 have last:∀ (L:List Int) (a:Int),Pth g a L->L≠[]->atU (q61 (L.map (ckF (qw l) n)))=0:=by
  intro L;induction L with
  | nil=>intro a _ ne;exact absurd rfl ne
  | cons x r ih =>
   intro a p _;obtain ⟨-,kx,p,-⟩:=p;cases r with
   | nil =>
    show atU (qw l (x+2))=0;have:=q8o hc h kx;rw [h.rel.F x kx 2 Lb Lb,q6n Lb Lb];exact p
   | cons y r=>exact ih _ p Lc
 have stand:∀ (L:List Int) (a:Int),Pth g a L->Jf (L.map (ckF (qw l) n))=true:=by
  intro L;induction L with
  | nil=>intro a _;rfl
  | cons x r ih =>
   intro a p;obtain ⟨-,kx,p,q,q2⟩:=p;have hm:=h.ki.mn x kx;have hi:=qai hc h hn kx;rw [List.map_cons];unfold Jf;rw [ih _ p,Bool.and_true];cases r with
   | nil =>
    show (Wu (ckF (qw l) n x).2).all _=true;rw [List.all_eq_true];intro it hit;rw [mn x kx];simpa using (hi it hit).1
   | cons y r =>
    have ky:=p.mem y Lc;have hq:=q y rfl;show (decide ((ckF (qw l) n x).1.mn<(ckF (qw l) n y).1.mn) && (Wu (ckF (qw l) n x).2).all _)=true;rw [mn x kx,mn y ky,Bool.and_eq_true];refine ⟨by simp;omega,?_⟩;rw [List.all_eq_true];intro it hit;have:=hi it hit;simp;omega
 have h1:=last L _ C.p C.ne;have h2:=stand L _ C.p;cases L with
 | nil=>exact absurd rfl C.ne
 | cons x r =>
  have h3:=C.first x rfl;have kx:=C.p.mem x Lc;rw [List.map_cons] at h1 h2 ⊢;unfold isL;simp only [Bool.and_eq_true,decide_eq_true_eq];exact ⟨⟨by rw [mn x kx];exact h3,h1⟩,h2⟩
end
end Go.Proofs.YtleclbldlladmaaGreat.Mx
