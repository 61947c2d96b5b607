/- Parts. -/
import Derived.Test.YtleclbldlladmaaGreatVav
import Derived.Lib.QuoteBits
set_option linter.unusedVariables false
set_option linter.unusedSimpArgs false
set_option maxRecDepth 100000
set_option maxHeartbeats 12800000
namespace Go.Proofs.YtleclbldlladmaaGreat.Mx
open Go.RowKit Ar Ref Og Mp
structure Mem where
 F:Int->Int->Int
 hn:Int
 ht:Int->Int
 top:Int
def upd (F:Int->Int->Int) (b g v:Int):Int->Int->Int:=fun a f=>if a=b/\f=g then v else F a f
theorem upd_same (F:Int->Int->Int) (b g v:Int):upd F b g v b g=v:=qf ⟨rfl,rfl⟩
theorem xd {F:Int->Int->Int} {b g v a f:Int} (h:f≠g):upd F b g v a f=F a f:=qd (fun e=>h e.2)
theorem Jb {F:Int->Int->Int} {b g v a f:Int} (h:a≠b):upd F b g v a f=F a f:=qd (fun e=>h e.1)
def Mem.set (M:Mem) (b g v:Int):Mem:={ M with F:=upd M.F b g v }
def Al (c:Cf) (a:Int):Prop:=∃ k:Nat,a=jq c+(k:Int) * z6 c
theorem q8f {c:Cf} (hc:c.Ok) {a b:Int} (ha:Al c a) (hb:Al c b) (h:a≠b):a+z6 c<=b\/b+z6 c<=a:=by
 obtain ⟨i,rfl⟩:=ha;obtain ⟨j,rfl⟩:=hb;have hs:0<z6 c:=by have:=hc.c2;have:=hc.t1;unfold z6;omega
 generalize z6 c=S at *;rcases Nat.lt_trichotomy i j with hij | hij | hij
 ·left;have:((i:Int)+1) * S<=(j:Int) * S:=Int.mul_le_mul_of_nonneg_right Lb Lb;rw [Int.add_mul,Int.one_mul] at this;omega
 ·exact absurd (by rw [hij]) h
 ·right;have:((j:Int)+1) * S<=(i:Int) * S:=Int.mul_le_mul_of_nonneg_right Lb Lb;rw [Int.add_mul,Int.one_mul] at this;omega
theorem qcq {c:Cf} (hc:c.Ok) {a b f g:Int} (ha:Al c a) (hb:Al c b) (hf:0<=f/\f<z6 c) (hg:0<=g/\g<z6 c) (h:a+f=b+g):a=b/\f=g:=by
 by_cases e:a=b
 ·exact ⟨e,by omega⟩
 ·rcases q8f hc ha hb e with h1 | h1 <;> omega
theorem Z1 {c:Cf} (hc:c.Ok) {a:Int} (h:Al c a):jq c<=a/\15<=a:=by obtain ⟨k,rfl⟩:=h;have hs:0<=(k:Int) * z6 c:=Int.mul_nonneg Lb O9;have:=hc.t1;unfold jq at *;omega
structure KI (c:Cf) (K:Int->Prop) (up:Int->Int) (M:Mem):Prop where
 al:∀ a,K a->Al c a/\a+z6 c<=c.wd/\a+z6 c<=M.top
 top:Al c M.top
 hd:∃ a,K a/\M.hn=2 * a/\M.F a 0=0
 mn:∀ a,K a->0<=M.F a 0/\M.F a 0<up a/\up a<=64
 nx:∀ a,K a->(M.F a 2 / 2=0/\up a=64)\/(K (M.F a 2 / 2)/\M.F (M.F a 2 / 2) 0=up a)
 ld:∀ a,K a->M.F a 3=0\/(K (M.F a 3)/\(M.F a 3=a\/(M.F (M.F a 3) 4=a/\M.F (M.F a 3) 2 % 2=1)))
 mt:∀ a,K a->M.F a 4=0\/M.F a 4=1\/(K (M.F a 4)/\M.F a 2 / 2=M.F a 4/\M.F a 2 % 2=1)
 rp:∀ a,K a->M.F a 5=0\/(K (M.F a 5)/\M.F (M.F a 5) 0=M.F a 0)
 ht:∀ k,0<=k->k<4->M.ht k=0\/K (M.ht k)
 cl:∀ a i,K a->0<=i->i<c.c->1<=M.F a (7+3 * i)->M.F a (7+3 * i)≠2->M.F a 0<=M.F a (8+3 * i)/\M.F a (8+3 * i)<up a
 cf:∀ a i,K a->0<=i->i<c.c->M.F a 1<=i->M.F a (7+3 * i)=0\/M.F a (7+3 * i)=2
section
variable {c:Cf} {K:Int->Prop} {up:Int->Int} {M:Mem}
theorem KI.pos (hc:c.Ok) (h:KI c K up M) {a:Int} (ha:K a):15<=a:=(Z1 hc (h.al a ha).1).2
theorem KI.setFree (h:KI c K up M) (b g v:Int) (hg:g=1\/g=6) (hv:g=1->M.F b 1<=v):KI c K up (M.set b g v):=by
 have f0:∀ a,upd M.F b g v a 0=M.F a 0:=fun a=>xd Lb
 have f2:∀ a,upd M.F b g v a 2=M.F a 2:=fun a=>xd Lb
 have f3:∀ a,upd M.F b g v a 3=M.F a 3:=fun a=>xd Lb
 have f4:∀ a,upd M.F b g v a 4=M.F a 4:=fun a=>xd Lb
 have f5:∀ a,upd M.F b g v a 5=M.F a 5:=fun a=>xd Lb
 unfold Mem.set;refine ⟨h.al,h.top,?_,?_,?_,?_,?_,?_,h.ht,?_,?_⟩ <;> simp only [f0,f2,f3,f4,f5]
 ·exact h.hd
 ·exact h.mn
 ·exact h.nx
 ·exact h.ld
 ·exact h.mt
 ·exact h.rp
 ·intro a i ha h0 h1;rw [xd (show 7+3 * i≠g by omega),xd (show 8+3 * i≠g by omega)];exact h.cl a i ha h0 h1
 ·intro a i ha h0 h1 h2;rw [xd (show 7+3 * i≠g by omega)];refine h.cf a i ha h0 h1 (Int.le_trans ?_ h2);by_cases e:a=b/\(1:Int)=g
  ·unfold upd;rw [qf e,e.1];exact hv e.2.symm
  ·unfold upd;rw [qd e];exact Int.le_refl _
theorem KI.setLead (h:KI c K up M) {b v:Int} (hv:K v) (hb:v=b\/(M.F v 4=b/\M.F v 2 % 2=1)):KI c K up (M.set b 3 v):=by
 have f0:∀ a,upd M.F b 3 v a 0=M.F a 0:=fun a=>xd Lb
 have f2:∀ a,upd M.F b 3 v a 2=M.F a 2:=fun a=>xd Lb
 have f4:∀ a,upd M.F b 3 v a 4=M.F a 4:=fun a=>xd Lb
 have f5:∀ a,upd M.F b 3 v a 5=M.F a 5:=fun a=>xd Lb
 unfold Mem.set;refine ⟨h.al,h.top,?_,?_,?_,?_,?_,?_,h.ht,?_,?_⟩ <;> simp only [f0,f2,f4,f5]
 ·exact h.hd
 ·exact h.mn
 ·exact h.nx
 ·intro a ha;by_cases e:a=b
  ·subst e;rw [upd_same];exact .inr ⟨hv,hb⟩
  ·rw [Jb e];exact h.ld a ha
 ·exact h.mt
 ·exact h.rp
 ·intro a i ha h0 h1;rw [xd (show 7+3 * i≠3 by omega),xd (show 8+3 * i≠3 by omega)];exact h.cl a i ha h0 h1
 ·intro a i ha h0 h1;rw [xd (show 7+3 * i≠3 by omega),xd (show (1:Int)≠3 by omega)];exact h.cf a i ha h0 h1
theorem KI.setMate (hc:c.Ok) (h:KI c K up M) {b v:Int} (h0:M.F b 4=0) (hv:v=1\/(K v/\M.F b 2 / 2=v/\M.F b 2 % 2=1)):KI c K up (M.set b 4 v):=by
 have f0:∀ a,upd M.F b 4 v a 0=M.F a 0:=fun a=>xd Lb
 have f2:∀ a,upd M.F b 4 v a 2=M.F a 2:=fun a=>xd Lb
 have f3:∀ a,upd M.F b 4 v a 3=M.F a 3:=fun a=>xd Lb
 have f5:∀ a,upd M.F b 4 v a 5=M.F a 5:=fun a=>xd Lb
 unfold Mem.set;refine ⟨h.al,h.top,?_,?_,?_,?_,?_,?_,h.ht,?_,?_⟩ <;> simp only [f0,f2,f3,f5]
 ·exact h.hd
 ·exact h.mn
 ·exact h.nx
 ·intro a ha;rcases h.ld a ha with e | ⟨k,e | ⟨e1,e2⟩⟩
  ·exact .inl e
  ·exact .inr ⟨k,.inl e⟩
  ·refine .inr ⟨k,.inr ⟨?_,e2⟩⟩;by_cases e:M.F a 3=b
   ·rw [e] at e1;have:=h.pos hc ha;omega
   ·rw [Jb e];exact e1
 ·intro a ha;by_cases e:a=b
  ·subst e;rw [upd_same];exact hv.imp (fun _=>hv) id |>.elim (fun _=>hv.elim (fun e=>.inr (.inl e)) (fun e=>.inr (.inr e))) (fun e=>.inr (.inr e))
  ·rw [Jb e];exact h.mt a ha
 ·exact h.rp
 ·intro a i ha h0 h1;rw [xd (show 7+3 * i≠4 by omega),xd (show 8+3 * i≠4 by omega)];exact h.cl a i ha h0 h1
 ·intro a i ha h0 h1;rw [xd (show 7+3 * i≠4 by omega),xd (show (1:Int)≠4 by omega)];exact h.cf a i ha h0 h1
theorem KI.setNext (h:KI c K up M) {b v:Int} (h0:M.F b 2 % 2=0) (hv:(v / 2=0/\up b=64)\/(K (v / 2)/\M.F (v / 2) 0=up b)):KI c K up (M.set b 2 v):=by
 have f0:∀ a,upd M.F b 2 v a 0=M.F a 0:=fun a=>xd Lb
 have f3:∀ a,upd M.F b 2 v a 3=M.F a 3:=fun a=>xd Lb
 have f4:∀ a,upd M.F b 2 v a 4=M.F a 4:=fun a=>xd Lb
 have f5:∀ a,upd M.F b 2 v a 5=M.F a 5:=fun a=>xd Lb
 unfold Mem.set;refine ⟨h.al,h.top,?_,?_,?_,?_,?_,?_,h.ht,?_,?_⟩ <;> simp only [f0,f3,f4,f5]
 ·exact h.hd
 ·exact h.mn
 ·intro a ha;by_cases e:a=b
  ·subst e;rw [upd_same];exact hv
  ·rw [Jb e];exact h.nx a ha
 ·intro a ha;rcases h.ld a ha with e | ⟨k,e | ⟨e1,e2⟩⟩
  ·exact .inl e
  ·exact .inr ⟨k,.inl e⟩
  ·refine .inr ⟨k,.inr ⟨e1,?_⟩⟩;by_cases e:M.F a 3=b
   ·rw [e] at e2;omega
   ·rw [Jb e];exact e2
 ·intro a ha;by_cases e:a=b
  ·subst e;rcases h.mt a ha with k | k | ⟨k1,k2,k3⟩
   ·exact .inl k
   ·exact .inr (.inl k)
   ·omega
  ·rw [Jb e];exact h.mt a ha
 ·exact h.rp
 ·intro a i ha h0 h1;rw [xd (show 7+3 * i≠2 by omega),xd (show 8+3 * i≠2 by omega)];exact h.cl a i ha h0 h1
 ·intro a i ha h0 h1;rw [xd (show 7+3 * i≠2 by omega),xd (show (1:Int)≠2 by omega)];exact h.cf a i ha h0 h1
theorem KI.setRepl (h:KI c K up M) {b v:Int} (hv:K v/\M.F v 0=M.F b 0):KI c K up (M.set b 5 v):=by
 have f0:∀ a,upd M.F b 5 v a 0=M.F a 0:=fun a=>xd Lb
 have f2:∀ a,upd M.F b 5 v a 2=M.F a 2:=fun a=>xd Lb
 have f3:∀ a,upd M.F b 5 v a 3=M.F a 3:=fun a=>xd Lb
 have f4:∀ a,upd M.F b 5 v a 4=M.F a 4:=fun a=>xd Lb
 unfold Mem.set;refine ⟨h.al,h.top,?_,?_,?_,?_,?_,?_,h.ht,?_,?_⟩ <;> simp only [f0,f2,f3,f4]
 ·exact h.hd
 ·exact h.mn
 ·exact h.nx
 ·exact h.ld
 ·exact h.mt
 ·intro a ha;by_cases e:a=b
  ·subst e;rw [upd_same];exact .inr hv
  ·rw [Jb e];exact h.rp a ha
 ·intro a i ha h0 h1;rw [xd (show 7+3 * i≠5 by omega),xd (show 8+3 * i≠5 by omega)];exact h.cl a i ha h0 h1
 ·intro a i ha h0 h1;rw [xd (show 7+3 * i≠5 by omega),xd (show (1:Int)≠5 by omega)];exact h.cf a i ha h0 h1
theorem KI.setCell (h:KI c K up M) {b j v:Int} (hj:0<=j) {o:Int} (ho:o=7\/o=8\/o=9)
  (hv:K b->j<c.c->(o=7->v<1\/v=2\/(M.F b 0<=M.F b (8+3 * j)/\M.F b (8+3 * j)<up b))/\(o=8->M.F b (7+3 * j)<1\/M.F b (7+3 * j)=2)/\(o=7->v=2\/j<M.F b 1)):KI c K up (M.set b (o+3 * j) v):=by
 have f0:∀ a,upd M.F b (o+3 * j) v a 0=M.F a 0:=fun a=>xd Lb
 have f2:∀ a,upd M.F b (o+3 * j) v a 2=M.F a 2:=fun a=>xd Lb
 have f3:∀ a,upd M.F b (o+3 * j) v a 3=M.F a 3:=fun a=>xd Lb
 have f4:∀ a,upd M.F b (o+3 * j) v a 4=M.F a 4:=fun a=>xd Lb
 have f5:∀ a,upd M.F b (o+3 * j) v a 5=M.F a 5:=fun a=>xd Lb
 unfold Mem.set;refine ⟨h.al,h.top,?_,?_,?_,?_,?_,?_,h.ht,?_,?_⟩ <;> simp only [f0,f2,f3,f4,f5]
 ·exact h.hd
 ·exact h.mn
 ·exact h.nx
 ·exact h.ld
 ·exact h.mt
 ·exact h.rp
 ·intro a i ha h0 h1;by_cases e:a=b/\i=j
  ·obtain ⟨rfl,rfl⟩:=e;obtain ⟨v1,v2,-⟩:=hv ha h1;rcases ho with rfl | rfl | rfl
   ·rw [upd_same,xd (show 8+3 * i≠7+3 * i by omega)];intro h2 h3;rcases v1 rfl with k | k | k
    ·omega
    ·exact absurd k h3
    ·exact k
   ·rw [upd_same,xd (show 7+3 * i≠8+3 * i by omega)];intro h2 h3;rcases v2 rfl with k | k
    ·omega
    ·exact absurd k h3
   ·rw [xd (show 7+3 * i≠9+3 * i by omega),xd (show 8+3 * i≠9+3 * i by omega)];exact h.cl a i ha h0 h1
  ·have n7:¬ (a=b/\7+3 * i=o+3 * j):=fun k=>e ⟨k.1,by omega⟩
   have n8:¬ (a=b/\8+3 * i=o+3 * j):=fun k=>by
    rcases ho with rfl | rfl | rfl
    ·omega
    ·exact e ⟨k.1,by omega⟩
    ·omega
   unfold upd;rw [qd n7,qd n8];exact h.cl a i ha h0 h1
 ·intro a i ha h0 h1;rw [xd (show (1:Int)≠o+3 * j by omega)];intro h2;by_cases e:a=b/\7+3 * i=o+3 * j
  ·obtain ⟨rfl,e2⟩:=e;obtain rfl:o=7:=by omega
   obtain rfl:i=j:=by omega
   rw [upd_same];rcases (hv ha h1).2.2 rfl with k | k
   ·exact .inr k
   ·omega
  ·unfold upd;rw [qd e];exact h.cf a i ha h0 h1 h2
theorem KI.setHint (h:KI c K up M) {b v:Int} (hv:K v):KI c K up { M with ht:=fun k=>if k=b then v else M.ht k } :=
 ⟨h.al,h.top,h.hd,h.mn,h.nx,h.ld,h.mt,h.rp,fun k h0 h1=>by simp only;split;exact .inr hv;exact h.ht k h0 h1,h.cl,h.cf⟩
theorem KI.setHead (h:KI c K up M) {v:Int} (hv:K v/\M.F v 0=0):KI c K up { M with hn:=2 * v }:=⟨h.al,h.top,⟨v,hv.1,rfl,hv.2⟩,h.mn,h.nx,h.ld,h.mt,h.rp,h.ht,h.cl,h.cf⟩
theorem KI.setTop (hc:c.Ok) (h:KI c K up M) (n:Nat):KI c K up { M with top:=M.top+(n:Int) * z6 c }:=by have hs:0<=(n:Int) * z6 c:=Int.mul_nonneg Lb O9;refine ⟨fun a ha=>⟨(h.al a ha).1,(h.al a ha).2.1,by have:=(h.al a ha).2.2;simp only;omega⟩,?_,h.hd,h.mn,h.nx,h.ld,h.mt,h.rp,h.ht,h.cl,h.cf⟩;obtain ⟨k,hk⟩:=h.top;exact ⟨k+n,by simp only;rw [hk];push_cast;rw [Int.add_mul];omega⟩
structure qd5 (c:Cf) (K:Int->Prop) (up:Int->Int) (M:Mem) (a:Int):Prop where
 al:Al c a/\a+z6 c<=c.wd/\a+z6 c<=M.top
 mn:0<=M.F a 0/\M.F a 0<up a/\up a<=64
 nx:(M.F a 2 / 2=0/\up a=64)\/(K (M.F a 2 / 2)/\M.F (M.F a 2 / 2) 0=up a)
 ld:M.F a 3=0
 mt:M.F a 4=0
 rp:M.F a 5=0
 cl:∀ i,0<=i->i<c.c->1<=M.F a (7+3 * i)->M.F a (7+3 * i)≠2->M.F a 0<=M.F a (8+3 * i)/\M.F a (8+3 * i)<up a
 cf:∀ i,0<=i->i<c.c->M.F a 1<=i->M.F a (7+3 * i)=0\/M.F a (7+3 * i)=2
 c16:0<=M.F a 1/\M.F a 1<=16
theorem KI.grow {K':Int->Prop} {up':Int->Int} {M':Mem} (h:KI c K up M) (hK:∀ a,K a->K' a) (hu:∀ a,K a->up' a=up a) (hF:∀ a,K a->∀ f,M'.F a f=M.F a f) (e1:M'.hn=M.hn) (e2:∀ k,M'.ht k=M.ht k) (e3:M'.top=M.top) (hn:∀ a,K' a->¬ K a->qd5 c K' up' M' a):KI c K' up' M':=by
 refine ⟨fun a ha=>?_,by rw [e3];exact h.top,?_,fun a ha=>?_,fun a ha=>?_,fun a ha=>?_,fun a ha=>?_,fun a ha=>?_,fun k h0 h1=>?_,fun a i ha=>?_,fun a i ha=>?_⟩
 ·by_cases k:K a
  ·rw [e3];exact h.al a k
  ·exact (hn a ha k).al
 ·obtain ⟨a,h1,h2,h3⟩:=h.hd;exact ⟨a,hK a h1,by rw [e1];exact h2,by rw [hF a h1];exact h3⟩
 ·by_cases k:K a
  ·rw [hF a k,hu a k];exact h.mn a k
  ·exact (hn a ha k).mn
 ·by_cases k:K a
  ·rw [hF a k,hu a k];rcases h.nx a k with e | ⟨e,e'⟩
   ·exact .inl e
   ·exact .inr ⟨hK _ e,by rw [hF _ e];exact e'⟩
  ·exact (hn a ha k).nx
 ·by_cases k:K a
  ·rw [hF a k];rcases h.ld a k with e | ⟨e,e'⟩
   ·exact .inl e
   ·exact .inr ⟨hK _ e,by rw [hF _ e,hF _ e];exact e'⟩
  ·exact .inl (hn a ha k).ld
 ·by_cases k:K a
  ·rw [hF a k,hF a k];rcases h.mt a k with e | e | ⟨e,e'⟩
   ·exact .inl e
   ·exact .inr (.inl e)
   ·exact .inr (.inr ⟨hK _ e,e'⟩)
  ·exact .inl (hn a ha k).mt
 ·by_cases k:K a
  ·rw [hF a k,hF a k];rcases h.rp a k with e | ⟨e,e'⟩
   ·exact .inl e
   ·exact .inr ⟨hK _ e,by rw [hF _ e];exact e'⟩
  ·exact .inl (hn a ha k).rp
 ·rw [e2];exact (h.ht k h0 h1).imp id (hK _)
 ·by_cases k:K a
  ·rw [hF a k,hF a k,hF a k,hu a k];exact h.cl a i k
  ·exact (hn a ha k).cl i
 ·by_cases k:K a
  ·rw [hF a k,hF a k];exact h.cf a i k
  ·exact (hn a ha k).cf i
end
theorem Ur (l:List Int) (q:Int):qw l q=if 0<=q/\q<(l.length:Int) then l.getD q.toNat 0 else 0:=by unfold qw J6 nth;simp only [Bool.and_eq_true,decide_eq_true_eq]
theorem vz (l:List Int) (p v q:Int):qw (yl l p v) q=if q=p/\0<=p/\p<(l.length:Int) then v else qw l q:=by
 by_cases hp:0<=p/\p<(l.length:Int)
 ·obtain ⟨k,rfl⟩:=Int.eq_ofNat_of_zero_le hp.1;have hk:k<l.length:=by omega
  have e:yl l (k:Int) v=l.set k v:=by unfold yl J6;simp [hk]
  rw [e,Ur,Ur l,List.length_set];by_cases hq:0<=q/\q<(l.length:Int)
  ·rw [qf hq,qf hq];by_cases h:q=(k:Int)
   ·subst h;rw [qf ⟨rfl,hp⟩,Int.toNat_natCast,List.getD_eq_getElem?_getD,List.getElem?_set_self hk];rfl
   ·rw [qd (fun e=>h e.1),List.getD_eq_getElem?_getD,List.getElem?_set_ne Lb,List.getD_eq_getElem?_getD]
  ·rw [qd hq,qd hq,qd (fun e=>hq (by rw [e.1];exact e.2))]
 ·have e:yl l p v=l:=by unfold yl J6;rw [qd (by simpa using hp)]
  rw [e,qd (fun h=>hp h.2)]
theorem q7y {l:List Int} {q:Int} (h:q<0\/(l.length:Int)<=q):qw l q=0:=by rw [Ur,qd Lb]
theorem Q6 (l:List Int) (p v:Int):(yl l p v).length=l.length:=by unfold yl;split <;> simp
structure Rel (c:Cf) (l:List Int) (K:Int->Prop) (M:Mem):Prop where
 len:(l.length:Int)=c.wd
 F:∀ a,K a->∀ f,0<=f->f<z6 c->qw l (a+f)=M.F a f
 hn:qw l (xn c+2)=M.hn
 ht:∀ k,0<=k->k<4->qw l (3+c.t+k)=M.ht k
 top:qw l 2=M.top
 fz:∀ p,M.top<=p->qw l p=0
structure Gst where
 K:Int->Prop
 up:Int->Int
 M:Mem
 L:List Int
def Sg (F:Int->Int->Int):Int->List Int->Int->Prop
 | a,[],b=>a=b
 | a,x :: r,b=>a=x/\Sg F (F x 2 / 2) r b
def Bn (g:Gst) (x:Int):Prop:=x∈g.L\/(g.K x/\g.M.F x 2 % 2=1/\1<=g.M.F x 6)
def Dec (g:Gst) (a m:Int):Prop:=(m=0/\(g.M.F a 4=1\/(g.K (g.M.F a 4)/\g.M.F (g.M.F a 4) 3≠0/\g.M.F (g.M.F a 4) 3≠a)))\/(g.K m/\g.M.F a 4=m/\g.M.F m 3=a)
structure Led (c:Cf) (g:Gst) (a m r:Int):Prop where
 K:g.K a
 mk':g.M.F a 2 % 2=1
 B:Bn g a
 self:g.M.F a 3=a
 dec:Dec g a m
 m:(m=0/\r=g.M.F a 2 / 2)\/(g.K m/\m=g.M.F a 2 / 2/\g.M.F m 2 % 2=1/\r=g.M.F m 2 / 2)
structure Rp (c:Cf) (g:Gst) (a:Int):Prop where
 st:1<=g.M.F a 6
 rb:a∉g.L->Bn g (g.M.F a 5)
 led:∃ m r,Led c g a m r/\(m≠0->1<=g.M.F m 6)/\(a∈g.L->∃ qs,qs≠[]/\Sg g.M.F (g.M.F a 5) qs r/\∀ q∈qs,g.K q/\¬ Bn g q)
structure Bg (c:Cf) (g:Gst):Prop where
 cl:Sg g.M.F (g.M.hn / 2) g.L 0
 K:∀ x∈g.L,g.K x
 nx:∀ x,Bn g x->g.M.F x 2 / 2=0\/Bn g (g.M.F x 2 / 2)
 ht:∀ k,0<=k->k<4->g.M.ht k=0\/Bn g (g.M.ht k)
 ld:∀ x,g.K x->g.M.F x 3≠0->Bn g (g.M.F x 3)/\g.M.F (g.M.F x 3) 3=g.M.F x 3
 rp:∀ x,g.K x->g.M.F x 5≠0->Rp c g x
 gn:∀ x,Bn g x->x∉g.L->g.M.F x 3≠0/\(g.M.F x 3=x->g.M.F x 5≠0)
structure OkG (c:Cf) (g:Gst) (l:List Int):Prop where
 ki:KI c g.K g.up g.M
 rel:Rel c l g.K g.M
 bg:Bg c g
structure Ext (c:Cf) (g g':Gst):Prop where
 K:∀ a,g.K a->g'.K a
 up:∀ a,g.K a->g'.up a=g.up a
 mn:∀ a,g.K a->g'.M.F a 0=g.M.F a 0
 nm:∀ a,g.K a->g.M.F a 2 % 2=1->g'.M.F a 2=g.M.F a 2
 ld:∀ a,g.K a->g.M.F a 3≠0->g'.M.F a 3=g.M.F a 3
 mt:∀ a,g.K a->g.M.F a 4≠0->g'.M.F a 4=g.M.F a 4
 rp:∀ a,g.K a->g.M.F a 5≠0->g'.M.F a 5=g.M.F a 5
 gv:∀ a i,g.K a->0<=i->i<c.c->3<=g.M.F a (7+3 * i)->g'.M.F a (7+3 * i)=g.M.F a (7+3 * i)/\g'.M.F a (8+3 * i)=g.M.F a (8+3 * i)/\g'.M.F a (9+3 * i)=g.M.F a (9+3 * i)
 ct:∀ a,g.K a->g.M.F a 1<=g'.M.F a 1
 top:g.M.top<=g'.M.top
 bn:∀ a,Bn g a->Bn g' a
 gone:∀ a,Bn g a->a∉g.L->a∉g'.L
 st:∀ a,g.K a->1<=g.M.F a 6->1<=g'.M.F a 6
theorem Ext.refl (c:Cf) (g:Gst):Ext c g g:=⟨fun _ h=>h,fun _ _=>rfl,fun _ _=>rfl,fun _ _ _=>rfl,fun _ _ _=>rfl,fun _ _ _=>rfl,fun _ _ _=>rfl,fun _ _ _ _ _ _=>⟨rfl,rfl,rfl⟩,fun _ _=>Int.le_refl _,Int.le_refl _,fun _ h=>h,fun _ _ h=>h,fun _ _ h=>h⟩
theorem Ext.trans {c:Cf} {g g' g2:Gst} (h:Ext c g g') (k:Ext c g' g2):Ext c g g2 :=
 ⟨fun a e=>k.K a (h.K a e),fun a e=>(k.up a (h.K a e)).trans (h.up a e),fun a e=>(k.mn a (h.K a e)).trans (h.mn a e),
  fun a e e2=>(k.nm a (h.K a e) (by rw [h.nm a e e2];exact e2)).trans (h.nm a e e2),
  fun a e e2=>(k.ld a (h.K a e) (by rw [h.ld a e e2];exact e2)).trans (h.ld a e e2),
  fun a e e2=>(k.mt a (h.K a e) (by rw [h.mt a e e2];exact e2)).trans (h.mt a e e2),
  fun a e e2=>(k.rp a (h.K a e) (by rw [h.rp a e e2];exact e2)).trans (h.rp a e e2),
  fun a i e e0 e1 e2=>by
   obtain ⟨h1,h2,h3⟩:=h.gv a i e e0 e1 e2;obtain ⟨k1,k2,k3⟩:=k.gv a i (h.K a e) e0 e1 (by rw [h1];exact e2);exact ⟨k1.trans h1,k2.trans h2,k3.trans h3⟩,
  fun a e=>Int.le_trans (h.ct a e) (k.ct a (h.K a e)),Int.le_trans h.top k.top,fun a e=>k.bn a (h.bn a e),fun a e e2=>k.gone a (h.bn a e) (h.gone a e e2),fun a e e2=>k.st a (h.K a e) (h.st a e e2)⟩
theorem Sg.congr {F F':Int->Int->Int} {b:Int}:∀ {L:List Int} {a:Int},(∀ x∈L,F' x 2 / 2=F x 2 / 2)->Sg F a L b->Sg F' a L b
 | [],_,_,h=>h
 | x :: r,a,e,h=>⟨h.1,by rw [e x Lc];exact Sg.congr (fun y hy=>e y (by simp [hy])) h.2⟩
theorem Sg.app {F:Int->Int->Int} {b:Int}:∀ {L L2:List Int} {a:Int},Sg F a (L++L2) b↔∃ m,Sg F a L m/\Sg F m L2 b
 | [],L2,a=>⟨fun h=>⟨a,rfl,h⟩,fun ⟨m,e,h⟩=>by cases e;exact h⟩
 | x :: r,L2,a=>by
  constructor
  ·rintro ⟨h1,h2⟩;obtain ⟨m,k1,k2⟩:=Sg.app.1 h2;exact ⟨m,⟨h1,k1⟩,k2⟩
  ·rintro ⟨m,⟨h1,k1⟩,k2⟩;exact ⟨h1,Sg.app.2 ⟨m,k1,k2⟩⟩
structure q24 (g g':Gst):Prop where
 L:g'.L=g.L
 K:g'.K=g.K
 hn:g'.M.hn=g.M.hn
 nx:∀ a,g.K a->g'.M.F a 2 / 2=g.M.F a 2 / 2
 f26:∀ a,g.K a->(g'.M.F a 2=g.M.F a 2/\g'.M.F a 6=g.M.F a 6)\/(Bn g a/\(g.M.F a 2 % 2=1->g'.M.F a 2=g.M.F a 2)/\(1<=g.M.F a 6->1<=g'.M.F a 6))
 f3:∀ a,g.K a->g.M.F a 3≠0->g'.M.F a 3=g.M.F a 3
 f3n:∀ a,g.K a->g.M.F a 3=0->g'.M.F a 3≠0->Bn g (g'.M.F a 3)/\g'.M.F (g'.M.F a 3) 3=g'.M.F a 3
 f4:∀ a,g.K a->g.M.F a 4≠0->g'.M.F a 4=g.M.F a 4
 f5:∀ a,g.K a->g'.M.F a 5=g.M.F a 5
 ht:∀ k,g'.M.ht k=g.M.ht k\/Bn g (g'.M.ht k)
theorem q24.bn {c:Cf} {g g':Gst} (e:q24 g g') (x:Int):Bn g' x↔Bn g x:=by
 unfold Bn;rw [e.L,e.K];constructor
 ·rintro (h | ⟨h1,h2,h3⟩)
  ·exact .inl h
  ·rcases e.f26 x h1 with ⟨k1,k2⟩ | ⟨k,-⟩
   ·rw [k1] at h2;rw [k2] at h3;exact .inr ⟨h1,h2,h3⟩
   ·exact k
 ·rintro (h | ⟨h1,h2,h3⟩)
  ·exact .inl h
  ·rcases e.f26 x h1 with ⟨k1,k2⟩ | ⟨-,k1,k2⟩
   ·rw [k1,k2];exact .inr ⟨h1,h2,h3⟩
   ·rw [k1 h2];exact .inr ⟨h1,h2,k2 h3⟩
theorem q24.mrk {g g':Gst} (e:q24 g g') {a:Int} (ha:g.K a) (h:g.M.F a 2 % 2=1):g'.M.F a 2=g.M.F a 2:=by
 rcases e.f26 a ha with ⟨k,-⟩ | ⟨-,k,-⟩
 ·exact k
 ·exact k h
theorem q24.st {g g':Gst} (e:q24 g g') {a:Int} (ha:g.K a) (h:1<=g.M.F a 6):1<=g'.M.F a 6:=by
 rcases e.f26 a ha with ⟨-,k⟩ | ⟨-,-,k⟩
 ·rw [k];exact h
 ·exact k h
theorem Dec.keep {g g':Gst} {a m:Int} (ha:g.K a) (h15:∀ x,g.K x->15<=x) (hK:∀ x,g.K x->g'.K x) (f3:∀ a,g.K a->g.M.F a 3≠0->g'.M.F a 3=g.M.F a 3) (f4:∀ a,g.K a->g.M.F a 4≠0->g'.M.F a 4=g.M.F a 4) (h:Dec g a m):Dec g' a m:=by
 unfold Dec at *;rcases h with ⟨e,h | ⟨h1,h2,h3⟩⟩ | ⟨h1,h2,h3⟩
 ·rw [f4 a ha Lb];exact .inl ⟨e,.inl h⟩
 ·have:=h15 _ h1;rw [f4 a ha Lb,f3 _ h1 h2];exact .inl ⟨e,.inr ⟨hK _ h1,h2,h3⟩⟩
 ·have:=h15 _ h1;have:=h15 _ ha;rw [f4 a ha Lb,f3 _ h1 Lb];exact .inr ⟨hK _ h1,h2,h3⟩
theorem Led.keep {c:Cf} {g g':Gst} {a m r:Int} (h15:∀ x,g.K x->15<=x) (hK:∀ x,g.K x->g'.K x) (hB:∀ x,Bn g x->Bn g' x) (f2:∀ a,g.K a->g.M.F a 2 % 2=1->g'.M.F a 2=g.M.F a 2) (f3:∀ a,g.K a->g.M.F a 3≠0->g'.M.F a 3=g.M.F a 3) (f4:∀ a,g.K a->g.M.F a 4≠0->g'.M.F a 4=g.M.F a 4) (h:Led c g a m r):Led c g' a m r:=by
 have e2:=f2 _ h.K h.mk';have:=h15 _ h.K;refine ⟨hK _ h.K,by rw [e2];exact h.mk',hB _ h.B,by rw [f3 _ h.K (by rw [h.self];omega)];exact h.self,h.dec.keep h.K h15 hK f3 f4,?_⟩;rw [e2];rcases h.m with k | ⟨k1,k2,k3,k4⟩
 ·exact .inl k
 ·exact .inr ⟨hK _ k1,k2,by rw [f2 _ k1 k3];exact k3,by rw [f2 _ k1 k3];exact k4⟩
theorem Led.m0' {c:Cf} {g:Gst} {a m r:Int} (h:Led c g a m r):m=0\/g.K m:=h.m.elim (fun k=>.inl k.1) (fun k=>.inr k.1)
theorem q24.bg {c:Cf} {g g':Gst} (h15:∀ x,g.K x->15<=x) (h:Bg c g) (e:q24 g g'):Bg c g':=by
 have eb:=e.bn (c:=c);refine ⟨?_,fun x hx=>?_,fun x hx=>?_,fun k k0 k1=>?_,fun x hx hn=>?_,fun x hx hn=>?_,fun x hx hn=>?_⟩
 ·rw [e.hn,e.L];exact h.cl.congr (fun x hx=>e.nx x (h.K x hx))
 ·rw [e.K];rw [e.L] at hx;exact h.K x hx
 ·have hx':=(eb x).1 hx;have hk:g.K x:=hx'.elim (h.K x) (fun k=>k.1);rw [e.nx x hk,eb];exact h.nx x hx'
 ·rcases e.ht k with q | q
  ·rw [q,eb];exact h.ht k k0 k1
  ·exact .inr ((eb _).2 q)
 ·rw [e.K] at hx;by_cases k:g.M.F x 3=0
  ·obtain ⟨q1,q2⟩:=e.f3n x hx k hn;exact ⟨(eb _).2 q1,q2⟩
  ·obtain ⟨q1,q2⟩:=h.ld x hx k;have hk:g.K (g.M.F x 3):=q1.elim (h.K _) (fun k=>k.1);have:=h15 _ hk;rw [e.f3 x hx k,eb];exact ⟨q1,by rw [e.f3 _ hk Lb];exact q2⟩
 ·rw [e.K] at hx;rw [e.f5 x hx] at hn;obtain ⟨st,rb,m,r,L,sm,sh⟩:=h.rp x hx hn;refine ⟨e.st hx st,fun k=>by rw [e.L] at k;rw [e.f5 x hx];exact (eb _).2 (rb k),m,r,L.keep h15 (fun x hx=>by rw [e.K];exact hx) (fun x=>(eb x).2) (fun a ha=>e.mrk ha) e.f3 e.f4,fun k=>e.st (L.m0'.resolve_left k) (sm k),fun k=>?_⟩;rw [e.L] at k;obtain ⟨qs,q1,q2,q3⟩:=sh k;exact ⟨qs,q1,by rw [e.f5 x hx];exact q2.congr (fun y hy=>e.nx y (q3 y hy).1),fun y hy=>⟨by rw [e.K];exact (q3 y hy).1,by rw [eb];exact (q3 y hy).2⟩⟩
 ·have hx':=(eb x).1 hx;have hk:g.K x:=hx'.elim (h.K x) (fun k=>k.1);rw [e.L] at hn;obtain ⟨k1,k2⟩:=h.gn x hx' hn;rw [e.f3 x hk k1,e.f5 x hk];exact ⟨k1,k2⟩
structure Kp (c:Cf) (g:Gst) (l:List Int) (g':Gst) (l':List Int) (mc:Int->Int->Prop) (mp:Int->Prop):Prop where
 cell:∀ a i,g.K a->0<=i->i<c.c->¬ mc a i->(g.M.F a (7+3 * i)=0\/g.M.F a (7+3 * i)=2)->(g'.M.F a (7+3 * i)=0\/g'.M.F a (7+3 * i)=2)/\g'.M.F a (8+3 * i)=g.M.F a (8+3 * i)
 priv:∀ p,jq c<=p->p<g.M.top->(∀ a,g.K a->¬ (a<=p/\p<a+z6 c))->¬ mp p->qw l' p=qw l p/\∀ a,g'.K a->¬ (a<=p/\p<a+z6 c)
structure Goes (c:Cf) (g:Gst) (l:List Int) (g':Gst) (l':List Int) (mc:Int->Int->Prop) (mp:Int->Prop):Prop where
 ok:OkG c g' l'
 ext:Ext c g g'
 kp:Kp c g l g' l' mc mp
 cu:∀ a,g'.K a->(g.K a/\g'.M.F a 1<=g.M.F a 1+1)\/(0<=g'.M.F a 1/\g'.M.F a 1<=16)
 tu:g'.M.top<=g.M.top+3000
 go:∀ a,a∈g.L->a∉g'.L->g.M.F a 2 % 2=1
def no2:Int->Int->Prop:=fun _ _=>False
def no1:Int->Prop:=fun _=>False
section
variable {c:Cf} {g:Gst} {l:List Int}
theorem Goes.same (h:OkG c g l) (mc:Int->Int->Prop) (mp:Int->Prop):Goes c g l g l mc mp :=
 ⟨h,Ext.refl c g,⟨fun a i _ _ _ _ e=>⟨e,rfl⟩,fun p _ _ e _=>⟨rfl,e⟩⟩,fun a k=>.inl ⟨k,by omega⟩,by omega,fun a k k2=>absurd k k2⟩
theorem Goes.weak {g':Gst} {l':List Int} {mc mc':Int->Int->Prop} {mp mp':Int->Prop} (h:Goes c g l g' l' mc mp) (h1:∀ a i,mc a i->mc' a i) (h2:∀ p,mp p->mp' p):Goes c g l g' l' mc' mp' :=
 ⟨h.ok,h.ext,⟨fun a i e0 e1 e2 e3=>h.kp.cell a i e0 e1 e2 (fun k=>e3 (h1 a i k)),fun p e0 e1 e2 e3=>h.kp.priv p e0 e1 e2 (fun k=>e3 (h2 p k))⟩,h.cu,h.tu,h.go⟩
def Gst.set (g:Gst) (b f v:Int):Gst:={ g with M:=g.M.set b f v }
theorem Tf {b f v:Int} (hb:g.K b) (h2:f=2->v / 2=g.M.F b 2 / 2/\Bn g b/\g.M.F b 2 % 2=0) (h3:f=3->g.M.F b 3=0/\Bn g v/\(v=b\/g.M.F v 3=v)) (h4:f=4->g.M.F b 4=0) (h5:f≠5) (h6:f=6->Bn g b/\1<=v):q24 g (g.set b f v):=by
 have eq:∀ a f',(a≠b\/f'≠f)->(g.set b f v).M.F a f'=g.M.F a f':=fun a f' k=>k.elim (fun e=>Jb e) (fun e=>xd e)
 have on:(g.set b f v).M.F b f=v:=upd_same _ _ _ _;refine ⟨rfl,rfl,rfl,fun a ha=>?_,fun a ha=>?_,fun a ha k=>?_,fun a ha k k2=>?_,fun a ha k=>?_,fun a ha=>eq a 5 (.inr (fun e=>h5 e.symm)),fun k=>.inl rfl⟩
 ·by_cases e:a=b/\(2:Int)=f
  ·obtain ⟨rfl,rfl⟩:=e;rw [on];exact (h2 rfl).1
  ·rw [eq a 2 Lb]
 ·by_cases e:a=b/\((2:Int)=f\/(6:Int)=f)
  ·obtain ⟨rfl,rfl | rfl⟩:=e
   ·right;refine ⟨(h2 rfl).2.1,fun k=>?_,fun k=>by rw [eq a 6 (.inr Lb)];exact k⟩;have:=(h2 rfl).2.2;omega
   ·right;refine ⟨(h6 rfl).1,fun k=>eq a 2 (.inr Lb),fun k=>by rw [on];exact (h6 rfl).2⟩
  ·left;exact ⟨eq a 2 Lb,eq a 6 Lb⟩
 ·refine eq a 3 ?_;by_cases e:a=b
  ·right;intro e2;subst e;exact k (h3 e2.symm).1
  ·exact .inl e
 ·by_cases e:a=b/\(3:Int)=f
  ·obtain ⟨rfl,rfl⟩:=e;obtain ⟨-,q1,q2⟩:=h3 rfl;rw [on];refine ⟨q1,?_⟩;by_cases e:v=a
   ·rw [e] at on ⊢;exact on
   ·rw [eq v 3 (.inl e)];exact q2.resolve_left e
  ·rw [eq a 3 Lb] at k2;exact absurd k k2
 ·exact Fe
theorem OkG.p15 (hc:c.Ok) (h:OkG c g l):∀ x,g.K x->15<=x:=fun x hx=>h.ki.pos hc hx
theorem Bn.K {x:Int} (h:OkG c g l) (k:Bn g x):g.K x:=k.elim (h.bg.K x) (fun k=>k.1)
theorem Rel.low (hc:c.Ok) (h:OkG c g l) {a:Int} (ha:g.K a):14+c.t<=a/\a+z6 c<=c.wd/\a+z6 c<=g.M.top/\0<z6 c:=by obtain ⟨h1,h2,h3⟩:=h.ki.al a ha;have:=(Z1 hc h1).1;have:=hc.c2;have:=hc.t1;unfold jq at *;exact ⟨by omega,h2,h3,by unfold z6;omega⟩
theorem Rel.setF (hc:c.Ok) (h:OkG c g l) {b f:Int} (hb:g.K b) (hf:0<=f/\f<z6 c) (v:Int):Rel c (yl l (b+f) v) g.K (g.M.set b f v):=by
 obtain ⟨l1,l2,l3,l4⟩:=Rel.low hc h hb;have hl:=h.rel.len;have hin:0<=b+f/\b+f<(l.length:Int):=by have:=hc.t1;omega
 refine ⟨by rw [Q6];exact hl,fun a ha f' h0 h1=>?_,?_,fun k h0 h1=>?_,?_,fun p hp=>?_⟩
 ·rw [vz];unfold Mem.set upd;simp only;by_cases e:a=b/\f'=f
  ·rw [qf ⟨by omega,hin⟩,qf e]
  ·rw [qd (fun k=>e (qcq hc (h.ki.al a ha).1 (h.ki.al b hb).1 ⟨h0,h1⟩ hf k.1)),qd e];exact h.rel.F a ha f' h0 h1
 ·rw [vz,qd Mo];exact h.rel.hn
 ·rw [vz,qd Lb];exact h.rel.ht k h0 h1
 ·rw [vz,qd (by have:=hc.t1;omega)];exact h.rel.top
 ·rw [vz,qd (by have:(g.M.set b f v).top=g.M.top:=rfl;omega)];exact h.rel.fz p hp
theorem Vq (hc:c.Ok) (h:OkG c g l) {b f:Int} (hb:g.K b) (hf:0<=f/\f<z6 c) (v:Int):∀ p,jq c<=p->p<g.M.top->(∀ a,g.K a->¬ (a<=p/\p<a+z6 c))->qw (yl l (b+f) v) p=qw l p/\∀ a,(g.set b f v).K a->¬ (a<=p/\p<a+z6 c):=fun p _ _ e =>
 ⟨by rw [vz,qd (fun k=>e b hb Lb)],e⟩
theorem q8i (hc:c.Ok) (h:OkG c g l) {b f:Int} (hb:g.K b) (hf:0<=f/\f<=6) (v:Int) (ki:KI c g.K g.up (g.M.set b f v)) (e:Ext c g (g.set b f v)) (hu:f=1->v<=g.M.F b 1+1) (mi:q24 g (g.set b f v)):Goes c g l (g.set b f v) (yl l (b+f) v) no2 no1:=by
 have hs:f<z6 c:=by have:=hc.c2;have:=hc.t1;unfold z6;omega
 refine ⟨⟨ki,Rel.setF hc h hb ⟨hf.1,hs⟩ v,mi.bg (h.p15 hc) h.bg⟩,e,⟨fun a i ha h0 h1 _ k=>?_,fun p h0 h1 h2 _=>Vq hc h hb ⟨hf.1,hs⟩ v p h0 h1 h2⟩,fun a k=>.inl ⟨k,?_⟩,by show g.M.top<=_;omega,fun a k k2=>absurd k k2⟩;rotate_left
 ·unfold Gst.set Mem.set upd;simp only;split
  ·rename_i e1;rw [e1.1];exact hu e1.2.symm
  ·omega
 have e7:(g.set b f v).M.F a (7+3 * i)=g.M.F a (7+3 * i):=xd Lb;have e8:(g.set b f v).M.F a (8+3 * i)=g.M.F a (8+3 * i):=xd Lb;rw [e7,e8];exact ⟨k,rfl⟩
theorem qb6 {b f v:Int} (hf:0<=f/\f<=6) (h0:f≠0) (h2:f=2->g.M.F b 2 % 2=0) (h3:f=3->g.M.F b 3=0) (h4:f=4->g.M.F b 4=0) (h5:f=5->g.M.F b 5=0) (h1:f=1->g.M.F b 1<=v) (mi:q24 g (g.set b f v)):Ext c g (g.set b f v):=by
 have eq:∀ a f',(a≠b\/f'≠f)->(g.set b f v).M.F a f'=g.M.F a f':=fun a f' k=>k.elim (fun e=>Jb e) (fun e=>xd e)
 refine ⟨fun _ k=>k,fun _ _=>rfl,fun a _=>eq a 0 (.inr Lb),fun a _ k=>?_,fun a _ k=>?_,fun a _ k=>?_,fun a _ k=>?_,fun a i _ i0 i1 k=>⟨eq a _ (.inr Lb),eq a _ (.inr Lb),eq a _ (.inr Lb)⟩,fun a _=>?_,Int.le_refl _,fun a k=>(mi.bn (c:=c) a).2 k,fun a _ k=>k,fun a ha k=>mi.st ha k⟩
 ·refine eq a 2 ?_;by_cases e:a=b
  ·right;intro e2;subst e;have:=h2 e2.symm;omega
  ·exact .inl e
 ·refine eq a 3 ?_;by_cases e:a=b
  ·right;intro e2;subst e;exact k (h3 e2.symm)
  ·exact .inl e
 ·exact Fe
 ·refine eq a 5 ?_;by_cases e:a=b
  ·right;intro e2;subst e;exact k (h5 e2.symm)
  ·exact .inl e
 ·by_cases e:a=b/\(1:Int)=f
  ·obtain ⟨rfl,e2⟩:=e;have:(g.set a f v).M.F a 1=v:=by unfold Gst.set Mem.set;simp only;rw [<- e2];exact upd_same _ _ _ _
   rw [this];exact h1 e2.symm
  ·have:(g.set b f v).M.F a 1=g.M.F a 1:=by unfold Gst.set Mem.set upd;simp only;exact qd e
   rw [this];exact Int.le_refl _
theorem Xd (hc:c.Ok) (h:OkG c g l) {b f:Int} (hb:g.K b) (hf:0<=f/\f<=6) (v:Int) (ki:KI c g.K g.up (g.M.set b f v)) (h0:f≠0) (h5:f≠5) (h1:f=1->g.M.F b 1<=v/\v<=g.M.F b 1+1) (h2:f=2->v / 2=g.M.F b 2 / 2/\Bn g b/\g.M.F b 2 % 2=0) (h3:f=3->g.M.F b 3=0/\Bn g v/\(v=b\/g.M.F v 3=v)) (h4:f=4->g.M.F b 4=0) (h6:f=6->Bn g b/\1<=v) :
  Goes c g l (g.set b f v) (yl l (b+f) v) no2 no1 :=
 q8i hc h hb hf v ki (qb6 hf h0 (fun e=>(h2 e).2.2) (fun e=>(h3 e).1) h4 (fun e=>absurd e h5) (fun e=>(h1 e).1) (Tf hb h2 h3 h4 h5 h6)) (fun e=>(h1 e).2) (Tf hb h2 h3 h4 h5 h6)
theorem q4v (hc:c.Ok) (h:OkG c g l) {b v:Int} (hb:g.K b) (hv:g.M.F b 1<=v) (hu:v<=g.M.F b 1+1):Goes c g l (g.set b 1 v) (yl l (b+1) v) no2 no1 :=
 Xd hc h hb Lb v (h.ki.setFree b 1 v (.inl rfl) (fun _=>hv)) Lb Lb (fun _=>⟨hv,hu⟩) Lb Lb Lb Lb
theorem Zp (hc:c.Ok) (h:OkG c g l) {b:Int} (v:Int) (hb:Bn g b) (hv:1<=v):Goes c g l (g.set b 6 v) (yl l (b+6) v) no2 no1 :=
 Xd hc h (hb.K h) Lb v (h.ki.setFree b 6 v (.inr rfl) Lb) Lb Lb Lb Lb Lb Lb (fun _=>⟨hb,hv⟩)
theorem Rb (hc:c.Ok) (h:OkG c g l) {b v:Int} (hb:g.K b) (h0:g.M.F b 3=0) (hv:Bn g v) (hb2:v=b\/(g.M.F v 4=b/\g.M.F v 2 % 2=1)) (hs:v=b\/g.M.F v 3=v):Goes c g l (g.set b 3 v) (yl l (b+3) v) no2 no1 :=
 Xd hc h hb Lb v (h.ki.setLead (hv.K h) hb2) Lb Lb Lb Lb (fun _=>⟨h0,hv,hs⟩) Lb Lb
theorem q6p (hc:c.Ok) (h:OkG c g l) {b v:Int} (hb:g.K b) (h0:g.M.F b 4=0) (hv:v=1\/(g.K v/\g.M.F b 2 / 2=v/\g.M.F b 2 % 2=1)):Goes c g l (g.set b 4 v) (yl l (b+4) v) no2 no1 :=
 Xd hc h hb Lb v (h.ki.setMate hc h0 hv) Lb Lb Lb Lb Lb (fun _=>h0) Lb
theorem Ty (hc:c.Ok) (h:OkG c g l) {b v:Int} (hb:Bn g b) (h0:g.M.F b 2 % 2=0) (hv:v / 2=g.M.F b 2 / 2):Goes c g l (g.set b 2 v) (yl l (b+2) v) no2 no1 :=
 Xd hc h (hb.K h) Lb v (h.ki.setNext h0 (by rw [hv];exact h.ki.nx b (hb.K h))) Lb Lb Lb (fun _=>⟨hv,hb,h0⟩) Lb Lb Lb
theorem q6l (hc:c.Ok) (h:OkG c g l) {b v:Int} (hb:g.K b) (h0:g.M.F b 5=0) (hv:g.K v/\g.M.F v 0=g.M.F b 0) (st:1<=g.M.F b 6) (led:∃ m r,Led c g b m r/\(m≠0->1<=g.M.F m 6)/\(b∈g.L->∃ qs,qs≠[]/\Sg g.M.F v qs r/\∀ q∈qs,g.K q/\¬ Bn g q)):Goes c g l (g.set b 5 v) (yl l (b+5) v) no2 no1:=by
 have hs:(5:Int)<z6 c:=by have:=hc.c2;have:=hc.t1;unfold z6;omega
 have eq:∀ a f',(a≠b\/f'≠5)->(g.set b 5 v).M.F a f'=g.M.F a f':=fun a f' k=>k.elim (fun e=>Jb e) (fun e=>xd e)
 have e2:∀ a,(g.set b 5 v).M.F a 2=g.M.F a 2:=fun a=>eq a 2 (.inr Lb)
 have e3:∀ a,(g.set b 5 v).M.F a 3=g.M.F a 3:=fun a=>eq a 3 (.inr Lb)
 have e4:∀ a,(g.set b 5 v).M.F a 4=g.M.F a 4:=fun a=>eq a 4 (.inr Lb)
 have e6:∀ a,(g.set b 5 v).M.F a 6=g.M.F a 6:=fun a=>eq a 6 (.inr Lb)
 have eb:∀ x,Bn (g.set b 5 v) x↔Bn g x:=fun x=>by show (x∈g.L\/(g.K x/\(g.set b 5 v).M.F x 2 % 2=1/\1<=(g.set b 5 v).M.F x 6))↔_;rw [e2,e6];exact Iff.rfl
 have lk:∀ {a m r:Int},Led c g a m r->Led c (g.set b 5 v) a m r:=fun L=>L.keep (h.p15 hc) (fun _ k=>k) (fun x=>(eb x).2) (fun a _ _=>e2 a) (fun a _ _=>e3 a) (fun a _ _=>e4 a)
 have bg:Bg c (g.set b 5 v):=by
  have hb5:∀ x,g.M.F x 5≠0->(g.set b 5 v).M.F x 5≠0:=fun x k=>by
   by_cases e:x=b
   ·subst e;exact absurd h0 k
   ·rw [eq x 5 (.inl e)];exact k
  have bL:b∈g.L:=Classical.byContradiction fun k=>by obtain ⟨m,r,L,-⟩:=led;exact (h.bg.gn b L.B k).2 L.self h0
  refine ⟨h.bg.cl.congr (fun x _=>by rw [e2]),h.bg.K,fun x hx=>?_,fun k k0 k1=>?_,fun x hx hn=>?_,fun x hx hn=>?_,fun x hx hn=>?_⟩
  ·rw [e2,eb];exact h.bg.nx x ((eb x).1 hx)
  ·have:(g.set b 5 v).M.ht k=g.M.ht k:=rfl;rw [this,eb];exact h.bg.ht k k0 k1
  ·rw [e3] at hn ⊢;rw [e3,eb];exact h.bg.ld x hx hn
  ·by_cases e:x=b
   ·subst e;obtain ⟨m,r,L,sm,sh⟩:=led;refine ⟨by rw [e6];exact st,fun k=>absurd bL k,m,r,lk L,fun k=>by rw [e6];exact sm k,fun k=>?_⟩;obtain ⟨qs,q1,q2,q3⟩:=sh k;have:(g.set x 5 v).M.F x 5=v:=upd_same _ _ _ _;rw [this];exact Et
   ·have e5:(g.set b 5 v).M.F x 5=g.M.F x 5:=eq x 5 (.inl e);rw [e5] at hn;obtain ⟨s1,rb,m,r,L,sm,sh⟩:=h.bg.rp x hx hn;refine ⟨by rw [e6];exact s1,fun k=>by rw [e5,eb];exact rb k,m,r,lk L,fun k=>by rw [e6];exact sm k,fun k=>?_⟩;obtain ⟨qs,q1,q2,q3⟩:=sh k;rw [e5];exact Et
  ·obtain ⟨k1,k2⟩:=h.bg.gn x ((eb x).1 hx) hn;rw [e3];exact ⟨k1,fun k=>hb5 x (k2 k)⟩
 refine ⟨⟨h.ki.setRepl hv,Rel.setF hc h hb ⟨by omega,hs⟩ v,bg⟩,⟨fun _ k=>k,fun _ _=>rfl,fun a _=>eq a 0 (.inr Lb),fun a _ _=>e2 a,fun a _ _=>e3 a,fun a _ _=>e4 a,fun a _ k=>?_,fun a i _ i0 i1 k=>⟨eq a _ (.inr Lb),eq a _ (.inr Lb),eq a _ (.inr Lb)⟩,fun a _=>by rw [eq a 1 (.inr Lb)];exact Int.le_refl _,Int.le_refl _,fun x k=>(eb x).2 k,fun _ _ k=>k,fun a _ k=>by rw [e6];exact k⟩,⟨fun a i ha h0 h1 _ k=>?_,fun p h0 h1 h2 _=>Vq hc h hb ⟨by omega,hs⟩ v p h0 h1 h2⟩,fun a k=>.inl ⟨k,by rw [eq a 1 (.inr Lb)];omega⟩,by show g.M.top<=_;omega,fun a k k2=>absurd k k2⟩
 ·by_cases e:a=b
  ·subst e;exact absurd h0 k
  ·exact eq a 5 (.inl e)
 ·rw [eq a (7+3 * i) (.inr Lb),eq a (8+3 * i) (.inr Lb)];exact ⟨k,rfl⟩
theorem Vz (hc:c.Ok) (h:OkG c g l) {b j o v:Int} (hb:g.K b) (hj:0<=j/\j<c.c) (ho:o=7\/o=8\/o=9) (hs:g.M.F b (7+3 * j)<3)
  (hv:(o=7->v<1\/v=2\/(g.M.F b 0<=g.M.F b (8+3 * j)/\g.M.F b (8+3 * j)<g.up b))/\(o=8->g.M.F b (7+3 * j)<1\/g.M.F b (7+3 * j)=2)/\(o=7->v=2\/j<g.M.F b 1)) :
  Goes c g l (g.set b (o+3 * j) v) (yl l (b+(o+3 * j)) v) (fun a i=>a=b/\i=j) no1:=by
 have hsz:o+3 * j<z6 c:=by unfold z6;omega
 have eq:∀ a f',(a≠b\/f'≠o+3 * j)->(g.set b (o+3 * j) v).M.F a f'=g.M.F a f':=fun a f' k=>k.elim (fun e=>Jb e) (fun e=>xd e)
 have eq2:∀ a i o',(o'=7\/o'=8\/o'=9)->¬ (a=b/\i=j)->(g.set b (o+3 * j) v).M.F a (o'+3 * i)=g.M.F a (o'+3 * i):=fun a i o' k1 k2=>by
  refine eq a _ ?_;by_cases e:a=b
  ·right;intro e2;exact k2 ⟨e,by omega⟩
  ·exact .inl e
 have mi:q24 g (g.set b (o+3 * j) v):=Tf hb Lb Lb Lb Lb Lb;refine ⟨⟨h.ki.setCell hj.1 ho (fun _ _=>hv),Rel.setF hc h hb ⟨by omega,hsz⟩ v,mi.bg (h.p15 hc) h.bg⟩,⟨fun _ k=>k,fun _ _=>rfl,fun a _=>eq a 0 (.inr Lb),fun a _ _=>eq a 2 (.inr Lb),fun a _ _=>eq a 3 (.inr Lb),fun a _ _=>eq a 4 (.inr Lb),fun a _ _=>eq a 5 (.inr Lb),fun a i _ i0 i1 k=>?_,fun a _=>by rw [eq a 1 (.inr Lb)];exact Int.le_refl _,Int.le_refl _,fun a k=>(mi.bn (c:=c) a).2 k,fun a _ k=>k,fun a ha k=>mi.st ha k⟩,⟨fun a i ha h0 h1 hn k=>?_,fun p h0 h1 h2 _=>Vq hc h hb ⟨by omega,hsz⟩ v p h0 h1 h2⟩,fun a k=>.inl ⟨k,by rw [eq a 1 (.inr Lb)];omega⟩,by show g.M.top<=_;omega,fun a k k2=>absurd k k2⟩
 ·have hne:¬ (a=b/\i=j):=by rintro ⟨rfl,rfl⟩;omega
  exact ⟨eq2 a i 7 (.inl rfl) hne,eq2 a i 8 (.inr (.inl rfl)) hne,eq2 a i 9 (.inr (.inr rfl)) hne⟩
 ·rw [eq2 a i 7 (.inl rfl) hn,eq2 a i 8 (.inr (.inl rfl)) hn];exact ⟨k,rfl⟩
theorem Vx (hc:c.Ok) (h:OkG c g l) {b j v:Int} (hb:g.K b) (hj:0<=j/\j<c.c) (hv:(g.M.F b (7+3 * j)=0/\v=2)\/(g.M.F b (7+3 * j)=1/\3<=v)) :
  Goes c g l (g.set b (7+3 * j) v) (yl l (b+(7+3 * j)) v) no2 no1:=by
 have hcl:=h.ki.cl b j hb hj.1 hj.2;have k:=Vz hc h hb hj (o:=7) (v:=v) (.inl rfl) Lb ⟨fun _=>by rcases hv with ⟨e1,e2⟩ | ⟨e1,e2⟩;exact .inr (.inl e2);exact .inr (.inr (hcl Lb Lb)),fun e=>by omega,fun _=>by rcases hv with ⟨e1,e2⟩ | ⟨e1,e2⟩;exact .inl e2;exact .inr (by by_cases q:g.M.F b 1<=j;(have:=h.ki.cf b j hb hj.1 hj.2 q;omega);omega)⟩;refine ⟨k.ok,k.ext,⟨fun a i ha h0 h1 _ e=>?_,k.kp.priv⟩,k.cu,k.tu,k.go⟩;by_cases hab:a=b/\i=j
 ·obtain ⟨rfl,rfl⟩:=hab;have e7:(g.set a (7+3 * i) v).M.F a (7+3 * i)=v:=upd_same _ _ _ _;have e8:(g.set a (7+3 * i) v).M.F a (8+3 * i)=g.M.F a (8+3 * i):=xd Lb;rw [e7,e8];rcases hv with ⟨e1,e2⟩ | ⟨e1,e2⟩
  ·exact ⟨.inr e2,rfl⟩
  ·omega
 ·exact k.kp.cell a i ha h0 h1 hab e
theorem Xi (hc:c.Ok) (h:OkG c g l) {p:Int} (v:Int) (hp:0<=p/\p<3+c.t/\p≠2):Goes c g l g (yl l p v) no2 no1:=by
 have hl:=h.rel.len;have ne:∀ q,q≠p->qw (yl l p v) q=qw l q:=fun q k=>by rw [vz,qd (fun e=>k e.1)]
 refine ⟨⟨h.ki,⟨by rw [Q6];exact hl,fun a ha f h0 h1=>?_,?_,fun k h0 h1=>?_,?_,fun q hq=>?_⟩,h.bg⟩,Ext.refl c g,⟨fun a i _ _ _ _ k=>⟨k,rfl⟩,fun q h0 h1 h2 _=>⟨ne q Ov,h2⟩⟩,fun a k=>.inl ⟨k,by first | omega | (simp only;omega)⟩,by first | omega | (simp only;omega),fun a k k2=>absurd k k2⟩
 ·exact El
 ·exact Fs
 ·rw [ne _ Lb];exact h.rel.ht k h0 h1
 ·rw [ne _ Lb];exact h.rel.top
 ·obtain ⟨a,ha,-⟩:=h.ki.hd;obtain ⟨l1,l2,l3,l4⟩:=Rel.low hc h ha;exact Hk
theorem q59 (hc:c.Ok) (h:OkG c g l) {k v:Int} (hk:0<=k/\k<4) (hv:Bn g v):Goes c g l { g with M:={ g.M with ht:=fun j=>if j=k then v else g.M.ht j } } (yl l (3+c.t+k) v) no2 no1:=by
 have hl:=h.rel.len;have ht:=hc.t1;have hw:=hc.top;have hc2:=hc.c2;have ne:∀ q,q≠3+c.t+k->qw (yl l (3+c.t+k) v) q=qw l q:=fun q e=>by rw [vz,qd (fun e2=>e e2.1)]
 have mi:q24 g { g with M:={ g.M with ht:=fun j=>if j=k then v else g.M.ht j } }:=⟨rfl,rfl,rfl,fun _ _=>rfl,fun _ _=>.inl ⟨rfl,rfl⟩,fun _ _ _=>rfl,fun _ _ k k2=>absurd k k2,fun _ _ _=>rfl,fun _ _=>rfl,fun j=>by
  simp only
  split
  ·exact .inr hv
  ·exact .inl rfl⟩
 refine ⟨⟨h.ki.setHint (hv.K h),⟨by rw [Q6];exact hl,fun a ha f h0 h1=>?_,?_,fun j h0 h1=>?_,?_,fun q hq=>?_⟩,mi.bg (h.p15 hc) h.bg⟩,⟨fun _ e=>e,fun _ _=>rfl,fun _ _=>rfl,fun _ _ _=>rfl,fun _ _ _=>rfl,fun _ _ _=>rfl,fun _ _ _=>rfl,fun _ _ _ _ _ _=>⟨rfl,rfl,rfl⟩,fun _ _=>Int.le_refl _,Int.le_refl _,fun _ k=>k,fun _ _ k=>k,fun _ _ k=>k⟩,⟨fun a i _ _ _ _ e=>⟨e,rfl⟩,fun q h0 h1 h2 _=>⟨ne q Ov,h2⟩⟩,fun a k=>.inl ⟨k,by first | omega | (simp only;omega)⟩,by first | omega | (simp only;omega),fun a k k2=>absurd k k2⟩
 ·exact El
 ·exact Fs
 ·simp only;by_cases e:j=k
  ·subst e;rw [vz,qf ⟨rfl,by omega,by omega⟩,qf rfl]
  ·rw [ne _ Lb,qd e];exact h.rel.ht j h0 h1
 ·rw [ne _ Lb];exact h.rel.top
 ·obtain ⟨a,ha,-⟩:=h.ki.hd;obtain ⟨l1,l2,l3,l4⟩:=Rel.low hc h ha;have hq':g.M.top<=q:=hq;exact Hk
theorem q72 {F:Int->Int->Int} {a b y:Int} {L:List Int} (h:Sg F a L b) (hy:y∈L):a∈L:=by
 cases L with
 | nil=>simp at hy
 | cons x r=>rw [h.1];simp
theorem q5h (hc:c.Ok) (h:OkG c g l):∀ {L:List Int} {a b:Int},Sg g.M.F a L b->(∀ x∈L,g.K x)->∀ y∈L,g.M.F a 0<=g.M.F y 0
 | [],_,_,_,_,y,hy=>by simp at hy
 | x :: r,a,b,s,hk,y,hy=>by
  obtain ⟨rfl,s2⟩:=s;rcases List.mem_cons.1 hy with rfl | hy
  ·exact Int.le_refl _
  ·have k1:=q5h hc h s2 (fun z hz=>hk z Ox) y hy;have kx:=hk a Lc;have:=h.ki.mn a kx;have kn:=hk _ (List.mem_cons_of_mem _ (q72 s2 hy));have:=h.p15 hc _ kn;rcases h.ki.nx a kx with ⟨e,-⟩ | ⟨-,e⟩
   ·omega
   ·omega
theorem q5s (hc:c.Ok) (h:OkG c g l):∀ {L:List Int} {a b:Int},Sg g.M.F a L b->(∀ x∈L,g.K x)->L.Pairwise fun x y=>g.up x<=g.M.F y 0
 | [],_,_,_,_=>List.Pairwise.nil
 | x :: r,a,b,s,hk=>by
  obtain ⟨rfl,s2⟩:=s;refine List.pairwise_cons.2 ⟨fun y hy=>?_,q5s hc h s2 (fun z hz=>hk z Ox)⟩;have k1:=q5h hc h s2 (fun z hz=>hk z Ox) y hy;have kn:=hk _ (List.mem_cons_of_mem _ (q72 s2 hy));have:=h.p15 hc _ kn;rcases h.ki.nx a (hk a Lc) with ⟨e,-⟩ | ⟨-,e⟩
  ·omega
  ·omega
theorem qce (hc:c.Ok) (h:OkG c g l):∀ {L:List Int} {a b:Int},Sg g.M.F a L b->(∀ x∈L,g.K x)->b≠0->∀ y∈L,g.up y<=g.M.F b 0
 | [],_,_,_,_,_,y,hy=>by simp at hy
 | x :: r,a,b,s,hk,hb,y,hy=>by
  obtain ⟨rfl,s2⟩:=s;have kx:=hk a Lc;have ih:=qce hc h s2 (fun z hz=>hk z Ox) hb;rcases List.mem_cons.1 hy with rfl | hy
  ·cases r with
   | nil =>
    rcases h.ki.nx y kx with ⟨e,-⟩ | ⟨-,e⟩
    ·rw [show g.M.F y 2 / 2=b from s2] at e;exact absurd e hb
    ·rw [show g.M.F y 2 / 2=b from s2] at e;omega
   | cons z r =>
    have k1:=ih z Lc;obtain ⟨e2,-⟩:=s2;have kz:=hk z Lc;have:=h.ki.mn z kz;have:=h.p15 hc z kz;rcases h.ki.nx y kx with ⟨e,-⟩ | ⟨-,e⟩
    ·omega
    ·rw [e2] at e;omega
  ·exact ih y hy
theorem Jm {F:Int->Int->Int}:∀ {L:List Int} {a b x:Int},Sg F a L b->x∈L->F x 2 / 2=b\/F x 2 / 2∈L
 | [],_,_,x,_,hx=>by simp at hx
 | y :: r,a,b,x,s,hx=>by
  obtain ⟨rfl,s2⟩:=s;rcases List.mem_cons.1 hx with rfl | hx
  ·cases r with
   | nil=>exact .inl s2
   | cons z r=>right;rw [s2.1];simp
  ·rcases Jm s2 hx with k | k
   ·exact .inl k
   ·exact .inr (by simp [k])
theorem OkG.rise (hc:c.Ok) (h:OkG c g l):g.L.Pairwise fun x y=>g.up x<=g.M.F y 0:=q5s hc h h.bg.cl h.bg.K
theorem q51 {α:Type} {R:α->α->Prop}:∀ {L:List α} {x y:α},L.Pairwise R->x∈L->y∈L->x≠y->R x y\/R y x
 | [],x,_,_,hx,_,_=>by simp at hx
 | z :: r,x,y,h,hx,hy,hn=>by
  rw [List.pairwise_cons] at h;rcases List.mem_cons.1 hx with e | hx
  ·rcases List.mem_cons.1 hy with e2 | hy
   ·exact absurd (e.trans e2.symm) hn
   ·rw [e];exact .inl (h.1 y hy)
  ·rcases List.mem_cons.1 hy with e | hy
   ·rw [e];exact .inr (h.1 x hx)
   ·exact q51 h.2 hx hy hn
theorem OkG.tri (hc:c.Ok) (h:OkG c g l) {x y:Int} (hx:x∈g.L) (hy:y∈g.L) (hn:x≠y):g.up x<=g.M.F y 0\/g.up y<=g.M.F x 0:=q51 (h.rise hc) hx hy hn
theorem OkG.apart (hc:c.Ok) (h:OkG c g l) {A B:List Int} (e:g.L=A++B) {x y:Int} (hx:x∈A) (hy:y∈B):x≠y:=by have:=h.rise hc;rw [e,List.pairwise_append] at this;have k:=this.2.2 x hx y hy;intro e2;subst e2;have:=h.ki.mn x (h.bg.K x (by rw [e];simp [hx]));omega
def hiL (g:Gst) (a m:Int):Int:=g.up (if m=0 then a else m)
structure Ctt (c:Cf) (g:Gst) (a:Int) (A:List Int) (m r:Int) (qs R:List Int):Prop where
 L:Led c g a m r
 sa:1<=g.M.F a 6
 sm:m≠0->1<=g.M.F m 6
 gl:g.L=A++a :: ((if m=0 then [] else [m])++R)
 sA:Sg g.M.F (g.M.hn / 2) A a
 sR:Sg g.M.F r R 0
 qn:qs≠[]
 sq:Sg g.M.F (g.M.F a 5) qs r
 qK:∀ q∈qs,g.K q/\¬ Bn g q
theorem q9r (hc:c.Ok) (h:OkG c g l) {a:Int} (ha:a∈g.L) (h5:g.M.F a 5≠0):∃ A m r qs R,Ctt c g a A m r qs R:=by
 obtain ⟨sa,-,m,r,L,sm,sh⟩:=h.bg.rp a (h.bg.K a ha) h5;obtain ⟨qs,q1,q2,q3⟩:=sh ha;obtain ⟨A,B,e⟩:=List.append_of_mem ha;have hcl:=h.bg.cl;rw [e] at hcl;obtain ⟨a',s1,s2,s3⟩:=Sg.app.1 hcl;subst s2;have h15:=h.p15 hc;rcases L.m with ⟨e1,e2⟩ | ⟨e1,e2,e3,e4⟩
 ·subst e1;exact ⟨A,0,r,qs,B,L,sa,sm,by rw [qf rfl];exact e,s1,by rw [e2];exact s3,q1,q2,q3⟩
 ·have:=h15 m e1;cases B with
  | nil=>have e0:g.M.F a' 2 / 2=0:=s3;omega
  | cons z R =>
   obtain ⟨k1,k2⟩:=s3;rw [<- e2] at k1;subst k1;exact ⟨A,m,r,qs,R,L,sa,sm,by rw [qd Lb];exact e,s1,by rw [e4];exact k2,q1,q2,q3⟩
theorem Led.hi (hc:c.Ok) (h:OkG c g l) {a m r:Int} (L:Led c g a m r):g.M.F a 0<hiL g a m/\(r=0->hiL g a m=64)/\(r≠0->hiL g a m=g.M.F r 0):=by
 have h1:=h.ki.mn a L.K;unfold hiL;rcases L.m with ⟨e1,e2⟩ | ⟨e1,e2,e3,e4⟩
 ·rw [qf e1];refine ⟨h1.2.1,fun e=>?_,fun e=>?_⟩
  ·rcases h.ki.nx a L.K with ⟨q1,q2⟩ | ⟨q1,q2⟩
   ·exact q2
   ·have:=h.p15 hc _ q1;omega
  ·rcases h.ki.nx a L.K with ⟨q1,q2⟩ | ⟨q1,q2⟩
   ·omega
   ·rw [e2];exact q2.symm
 ·have:=h.p15 hc _ e1;have h2:=h.ki.mn m e1;rw [qd Lb];refine ⟨?_,fun e=>?_,fun e=>?_⟩
  ·rcases h.ki.nx a L.K with ⟨q1,q2⟩ | ⟨q1,q2⟩
   ·omega
   ·rw [<- e2] at q2;omega
  ·rcases h.ki.nx m e1 with ⟨q1,q2⟩ | ⟨q1,q2⟩
   ·exact q2
   ·have:=h.p15 hc _ q1;omega
  ·rcases h.ki.nx m e1 with ⟨q1,q2⟩ | ⟨q1,q2⟩
   ·omega
   ·rw [e4];exact q2.symm
theorem qd8 (hc:c.Ok) (h:OkG c g l) {a m r:Int} {qs:List Int} (L:Led c g a m r) (h5:g.M.F a 5≠0) (sq:Sg g.M.F (g.M.F a 5) qs r) (qK:∀ q∈qs,g.K q/\¬ Bn g q):∀ q∈qs,g.M.F a 0<=g.M.F q 0/\g.up q<=hiL g a m:=fun q hq=>by
 have hK:=fun z hz=>(qK z hz).1
 have k1:=q5h hc h sq hK q hq;have k2:=(h.ki.rp a L.K).resolve_left h5;obtain ⟨-,k3,k4⟩:=L.hi hc h;have k5:=h.ki.mn q (hK q hq);refine ⟨by rw [k2.2] at k1;exact k1,?_⟩;by_cases e:r=0
 ·rw [k3 e];omega
 ·rw [k4 e];exact qce hc h sq hK e q hq
theorem qat (hc:c.Ok) (h:OkG c g l) {a m r y n t:Int} (L:Led c g a m r) (N:Led c g y n t) (ha:a∈g.L) (hy:y∈g.L) (hne:y≠a):hiL g a m<=g.M.F y 0\/hiL g y n<=g.M.F a 0:=by
 have one:∀ {a m r y n t:Int},Led c g a m r->Led c g y n t->a∈g.L->y∈g.L->y≠a->g.up a<=g.M.F y 0->hiL g a m<=g.M.F y 0:=fun {a m r y n t} L N ha hy hne hk=>by
  unfold hiL;split
  ·exact hk
  ·rename_i hm;rcases L.m with ⟨e1,-⟩ | ⟨e1,e2,e3,e4⟩
   ·exact absurd e1 hm
   ·have hmL:m∈g.L:=by
     rcases Jm h.bg.cl ha with k | k
     ·omega
     ·rw [e2];exact k
    have hmy:m≠y:=fun e=>by
     rcases L.dec with ⟨q,-⟩ | ⟨-,-,q⟩
     ·exact hm q
     ·rw [e,N.self] at q;exact hne q
    have hu:g.M.F m 0=g.up a:=by
     rcases h.ki.nx a L.K with ⟨q1,q2⟩ | ⟨q1,q2⟩
     ·omega
     ·rw [e2];exact q2
    rcases h.tri hc hmL hy hmy with k | k
    ·exact k
    ·have:=h.ki.mn y N.K;omega
 rcases h.tri hc ha hy (fun e=>hne e.symm) with k | k
 ·exact .inl (one L N ha hy hne k)
 ·exact .inr (one N L hy ha (fun e=>hne e.symm) k)
theorem qa2 (hc:c.Ok) (h:OkG c g l) {a m r:Int} {A qs R:List Int} (C:Ctt c g a A m r qs R) (h5:g.M.F a 5≠0) {g':Gst} (eK:g'.K=g.K) (e0:∀ x f,f≠2->g'.M.F x f=g.M.F x f) (e2:∀ x,g'.M.F x 2=g.M.F x 2\/(x∈A/\g.M.F x 2 % 2=0)) (eht:∀ k,g'.M.ht k=g.M.ht k)
  (eL:g'.L=A++(qs++R)) (eA:Sg g'.M.F (g'.M.hn / 2) A (g.M.F a 5)):Bg c g'/\(∀ x,Bn g x->Bn g' x)/\(∀ x,Bn g x->x∉g.L->x∉g'.L)/\(∀ x,x∈g.L->x∉g'.L->g.M.F x 2 % 2=1):=by
 have h15:=h.p15 hc;have gl:=C.gl;have inA:∀ x∈A,x∈g.L:=fun x hx=>by rw [gl];simp [hx]
 have inR:∀ x∈R,x∈g.L:=fun x hx=>by rw [gl];simp [hx]
 have inm:m≠0->m∈g.L:=fun k=>by rw [gl,qd k];simp
 have ina:a∈g.L:=by rw [gl];simp
 have qA:∀ q∈qs,q∉A:=fun q hq hA=>(C.qK q hq).2 (.inl (inA q hA))
 have RA:∀ x∈R,x∉A:=fun x hx hA=>h.apart hc gl hA (show x∈a :: ((if m=0 then [] else [m])++R) by simp [hx]) rfl
 have aA:a∉A:=fun hA=>h.apart hc gl hA (show a∈a :: ((if m=0 then [] else [m])++R) by simp) rfl
 have mA:m≠0->m∉A:=fun k hA=>h.apart hc gl hA (show m∈a :: ((if m=0 then [] else [m])++R) by rw [qd k];simp) rfl
 have aR:a∉R:=fun hR=>h.apart hc (A:=A++[a]) (B:=(if m=0 then [] else [m])++R) (by rw [gl];simp) (show a∈A++[a] by simp) (show a∈(if m=0 then [] else [m])++R by simp [hR]) rfl
 have off:∀ x,x∉A->g'.M.F x 2=g.M.F x 2:=fun x hx=>(e2 x).resolve_right (fun k=>hx k.1)
 have odd:∀ x,g.M.F x 2 % 2=1->g'.M.F x 2=g.M.F x 2:=fun x hx=>(e2 x).resolve_right (fun k=>by omega)
 have mm:m≠0->g.K m/\g.M.F m 2 % 2=1:=fun k=>by
  rcases C.L.m with ⟨e,-⟩ | ⟨k1,k2,k3,k4⟩
  ·exact absurd e k
  ·exact ⟨k1,k3⟩
 have bn:∀ x,Bn g x->Bn g' x:=fun x hx=>by
  rcases hx with hx | ⟨k1,k2,k3⟩
  ·rw [gl] at hx;rcases List.mem_append.1 hx with hx | hx
   ·left;rw [eL];simp [hx]
   ·rcases List.mem_cons.1 hx with rfl | hx
    ·right;rw [eK,odd _ C.L.mk',e0 _ 6 Lb];exact ⟨C.L.K,C.L.mk',C.sa⟩
    ·rcases List.mem_append.1 hx with hx | hx
     ·split at hx
      ·simp at hx
      ·rename_i k;rw [List.mem_singleton.1 hx];right;rw [eK,odd _ (mm k).2,e0 _ 6 Lb];exact ⟨(mm k).1,(mm k).2,C.sm k⟩
     ·left;rw [eL];simp [hx]
  ·right;rw [eK,odd _ k2,e0 _ 6 Lb];exact ⟨k1,k2,k3⟩
 have bn':∀ x,Bn g' x->Bn g x\/x∈qs:=fun x hx=>by
  rcases hx with hx | ⟨k1,k2,k3⟩
  ·rw [eL] at hx;rcases List.mem_append.1 hx with hx | hx
   ·exact .inl (.inl (inA x hx))
   ·rcases List.mem_append.1 hx with hx | hx
    ·exact .inr hx
    ·exact .inl (.inl (inR x hx))
  ·rw [eK] at k1;rw [e0 _ 6 Lb] at k3;rcases e2 x with q | ⟨q,-⟩
   ·rw [q] at k2;exact .inl (.inr ⟨k1,k2,k3⟩)
   ·exact .inl (.inl (inA x q))
 have ld:∀ {y n t:Int},Led c g y n t->Led c g' y n t:=fun L=>L.keep h15 (fun x k=>by rw [eK];exact k) bn (fun a _ k=>odd a k) (fun a _ _=>e0 a 3 Lb) (fun a _ _=>e0 a 4 Lb)
 have hcl:Sg g'.M.F (g'.M.hn / 2) g'.L 0:=by
  rw [eL];refine Sg.app.2 ⟨_,eA,Sg.app.2 ⟨r,?_,?_⟩⟩
  ·exact C.sq.congr (fun q hq=>by rw [off q (qA q hq)])
  ·exact C.sR.congr (fun x hx=>by rw [off x (RA x hx)])
 have vL:g.M.F a 5∈g'.L:=by have k:=C.sq;rw [eL];exact Dy
 have left:∀ x,x∈g.L->x∉g'.L->x=a\/(m≠0/\x=m):=fun x hx k=>by
  rw [gl] at hx;rcases List.mem_append.1 hx with hx | hx
  ·exact Gv
  ·rcases List.mem_cons.1 hx with rfl | hx
   ·exact .inl rfl
   ·rcases List.mem_append.1 hx with hx | hx
    ·split at hx
     ·simp at hx
     ·rename_i q;exact .inr ⟨q,List.mem_singleton.1 hx⟩
    ·exact Gv
 have m3:m≠0->g.M.F m 3=a/\m≠a:=fun k=>by
  refine ⟨?_,fun e=>?_⟩
  ·rcases C.L.dec with ⟨q,-⟩ | ⟨-,-,q⟩
   ·exact absurd q k
   ·exact q
  ·refine h.apart hc (A:=A++[a]) (B:=(if m=0 then [] else [m])++R) (by rw [gl];simp) (show a∈A++[a] by simp) (show m∈(if m=0 then [] else [m])++R by rw [qd k];simp) e.symm
 refine ⟨⟨hcl,fun x hx=>?_,fun x hx=>?_,fun k k0 k1=>?_,fun x hx hn=>?_,fun x hx hn=>?_,fun x hx hn=>?_⟩,bn,fun x hx k k2=>?_,fun x hx k=>?_⟩
 ·rw [eK];rw [eL] at hx;rcases List.mem_append.1 hx with hx | hx
  ·exact h.bg.K x (inA x hx)
  ·rcases List.mem_append.1 hx with hx | hx
   ·exact (C.qK x hx).1
   ·exact h.bg.K x (inR x hx)
 ·by_cases k:x∈g'.L
  ·rcases Jm hcl k with q | q
   ·exact .inl q
   ·exact .inr (.inl q)
  ·have kq:x∉qs:=fun q=>k P9
   have kA:x∉A:=fun q=>k P9
   have hx':=(bn' x hx).resolve_right kq;rw [off x kA];exact (h.bg.nx x hx').imp id (bn _)
 ·rw [eht];exact (h.bg.ht k k0 k1).imp id (bn _)
 ·rw [eK] at hx;rw [e0 _ 3 Lb] at hn ⊢;rw [e0 _ 3 Lb];obtain ⟨q1,q2⟩:=h.bg.ld x hx hn;exact ⟨bn _ q1,q2⟩
 ·rw [eK] at hx;rw [e0 _ 5 Lb] at hn;obtain ⟨st,rb,n,t,N,sn,sh⟩:=h.bg.rp x hx hn;refine ⟨by rw [e0 _ 6 Lb];exact st,fun k=>?_,n,t,ld N,fun k=>by rw [e0 _ 6 Lb];exact sn k,fun k=>?_⟩
  ·rw [e0 _ 5 Lb];by_cases xL:x∈g.L
   ·rcases left x xL k with e | ⟨e1,e2⟩
    ·rw [e];exact .inl vL
    ·exfalso;have:=(m3 e1).1;rw [e2] at N;rw [N.self] at this;exact (m3 e1).2 this
   ·exact bn _ (rb xL)
  have xq:x∉qs:=fun q=>(C.qK x q).2 N.B
  have xL:x∈g.L:=by
   rw [eL] at k;rcases List.mem_append.1 k with k | k
   ·exact inA x k
   ·exact inR x ((List.mem_append.1 k).resolve_left xq)
  have xa:x≠a:=fun e=>by
   rw [e,eL] at k;rcases List.mem_append.1 k with k | k
   ·exact aA k
   ·rcases List.mem_append.1 k with k | k
    ·exact (C.qK a k).2 (.inl ina)
    ·exact aR k
  obtain ⟨ps,p1,p2,p3⟩:=sh xL;rw [e0 _ 5 Lb];refine ⟨ps,p1,p2.congr (fun z hz=>by rw [off z (fun q=>(p3 z hz).2 (.inl (inA z q)))]),fun z hz=>⟨by rw [eK];exact (p3 z hz).1,fun q=>?_⟩⟩;rcases bn' z q with q | q
  ·exact (p3 z hz).2 q
  ·have k1:=qd8 hc h C.L h5 C.sq C.qK z q;have k2:=qd8 hc h N hn p2 p3 z hz;have k3:=h.ki.mn z (p3 z hz).1;rcases qat hc h C.L N ina xL xa with k4 | k4
   ·omega
   ·omega
 ·rw [e0 _ 3 Lb,e0 _ 5 Lb];have xq:x∉qs:=fun q=>hn P9
  have hx':=(bn' x hx).resolve_right xq;by_cases xL:x∈g.L
  ·rcases left x xL hn with e | ⟨e1,e2⟩
   ·rw [e,C.L.self];have:=h15 a C.L.K;exact ⟨by omega,fun _=>h5⟩
   ·have:=m3 e1;have:=h15 a C.L.K;rw [e2];exact ⟨by omega,fun k=>by omega⟩
  ·exact h.bg.gn x hx' xL
 ·rw [eL] at k2;rcases List.mem_append.1 k2 with k2 | k2
  ·exact k (inA x k2)
  ·rcases List.mem_append.1 k2 with k2 | k2
   ·exact (C.qK x k2).2 hx
   ·exact k (inR x k2)
 ·rw [gl] at hx;rcases List.mem_append.1 hx with hx | hx
  ·exact Gv
  ·rcases List.mem_cons.1 hx with rfl | hx
   ·exact C.L.mk'
   ·rcases List.mem_append.1 hx with hx | hx
    ·split at hx
     ·simp at hx
     ·rename_i q;rw [List.mem_singleton.1 hx];exact (mm q).2
    ·exact Gv
theorem q8v (hc:c.Ok) (h:OkG c g l) {a b:Int} (hb:b∈g.L) (h0:g.M.F b 2 % 2=0) (hn:g.M.F b 2 / 2=a) (ha:a∈g.L) (h5:g.M.F a 5≠0):∃ g',Goes c g l g' (yl l (b+2) (2 * g.M.F a 5)) no2 no1/\a∉g'.L/\g.M.F a 5∈g'.L/\g'.K=g.K/\∀ x f,f≠2->g'.M.F x f=g.M.F x f:=by
 obtain ⟨A,m,r,qs,R,C⟩:=q9r hc h ha h5;have hbK:=h.bg.K b hb;have haK:=h.bg.K a ha;have hv:=(h.ki.rp a haK).resolve_left h5;generalize hve:g.M.F a 5=v at *;have hs:(2:Int)<z6 c:=by have:=hc.c2;have:=hc.t1;unfold z6;omega
 have eq:∀ x f',(x≠b\/f'≠2)->(g.set b 2 (2 * v)).M.F x f'=g.M.F x f':=fun x f' k=>k.elim (fun e=>Jb e) (fun e=>xd e)
 have on:(g.set b 2 (2 * v)).M.F b 2=2 * v:=upd_same _ _ _ _;have h15:=h.p15 hc
 have hup:g.up b=g.M.F a 0:=by
  rcases h.ki.nx b hbK with ⟨q1,q2⟩ | ⟨q1,q2⟩
  ·rw [hn] at q1;have:=h15 a haK;omega
  ·rw [hn] at q2;exact q2.symm
 have ki:KI c g.K g.up (g.M.set b 2 (2 * v)):=h.ki.setNext h0 (.inr (by rw [show 2 * v / 2=v by omega,hup];exact hv))
 have bA:b∈A:=by
  have k:=hb;rw [C.gl] at k;rcases List.mem_append.1 k with k | k
  ·exact k
  ·exfalso;rcases List.mem_cons.1 k with k | k
   ·rw [k] at hn;have:=C.L.mk';rw [k] at h0;omega
   ·have hr:=h.rise hc;rw [C.gl,List.pairwise_append] at hr;have:=(List.pairwise_cons.1 hr.2.1).1 b k;have h1:=h.ki.mn b hbK;have h2:=h.ki.mn a haK;omega
 obtain ⟨A1,A2,eA⟩:=List.append_of_mem bA;have sA:=C.sA;rw [eA] at sA;obtain ⟨b',s1,s2,s3⟩:=Sg.app.1 sA;subst s2
 have e2:A2=[]:=by
  cases A2 with
  | nil=>rfl
  | cons z t =>
   exfalso;obtain ⟨q,-⟩:=s3;rw [hn] at q;exact h.apart hc C.gl (show a∈A by rw [eA,q];simp) (show a∈a :: ((if m=0 then [] else [m])++R) by simp) rfl
 subst e2;have bA1:∀ x∈A1,x≠b':=fun x hx=>h.apart hc (A:=A1) (B:=b' :: ([]++a :: ((if m=0 then [] else [m])++R))) (by rw [C.gl,eA];simp) hx Lc
 obtain ⟨bg,bn,gone,go⟩:=qa2 hc h (g':=⟨g.K,g.up,g.M.set b' 2 (2 * v),A++(qs++R)⟩) C (by rw [hve];exact h5) rfl (fun x f hf=>eq x f (.inr hf)) (fun x=>by
   by_cases e:x=b'
   ·right;rw [e];exact ⟨bA,h0⟩
   ·left;exact eq x 2 (.inl e)) (fun k=>rfl) rfl (by
   rw [eA]
   refine Sg.app.2 ⟨b',s1.congr (fun x hx=>?_),rfl,?_⟩
   ·show (g.set b' 2 (2 * v)).M.F x 2 / 2=_
    rw [eq x 2 (.inl (bA1 x hx))]
   ·show (g.set b' 2 (2 * v)).M.F b' 2 / 2=_
    rw [on,hve];omega)
 have aN:a∉A++(qs++R):=fun k=>by
  rcases List.mem_append.1 k with k | k
  ·exact h.apart hc C.gl k (show a∈a :: ((if m=0 then [] else [m])++R) by simp) rfl
  ·rcases List.mem_append.1 k with k | k
   ·exact (C.qK a k).2 (.inl ha)
   ·exact h.apart hc (A:=A++[a]) (B:=(if m=0 then [] else [m])++R) (by rw [C.gl];simp) (show a∈A++[a] by simp) (show a∈(if m=0 then [] else [m])++R by simp [k]) rfl
 have vL:v∈A++(qs++R):=by have k:=C.sq;rw [hve] at k;exact Dy
 refine ⟨⟨g.K,g.up,g.M.set b' 2 (2 * v),A++(qs++R)⟩,⟨⟨ki,Rel.setF hc h hbK ⟨by omega,hs⟩ (2 * v),bg⟩,⟨fun _ k=>k,fun _ _=>rfl,fun x _=>eq x 0 (.inr Lb),fun x _ k=>?_,fun x _ _=>eq x 3 (.inr Lb),fun x _ _=>eq x 4 (.inr Lb),fun x _ _=>eq x 5 (.inr Lb),fun x i _ i0 i1 k=>⟨eq x _ (.inr Lb),eq x _ (.inr Lb),eq x _ (.inr Lb)⟩,fun x _=>Int.le_of_eq (eq x 1 (.inr Lb)).symm,Int.le_refl _,bn,gone,fun x _ k=>(eq x 6 (.inr Lb)).symm ▸ k⟩,⟨fun x i hx h0 h1 _ k=>?_,fun p h0 h1 h2 _=>Vq hc h hbK ⟨by omega,hs⟩ (2 * v) p h0 h1 h2⟩,fun x k=>.inl ⟨k,?_⟩,by show g.M.top<=_;omega,go⟩,aN,vL,rfl,fun x f hf=>eq x f (.inr hf)⟩
 ·refine eq x 2 (.inl (fun e=>?_));rw [e] at k;omega
 ·have e7:(g.set b' 2 (2 * v)).M.F x (7+3 * i)=_:=eq x (7+3 * i) (.inr Lb);have e8:(g.set b' 2 (2 * v)).M.F x (8+3 * i)=_:=eq x (8+3 * i) (.inr Lb);exact ⟨by show (g.set b' 2 (2 * v)).M.F x (7+3 * i)=0\/(g.set b' 2 (2 * v)).M.F x (7+3 * i)=2;rw [e7];exact k,e8⟩
 ·have e1:(g.set b' 2 (2 * v)).M.F x 1=_:=eq x 1 (.inr Lb);show (g.set b' 2 (2 * v)).M.F x 1<=_;rw [e1];omega
theorem q5l (hc:c.Ok) (h:OkG c g l) {a:Int} (hn:g.M.hn / 2=a) (h5:g.M.F a 5≠0):∃ g',Goes c g l g' (yl l (xn c+2) (2 * g.M.F a 5)) no2 no1/\a∉g'.L/\g.M.F a 5∈g'.L/\g'.K=g.K/\∀ x f,g'.M.F x f=g.M.F x f:=by
 have hl:=h.rel.len;have ht:=hc.t1;have hw:=hc.top;have hc2:=hc.c2;have h15:=h.p15 hc
 have ha:a∈g.L:=by
  obtain ⟨z,hz,e1,-⟩:=h.ki.hd;have k:=h.bg.cl;rw [hn] at k;cases e:g.L with
  | nil =>
   rw [e] at k;have:a=0:=k;have:=h15 z hz;omega
  | cons y t=>rw [e] at k;rw [k.1];simp
 have haK:=h.bg.K a ha;obtain ⟨A,m,r,qs,R,C⟩:=q9r hc h ha h5;have hv:=(h.ki.rp a haK).resolve_left h5;generalize hve:g.M.F a 5=v at *
 have eA:A=[]:=by
  have k:=C.sA;cases A with
  | nil=>rfl
  | cons z t =>
   exfalso;rw [hn] at k;exact h.apart hc C.gl (show a∈z :: t by rw [k.1];simp) (show a∈a :: ((if m=0 then [] else [m])++R) by simp) rfl
 subst eA
 have m0:g.M.F a 0=0:=by
  obtain ⟨z,hz,e1,e2⟩:=h.ki.hd;have:z=a:=by omega
  rw [<- this];exact e2
 have ne:∀ q,q≠xn c+2->qw (yl l (xn c+2) (2 * v)) q=qw l q:=fun q e=>by rw [vz,qd (fun e2=>e e2.1)]
 obtain ⟨bg,bn,gone,go⟩:=qa2 hc h (g':=⟨g.K,g.up,{ g.M with hn:=2 * v },[]++(qs++R)⟩) C (by rw [hve];exact h5) rfl (fun x f hf=>rfl) (fun x=>.inl rfl) (fun k=>rfl) rfl (by
  show 2 * v / 2=_
  rw [hve];omega)
 have aN:a∉([]:List Int)++(qs++R):=fun k=>by
  rcases List.mem_append.1 k with k | k
  ·simp at k
  ·rcases List.mem_append.1 k with k | k
   ·exact (C.qK a k).2 (.inl ha)
   ·exact h.apart hc (A:=[]++[a]) (B:=(if m=0 then [] else [m])++R) (by rw [C.gl];simp) (show a∈[]++[a] by simp) (show a∈(if m=0 then [] else [m])++R by simp [k]) rfl
 have vL:v∈([]:List Int)++(qs++R):=by have k:=C.sq;rw [hve] at k;exact Dy
 refine ⟨⟨g.K,g.up,{ g.M with hn:=2 * v },[]++(qs++R)⟩,⟨⟨h.ki.setHead ⟨hv.1,by rw [hv.2];exact m0⟩,⟨by rw [Q6];exact hl,fun a ha f h0 h1=>?_,?_,fun j h0 h1=>?_,?_,fun q hq=>?_⟩,bg⟩,⟨fun _ e=>e,fun _ _=>rfl,fun _ _=>rfl,fun _ _ _=>rfl,fun _ _ _=>rfl,fun _ _ _=>rfl,fun _ _ _=>rfl,fun _ _ _ _ _ _=>⟨rfl,rfl,rfl⟩,fun _ _=>Int.le_refl _,Int.le_refl _,bn,gone,fun _ _ k=>k⟩,⟨fun a i _ _ _ _ e=>⟨e,rfl⟩,fun q h0 h1 h2 _=>⟨ne q (by unfold jq at h0;unfold xn;omega),h2⟩⟩,fun a k=>.inl ⟨k,by first | omega | (simp only;omega)⟩,by first | omega | (simp only;omega),go⟩,aN,vL,rfl,fun _ _=>rfl⟩
 ·have:=(Rel.low hc h ha).1;rw [ne _ Mo];exact h.rel.F a ha f h0 h1
 ·rw [vz,qf ⟨rfl,by unfold xn;omega,by unfold xn;omega⟩]
 ·rw [ne _ Mo];exact h.rel.ht j h0 h1
 ·rw [ne _ Mo];exact h.rel.top
 ·obtain ⟨l1,l2,l3,l4⟩:=Rel.low hc h haK;have hq':g.M.top<=q:=hq;rw [ne _ Mo];exact h.rel.fz q hq
theorem q95 (hc:c.Ok) (h:OkG c g l) (n:Nat) (hn:(n:Int) * z6 c<=3000):Goes c g l { g with M:={ g.M with top:=g.M.top+(n:Int) * z6 c } } (yl l 2 (g.M.top+(n:Int) * z6 c)) no2 no1:=by
 have hl:=h.rel.len;have ht:=hc.t1;have hw:=hc.top;have hc2:=hc.c2;have hs:0<=(n:Int) * z6 c:=Int.mul_nonneg Lb O4;have ne:∀ q,q≠2->qw (yl l 2 (g.M.top+(n:Int) * z6 c)) q=qw l q:=fun q e=>by rw [vz,qd (fun e2=>e e2.1)]
 have mi:q24 g { g with M:={ g.M with top:=g.M.top+(n:Int) * z6 c } }:=⟨rfl,rfl,rfl,fun _ _=>rfl,fun _ _=>.inl ⟨rfl,rfl⟩,fun _ _ _=>rfl,fun _ _ k k2=>absurd k k2,fun _ _ _=>rfl,fun _ _=>rfl,fun j=>.inl rfl⟩;refine ⟨⟨h.ki.setTop hc n,⟨by rw [Q6];exact hl,fun a ha f h0 h1=>?_,?_,fun j h0 h1=>?_,?_,fun q hq=>?_⟩,mi.bg (h.p15 hc) h.bg⟩,⟨fun _ e=>e,fun _ _=>rfl,fun _ _=>rfl,fun _ _ _=>rfl,fun _ _ _=>rfl,fun _ _ _=>rfl,fun _ _ _=>rfl,fun _ _ _ _ _ _=>⟨rfl,rfl,rfl⟩,fun _ _=>Int.le_refl _,by simp only;omega,fun _ k=>k,fun _ _ k=>k,fun _ _ k=>k⟩,⟨fun a i _ _ _ _ e=>⟨e,rfl⟩,fun q h0 h1 h2 _=>⟨ne q Ov,h2⟩⟩,fun a k=>.inl ⟨k,by first | omega | (simp only;omega)⟩,by first | omega | (simp only;omega),fun a k k2=>absurd k k2⟩
 ·exact El
 ·exact Fs
 ·rw [ne _ Lb];exact h.rel.ht j h0 h1
 ·rw [vz,qf ⟨rfl,by omega,by omega⟩]
 ·obtain ⟨a,ha,-⟩:=h.ki.hd;obtain ⟨l1,l2,l3,l4⟩:=Rel.low hc h ha;simp only at hq;rw [ne _ Lb];exact h.rel.fz q Lb
theorem q75 (hc:c.Ok) (h:OkG c g l) {p:Int} (v:Int) (h1:jq c<=p) (h2:p<g.M.top) (h3:∀ a,g.K a->¬ (a<=p/\p<a+z6 c)):Goes c g l g (yl l p v) no2 (fun q=>q=p):=by
 have hl:=h.rel.len;unfold jq at h1;have ne:∀ q,q≠p->qw (yl l p v) q=qw l q:=fun q k=>by rw [vz,qd (fun e=>k e.1)]
 refine ⟨⟨h.ki,⟨by rw [Q6];exact hl,fun a ha f h0 h1=>?_,?_,fun k h0 h1=>?_,?_,fun q hq=>?_⟩,h.bg⟩,Ext.refl c g,⟨fun a i _ _ _ _ k=>⟨k,rfl⟩,fun q h0 h1 h2 h3=>⟨ne q h3,h2⟩⟩,fun a k=>.inl ⟨k,by first | omega | (simp only;omega)⟩,by first | omega | (simp only;omega),fun a k k2=>absurd k k2⟩
 ·rw [ne _ (fun e=>h3 a ha ⟨by omega,by omega⟩)];exact h.rel.F a ha f h0 h1
 ·exact Fs
 ·rw [ne _ Lb];exact h.rel.ht k h0 h1
 ·rw [ne _ (by have:=hc.t1;omega)];exact h.rel.top
 ·exact Hk
end
theorem Zu {a:Int} (h0:0<=a) (h1:a<=1000000000000000):wrap64 a=a:=w64 Lb Lb
theorem Xe (s:St) (p v:Int):(s.store p v).l=yl s.l p v:=rfl
theorem qca (s:St) (p v:Int):(s.add p v).l=yl s.l p (wrap64 (qw s.l p+v)):=rfl
theorem ji {s:St} {p o v:Int} (h:s.can p o=true):(s.swap p o v).l=yl s.l p v:=by unfold St.swap;rw [qf h];rfl
theorem Q5 {s:St} {p o v:Int} (h:s.can p o=false):(s.swap p o v).l=s.l:=by unfold St.swap;rw [qd (by rw [h];simp)];rfl
theorem jv {s:St} {p o:Int} (h:s.can p o=true):qw s.l p=o:=by unfold St.can at h;simp only [Bool.and_eq_true,beq_iff_eq] at h;exact h.2
section
variable {c:Cf} {g:Gst} {l:List Int}
theorem xm (hc:c.Ok):16<=z6 c/\z6 c<=55:=by have:=hc.c2;have:=hc.t1;have:=hc.c16;unfold z6;omega
theorem Wm (hc:c.Ok) (h:OkG c g l) {a:Int} (ha:g.K a):15<=a/\a+z6 c<=20000:=by have:=(Rel.low hc h ha).1;have:=(Rel.low hc h ha).2.1;have:=hc.t1;have:=hc.w2;omega
theorem rd (hc:c.Ok) (h:OkG c g l) {a f:Int} (ha:g.K a) (h0:0<=f) (h1:f<z6 c):qw l (wrap64 (a+f))=g.M.F a f:=by have:=Wm hc h ha;rw [Zu Lb Lb];exact h.rel.F a ha f h0 h1
theorem rd0 (hc:c.Ok) (h:OkG c g l) {a:Int} (ha:g.K a):qw l (wrap64 a)=g.M.F a 0:=by have:=rd hc h ha (f:=0) Lb Nf;rwa [Int.add_zero] at this
theorem Ql (hc:c.Ok) (h:OkG c g l):¬ g.K (xn c):=fun k=>by have:=(Rel.low hc h k).1;unfold xn at this;omega
theorem q8q (hc:c.Ok) (h:OkG c g l) {a i:Int} (ha:g.K a) (hi:0<=i/\i<c.c):Qo a i=a+(7+3 * i)/\7+3 * i<z6 c/\9+3 * i<z6 c:=by have:=Wm hc h ha;have:=hc.c16;refine ⟨?_,by unfold z6;omega,by unfold z6;omega⟩;unfold Qo;rw [Zu Lb (by unfold z6 at *;omega)];omega
structure WkI (c:Cf) (g:Gst) (x:Wk):Prop where
 cc:x.c=c
 key:0<=x.key/\x.key<=63
 x2:x.line=2\/x.line=3->g.K x.x
 c5:x.line=5\/x.line=6->(g.K x.cur/\g.M.F x.cur 0<=x.key)\/x.cur=xn c
 n6:x.line=6->g.K x.n/\(x.cur=xn c->g.M.F x.n 0=0)/\(g.K x.cur->g.M.F x.n 0=g.up x.cur)
 e0:x.line=0->g.K x.at_/\g.M.F x.at_ 0<=x.key/\x.key<g.up x.at_
 ln:x.line=0\/x.live=true
theorem WkI.ext {g':Gst} {x:Wk} (h:WkI c g x) (e:Ext c g g') (hh:¬ g'.K (xn c)):WkI c g' x:=by
 refine ⟨h.cc,h.key,fun k=>e.K _ (h.x2 k),fun k=>?_,fun k=>?_,fun k=>?_,h.ln⟩
 ·rcases h.c5 k with ⟨h1,h2⟩ | h1
  ·exact .inl ⟨e.K _ h1,by rw [e.mn _ h1];exact h2⟩
  ·exact .inr h1
 ·obtain ⟨h1,h2,h3⟩:=h.n6 k;refine ⟨e.K _ h1,fun q=>by rw [e.mn _ h1];exact h2 q,fun q=>?_⟩;rcases h.c5 (.inr k) with ⟨h4,-⟩ | h4
  ·rw [e.mn _ h1,e.up _ h4];exact h3 h4
  ·rw [h4] at q;exact absurd q hh
 ·obtain ⟨h1,h2,h3⟩:=h.e0 k;exact ⟨e.K _ h1,by rw [e.mn _ h1];exact h2,by rw [e.up _ h1];exact h3⟩
theorem WkI.new {key:Int} (hk:0<=key/\key<=63):WkI c g (Wk.new c key) :=
 ⟨rfl,hk,fun k=>by simp [Wk.new] at k,fun k=>by simp [Wk.new] at k,fun k=>by simp [Wk.new] at k,fun k=>by simp [Wk.new] at k,.inr rfl⟩
theorem Uo (x:Wk) (s:St):(x.step s).2.l=s.l:=by unfold Wk.step;split <;> rfl
theorem WkI.step (hc:c.Ok) {s:St} (h:OkG c g s.l) {x:Wk} (hx:WkI c g x):WkI c g (x.step s).1:=by
 unfold Wk.step;by_cases hl:x.live=true
 ·rw [qf hl];simp only;have hlv:=hl;unfold Wk.live at hlv;simp only [Bool.or_eq_true,decide_eq_true_eq] at hlv
  have toHead:∀ y:Wk,y.c=c->y.key=x.key->WkI c g y.head:=fun y e1 e2 =>
   ⟨e1,by show 0<=y.key/\y.key<=63;rw [e2];exact hx.key,fun k=>by simp [Wk.head] at k,fun _=>.inr Ny,fun k=>by simp [Wk.head] at k,fun k=>by simp [Wk.head] at k,.inr rfl⟩
  have ends:∀ y:Wk,y.c=c->y.key=x.key->g.K y.cur->g.M.F y.cur 0<=x.key->x.key<g.up y.cur->WkI c g y.ends:=fun y e1 e2 e3 e4 e5 =>
   ⟨e1,by show 0<=y.key/\y.key<=63;rw [e2];exact hx.key,fun k=>by simp [Wk.ends] at k,fun k=>by simp [Wk.ends] at k,fun k=>by simp [Wk.ends] at k,fun _=>⟨e3,by show g.M.F y.cur 0<=y.key;rw [e2];exact e4,by show y.key<g.up y.cur;rw [e2];exact e5⟩,.inl rfl⟩
  unfold Wk.next Wk.looks;by_cases l1:x.line=1
  ·rw [qf l1,qf l1];have hk:=hx.key
   have hh:qw s.l (Vr x.c x.key)=g.M.ht (x.key / 16):=Hl
   rw [hh];by_cases v0:g.M.ht (x.key / 16)=0
   ·rw [qf v0];exact toHead _ hx.cc rfl
   ·rw [qd v0];have hK:=(h.ki.ht (x.key / 16) Lb Lb).resolve_left v0;exact ⟨hx.cc,hx.key,fun _=>hK,fun k=>by simp at k,fun k=>by simp at k,fun k=>by simp at k,.inr rfl⟩
  ·rw [qd l1,qd l1];by_cases l2:x.line=2
   ·rw [qf l2,qf l2];by_cases v0:qw s.l (wrap64 (x.x+6))=0
    ·rw [qf v0];exact ⟨hx.cc,hx.key,fun _=>hx.x2 (.inl l2),fun k=>by simp at k,fun k=>by simp at k,fun k=>by simp at k,.inr rfl⟩
    ·rw [qd v0];exact toHead _ hx.cc rfl
   ·rw [qd l2,qd l2];by_cases l3:x.line=3
    ·rw [qf l3,qf l3];have hK:=hx.x2 (.inr l3);rw [rd0 hc h hK];split
     ·rename_i hv;exact ⟨hx.cc,hx.key,fun k=>by simp at k,fun _=>.inl ⟨hK,hv⟩,fun k=>by simp at k,fun k=>by simp at k,.inr rfl⟩
     ·exact toHead _ hx.cc rfl
    ·rw [qd l3,qd l3];by_cases l5:x.line=5
     ·rw [qf l5,qf l5];rcases hx.c5 (.inl l5) with ⟨hK,hm⟩ | hh
      ·rw [rd hc h hK Lb Nf];unfold atW;rcases h.ki.nx x.cur hK with ⟨e1,e2⟩ | ⟨e1,e2⟩
       ·rw [qf e1];exact ends _ hx.cc rfl hK hm (by show x.key<g.up x.cur;have:=hx.key;omega)
       ·have:g.M.F x.cur 2 / 2≠0:=fun e=>by rw [e] at e1;have:=h.ki.pos hc e1;omega
        rw [qd this];exact ⟨hx.cc,hx.key,fun k=>by simp at k,fun _=>.inl ⟨hK,hm⟩,fun _=>⟨e1,fun q=>by simp only at q;rw [q] at hK;exact absurd hK (Ql hc h),fun _=>e2⟩,fun k=>by simp at k,.inr rfl⟩
      ·obtain ⟨a,ha,e1,e2⟩:=h.ki.hd
       have hp:qw s.l (wrap64 (x.cur+2))=2 * a:=by rw [hh,Zu (by unfold xn;have:=hc.t1;omega) (by unfold xn;have:=hc.t8;omega),h.rel.hn,e1]
       rw [hp];have ea:atW (2 * a)=a:=by unfold atW;omega
       rw [ea,qd (by have:=h.ki.pos hc ha;omega)];exact ⟨hx.cc,hx.key,fun k=>by simp at k,fun _=>.inr hh,fun _=>⟨ha,fun _=>e2,fun q=>by simp only at q;rw [hh] at q;exact absurd q (Ql hc h)⟩,fun k=>by simp at k,.inr rfl⟩
     ·rw [qd l5,qd l5];have l6:x.line=6:=by omega
      obtain ⟨hn,hn1,hn2⟩:=hx.n6 l6;rw [rd0 hc h hn];split
      ·rename_i hv;exact ⟨hx.cc,hx.key,fun k=>by simp at k,fun _=>.inl ⟨hn,hv⟩,fun k=>by simp at k,fun k=>by simp at k,.inr rfl⟩
      ·rename_i hv;rcases hx.c5 (.inr l6) with ⟨hK,hm⟩ | hh
       ·refine ends _ hx.cc rfl hK hm ?_;have:=hn2 hK;omega
       ·have:=hn1 hh;have:=hx.key;omega
 ·rw [qd hl];exact hx
structure WkB (c:Cf) (B H:Int->Prop) (x:Wk):Prop where
 b2:x.line=2->H x.x
 b3:x.line=3->B x.x
 b5:x.line=5\/x.line=6->B x.cur\/x.cur=xn c
 b6:x.line=6->B x.n
 b0:x.line=0->B x.at_
theorem WkB.new (B H:Int->Prop) (key:Int):WkB c B H (Wk.new c key) :=
 ⟨fun k=>by simp [Wk.new] at k,fun k=>by simp [Wk.new] at k,fun k=>by simp [Wk.new] at k,fun k=>by simp [Wk.new] at k,fun k=>by simp [Wk.new] at k⟩
theorem WkB.more {B H B' H':Int->Prop} {x:Wk} (h:WkB c B H x) (h1:∀ y,B y->B' y) (h2:∀ y,H y->H' y):WkB c B' H' x :=
 ⟨fun k=>h2 _ (h.b2 k),fun k=>h1 _ (h.b3 k),fun k=>(h.b5 k).imp (h1 _) id,fun k=>h1 _ (h.b6 k),fun k=>h1 _ (h.b0 k)⟩
theorem WkB.step (hc:c.Ok) {s:St} (h:OkG c g s.l) {x:Wk} (hx:WkI c g x) {B H:Int->Prop} (hb:WkB c B H x) (cl:∀ y,B y->g.M.F y 2 / 2=0\/B (g.M.F y 2 / 2)) (hd:B (g.M.hn / 2)) (hh:∀ k,0<=k->k<4->g.M.ht k=0\/H (g.M.ht k)) (h2:∀ y,H y->g.M.F y 6=0->B y):WkB c B H (x.step s).1:=by
 unfold Wk.step;by_cases hl:x.live=true
 ·rw [qf hl];simp only;have hlv:=hl;unfold Wk.live at hlv;simp only [Bool.or_eq_true,decide_eq_true_eq] at hlv
  have toHead:∀ y:Wk,y.c=c->WkB c B H y.head:=fun y e1 =>
   ⟨fun k=>by simp [Wk.head] at k,fun k=>by simp [Wk.head] at k,fun _=>.inr Ny,fun k=>by simp [Wk.head] at k,fun k=>by simp [Wk.head] at k⟩
  have ends:∀ y:Wk,B y.cur->WkB c B H y.ends:=fun y e=>⟨fun k=>by simp [Wk.ends] at k,fun k=>by simp [Wk.ends] at k,fun k=>by simp [Wk.ends] at k,fun k=>by simp [Wk.ends] at k,fun _=>e⟩
  unfold Wk.next Wk.looks;by_cases l1:x.line=1
  ·rw [qf l1,qf l1];have hk:=hx.key
   have hh1:qw s.l (Vr x.c x.key)=g.M.ht (x.key / 16):=Hl
   rw [hh1];by_cases v0:g.M.ht (x.key / 16)=0
   ·rw [qf v0];exact toHead _ hx.cc
   ·rw [qd v0];exact ⟨fun _=>(hh _ Lb Lb).resolve_left v0,fun k=>by simp at k,fun k=>by simp at k,fun k=>by simp at k,fun k=>by simp at k⟩
  ·rw [qd l1,qd l1];by_cases l2:x.line=2
   ·rw [qf l2,qf l2,rd hc h (hx.x2 (.inl l2)) Lb Nf];by_cases v0:g.M.F x.x 6=0
    ·rw [qf v0];exact ⟨fun k=>by simp at k,fun _=>h2 _ (hb.b2 l2) v0,fun k=>by simp at k,fun k=>by simp at k,fun k=>by simp at k⟩
    ·rw [qd v0];exact toHead _ hx.cc
   ·rw [qd l2,qd l2];by_cases l3:x.line=3
    ·rw [qf l3,qf l3];split
     ·exact ⟨fun k=>by simp at k,fun k=>by simp at k,fun _=>.inl (hb.b3 l3),fun k=>by simp at k,fun k=>by simp at k⟩
     ·exact toHead _ hx.cc
    ·rw [qd l3,qd l3];by_cases l5:x.line=5
     ·rw [qf l5,qf l5];rcases hx.c5 (.inl l5) with ⟨hK,hm⟩ | hh'
      ·have hB:B x.cur:=(hb.b5 (.inl l5)).resolve_right (fun e=>by rw [e] at hK;exact Ql hc h hK);rw [rd hc h hK Lb Nf];unfold atW;by_cases e0:g.M.F x.cur 2 / 2=0
       ·rw [qf e0];exact ends _ hB
       ·rw [qd e0];exact ⟨fun k=>by simp at k,fun k=>by simp at k,fun _=>.inl hB,fun _=>(cl _ hB).resolve_left e0,fun k=>by simp at k⟩
      ·obtain ⟨a,ha,e1,e2⟩:=h.ki.hd
       have hp:qw s.l (wrap64 (x.cur+2))=2 * a:=by rw [hh',Zu (by unfold xn;have:=hc.t1;omega) (by unfold xn;have:=hc.t8;omega),h.rel.hn,e1]
       rw [hp];have ea:atW (2 * a)=a:=by unfold atW;omega
       rw [ea,qd (by have:=h.ki.pos hc ha;omega)];have:B a:=by rw [e1,show 2 * a / 2=a by omega] at hd;exact hd
       exact ⟨fun k=>by simp at k,fun k=>by simp at k,fun _=>.inr hh',fun _=>this,fun k=>by simp at k⟩
     ·rw [qd l5,qd l5];have l6:x.line=6:=by omega
      obtain ⟨hn,hn1,hn2⟩:=hx.n6 l6;rw [rd0 hc h hn];split
      ·exact ⟨fun k=>by simp at k,fun k=>by simp at k,fun _=>.inl (hb.b6 l6),fun k=>by simp at k,fun k=>by simp at k⟩
      ·rename_i hv;rcases hb.b5 (.inr l6) with hB | hh'
       ·exact ends _ hB
       ·have:=hn1 hh';have:=hx.key;omega
 ·rw [qd hl];exact hb
structure ClI (c:Cf) (g:Gst) (x:Cl):Prop where
 cc:x.c=c
 K:g.K x.chunk
 key:g.M.F x.chunk 0<=x.key/\x.key<g.up x.chunk
 i3:3<=x.line->0<=x.i/\x.i<c.c
 own:3<=x.line/\x.line<=5->(g.M.F x.chunk (7+3 * x.i)=0\/g.M.F x.chunk (7+3 * x.i)=2)/\x.i<g.M.F x.chunk 1
 k4:4<=x.line/\x.line<=5->g.M.F x.chunk (8+3 * x.i)=x.key
 ln:0<=x.line/\x.line<=8
 B:Bn g x.chunk
def Cl.mine (x:Cl):Int->Int->Prop:=fun a i=>(3<=x.line/\x.line<=5)/\a=x.chunk/\i=x.i
theorem ClI.keep {g':Gst} {l':List Int} {mc:Int->Int->Prop} {mp:Int->Prop} {x:Cl} (h:ClI c g x) (e:Goes c g l g' l' mc mp) (hm:∀ a i,x.mine a i->¬ mc a i):ClI c g' x:=by
 refine ⟨h.cc,e.ext.K _ h.K,?_,h.i3,fun k=>?_,fun k=>?_,h.ln,e.ext.bn _ h.B⟩
 ·rw [e.ext.mn _ h.K,e.ext.up _ h.K];exact h.key
 ·obtain ⟨h1,h2⟩:=h.own k;have h3:=h.i3 k.1;exact ⟨(e.kp.cell _ _ h.K h3.1 h3.2 (hm _ _ ⟨k,rfl,rfl⟩) h1).1,Int.lt_of_lt_of_le h2 (e.ext.ct _ h.K)⟩
 ·have k':3<=x.line/\x.line<=5:=⟨by omega,k.2⟩;obtain ⟨h1,h2⟩:=h.own k';have h3:=h.i3 k'.1;rw [(e.kp.cell _ _ h.K h3.1 h3.2 (hm _ _ ⟨k',rfl,rfl⟩) h1).2];exact h.k4 k
theorem ClI.rest {g':Gst} {x y:Cl} (hx:ClI c g x) (e:Ext c g g') (h1:y.c=x.c) (h2:y.chunk=x.chunk) (h3:y.key=x.key) (h4:3<=y.line->0<=y.i/\y.i<c.c) (h5:y.line<3\/5<y.line) (h6:0<=y.line/\y.line<=8):ClI c g' y :=
 ⟨h1.trans hx.cc,by rw [h2];exact e.K _ hx.K,by rw [h2,h3,e.mn _ hx.K,e.up _ hx.K];exact hx.key,h4,fun k=>by omega,fun k=>by omega,h6,by rw [h2];exact e.bn _ hx.B⟩
theorem ClI.step (hc:c.Ok) {s:St} (h:OkG c g s.l) (hB:∀ a,g.K a->0<=g.M.F a 1/\g.M.F a 1<=900000000000000) {x:Cl} (hx:ClI c g x):∃ g',Goes c g s.l g' (x.step s).2.l x.mine no1/\ClI c g' (x.step s).1/\(∀ a i,(x.step s).1.mine a i->x.mine a i\/(x.line=2/\a=x.chunk/\i=g.M.F a 1)):=by
 have hsz:=xm hc;have hK:=hx.K;have hkb:=Wm hc h hK;have hb:=hB _ hK;unfold Cl.step;by_cases hl:x.live=true
 ·rw [qf hl];simp only;unfold Cl.live at hl;simp only [Bool.and_eq_true,decide_eq_true_eq] at hl;have same:Goes c g s.l g s.l x.mine no1:=Goes.same h _ _;have nomine:∀ (y:Cl) (a i:Int),(y.line<3\/5<y.line)->y.mine a i->x.mine a i\/(x.line=2/\a=x.chunk/\i=g.M.F a 1):=fun y a i k1 k2=>by obtain ⟨k2,-⟩:=k2;omega
  unfold Cl.act Cl.told Cl.next;by_cases l1:x.line=1
  ·rw [qf l1,qf l1,qf l1];split
   ·exact Bp
   ·exact Bp
  ·rw [qd l1,qd l1,qd l1];by_cases l2:x.line=2
   ·rw [qf l2,qf l2,qf l2];have e1:=rd hc h hK (f:=1) Lb Lb;have hw:wrap64 (x.chunk+1)=x.chunk+1:=Zu Lb Lb;have hw2:wrap64 (g.M.F x.chunk 1+1)=g.M.F x.chunk 1+1:=Zu Lb Lb;rw [e1,qca,e1,hw,hw2];have G:=(q4v hc h hK (v:=g.M.F x.chunk 1+1) Lb Lb).weak (mc':=x.mine) (mp':=no1) (fun _ _ k=>k.elim) (fun _ k=>k);by_cases hv:0<=g.M.F x.chunk 1/\g.M.F x.chunk 1<x.c.c
    ·rw [qf hv];have e7:(g.set x.chunk 1 (g.M.F x.chunk 1+1)).M.F x.chunk (7+3 * g.M.F x.chunk 1)=g.M.F x.chunk (7+3 * g.M.F x.chunk 1):=xd Lb;have e11:(g.set x.chunk 1 (g.M.F x.chunk 1+1)).M.F x.chunk 1=g.M.F x.chunk 1+1:=upd_same _ _ _ _;rw [hx.cc] at hv;refine ⟨_,G,⟨hx.cc,hK,?_,fun _=>hv,fun _=>?_,fun k=>by simp at k,by simp,G.ext.bn _ hx.B⟩,fun a i k=>?_⟩
     ·have e0:(g.set x.chunk 1 (g.M.F x.chunk 1+1)).M.F x.chunk 0=g.M.F x.chunk 0:=xd Lb;show (g.set x.chunk 1 (g.M.F x.chunk 1+1)).M.F x.chunk 0<=_/\_;rw [e0];exact hx.key
     ·show ((g.set x.chunk 1 (g.M.F x.chunk 1+1)).M.F x.chunk (7+3 * g.M.F x.chunk 1)=0\/(g.set x.chunk 1 (g.M.F x.chunk 1+1)).M.F x.chunk (7+3 * g.M.F x.chunk 1)=2)/\g.M.F x.chunk 1<(g.set x.chunk 1 (g.M.F x.chunk 1+1)).M.F x.chunk 1;rw [e7,e11];exact ⟨h.ki.cf _ _ hK hv.1 hv.2 (Int.le_refl _),by omega⟩
     ·obtain ⟨-,rfl,rfl⟩:=k;exact .inr ⟨l2,rfl,rfl⟩
    ·rw [qd hv];exact ⟨_,G,hx.rest G.ext rfl rfl rfl (fun k=>by simp at k) (.inl Lc) Lc,fun a i k=>nomine _ a i (.inl Lc) k⟩
   ·rw [qd l2,qd l2];have h3:=hx.i3 Lb;obtain ⟨sa,sz7,sz9⟩:=q8q hc h hK h3;have hsa:x.sa=x.chunk+(7+3 * x.i):=sa;have hrd:qw s.l x.sa=g.M.F x.chunk (7+3 * x.i):=by rw [hsa];exact h.rel.F _ hK _ Lb Lb
    by_cases l3:x.line=3
    ·obtain ⟨o1,o2⟩:=hx.own Lb;rw [qf l3,qd l2,qf l3,Xe,hsa,Zu Lb Lb,show x.chunk+(7+3 * x.i)+1=x.chunk+(8+3 * x.i) by omega];have G:=Vz hc h hK h3 (o:=8) (v:=x.key) (.inr (.inl rfl)) Lb ⟨fun k=>by omega,fun _=>by omega,fun k=>by omega⟩;refine ⟨_,G.weak (fun a i k=>⟨by omega,k.1,k.2⟩) (fun _ k=>k),⟨hx.cc,hK,?_,fun _=>h3,fun _=>?_,fun _=>upd_same _ _ _ _,by simp,G.ext.bn _ hx.B⟩,fun a i k=>.inl ⟨by omega,k.2⟩⟩
     ·rw [G.ext.mn _ hK,G.ext.up _ hK];exact hx.key
     ·have e7:(g.set x.chunk (8+3 * x.i) x.key).M.F x.chunk (7+3 * x.i)=g.M.F x.chunk (7+3 * x.i):=xd Lb;exact ⟨by show (g.set x.chunk (8+3 * x.i) x.key).M.F x.chunk (7+3 * x.i)=0\/(g.set x.chunk (8+3 * x.i) x.key).M.F x.chunk (7+3 * x.i)=2;rw [e7];exact o1,Int.lt_of_lt_of_le o2 (G.ext.ct _ hK)⟩
    ·rw [qd l3];by_cases l4:x.line=4
     ·obtain ⟨o1,o2⟩:=hx.own Lb;have hk4:=hx.k4 Lb;rw [qf l4,qd l2,qd l3,qf l4,Xe,hsa,Zu Lb Lb,show x.chunk+(7+3 * x.i)+2=x.chunk+(9+3 * x.i) by omega];have G:=Vz hc h hK h3 (o:=9) (v:=x.data) (.inr (.inr rfl)) Lb ⟨fun k=>by omega,fun k=>by omega,fun k=>by omega⟩;have e7:(g.set x.chunk (9+3 * x.i) x.data).M.F x.chunk (7+3 * x.i)=g.M.F x.chunk (7+3 * x.i):=xd Lb;have e8:(g.set x.chunk (9+3 * x.i) x.data).M.F x.chunk (8+3 * x.i)=g.M.F x.chunk (8+3 * x.i):=xd Lb;refine ⟨_,G.weak (fun a i k=>⟨by omega,k.1,k.2⟩) (fun _ k=>k),⟨hx.cc,hK,?_,fun _=>h3,fun _=>?_,fun _=>?_,by simp,G.ext.bn _ hx.B⟩,fun a i k=>.inl ⟨by omega,k.2⟩⟩
      ·rw [G.ext.mn _ hK,G.ext.up _ hK];exact hx.key
      ·exact ⟨by show (g.set x.chunk (9+3 * x.i) x.data).M.F x.chunk (7+3 * x.i)=0\/(g.set x.chunk (9+3 * x.i) x.data).M.F x.chunk (7+3 * x.i)=2;rw [e7];exact o1,Int.lt_of_lt_of_le o2 (G.ext.ct _ hK)⟩
      ·exact e8.trans hk4
     ·rw [qd l4];by_cases l5:x.line=5
      ·obtain ⟨o1,o2⟩:=hx.own Lb;have hk4:=hx.k4 Lb;rw [qf l5,qf l5,qd l2,qd l3,qd l4,qf l5];cases hcn:s.can x.sa 0 with
       | true =>
        have hp:=jv hcn;rw [hrd] at hp;simp only [if_true];rw [ji hcn,hsa];have G:=Vz hc h hK h3 (o:=7) (v:=1) (.inl rfl) Lb ⟨fun _=>.inr (.inr (by rw [hk4];exact hx.key)),fun k=>by omega,fun _=>.inr o2⟩;exact ⟨_,G.weak (fun a i k=>⟨by omega,k.1,k.2⟩) (fun _ k=>k),hx.rest G.ext rfl rfl rfl (fun _=>h3) (.inr Lc) Lc,fun a i k=>nomine _ a i (.inr Lc) k⟩
       | false =>
        simp only [Bool.false_eq_true,if_false];rw [Q5 hcn];exact Bp
      ·rw [qd l5,qd l5];by_cases l6:x.line=6
       ·rw [qf l6,qf l6,qd l2,qd l3,qd l4,qd l5,qf l6];exact Dq
       ·rw [qd l6,qd l6];by_cases l7:x.line=7
        ·rw [qf l7,qd l2,qd l3,qd l4,qd l5,qd l6,qf l7];cases hcn:s.can x.sa 1 with
         | true =>
          have hp:=jv hcn;rw [hrd] at hp;rw [ji hcn,hsa];have G:=(Vx hc h hK h3 (v:=vu x.g) (.inr ⟨hp,Y6 _⟩)).weak (mc':=x.mine) (mp':=no1) (fun _ _ k=>k.elim) (fun _ k=>k);exact ⟨_,G,hx.rest G.ext rfl rfl rfl (fun _=>h3) (.inr Lc) Lc,fun a i k=>nomine _ a i (.inr Lc) k⟩
         | false =>
          rw [Q5 hcn];exact Dq
        ·rw [qd l7,qd l2,qd l3,qd l4,qd l5,qd l6,qd l7];exact Bp
 ·rw [qd hl];exact ⟨g,Goes.same h _ _,hx,fun a i k=>.inl k⟩
end
section
variable {c:Cf} {g:Gst} {l:List Int}
structure LkI (c:Cf) (g:Gst) (x:Lok):Prop where
 cc:x.c=c
 K:g.K x.chunk
 ok:Xp x
theorem LkI.ext {g':Gst} {x:Lok} (h:LkI c g x) (e:Ext c g g'):LkI c g' x:=⟨h.cc,e.K _ h.K,h.ok⟩
theorem LkI.new (hc:c.Ok) {a:Int} (ha:g.K a) (lo hi most:Int):LkI c g (Lok.new c a lo hi most):=⟨rfl,ha,Xp.new hc _ _ _ _⟩
theorem Jz (x:Lok):x.on.c=x.c/\x.on.chunk=x.chunk/\x.on.lo=x.lo/\x.on.hi=x.hi/\x.on.most=x.most:=by unfold Lok.on;split <;> exact ⟨rfl,rfl,rfl,rfl,rfl⟩
theorem We (x:Lok):x.seven.c=x.c/\x.seven.chunk=x.chunk/\x.seven.lo=x.lo/\x.seven.hi=x.hi/\x.seven.most=x.most:=by
 unfold Lok.seven;split
 ·exact Jz _
 ·exact ⟨rfl,rfl,rfl,rfl,rfl⟩
theorem Vy (x:Lok) (v:Int):(x.next v).c=x.c/\(x.next v).chunk=x.chunk/\(x.next v).lo=x.lo/\(x.next v).hi=x.hi/\(x.next v).most=x.most:=by
 unfold Lok.next;repeat' split
 all_goals first | exact ⟨rfl,rfl,rfl,rfl,rfl⟩ | exact Jz _ | exact We _
theorem LkI.step (hc:c.Ok) {s:St} (h:OkG c g s.l) {x:Lok} (hx:LkI c g x):∃ g',Goes c g s.l g' (x.step s).2.l no2 no1/\LkI c g' (x.step s).1:=by
 have hok:=hx.ok.step s
 have fin:∀ g':Gst,Ext c g g'->LkI c g' (x.step s).1:=fun g' e=>by
  refine ⟨?_,?_,hok⟩
  ·unfold Lok.step;split
   ·exact (Vy _ _).1.trans hx.cc
   ·exact hx.cc
  ·unfold Lok.step;split
   ·show g'.K (x.next (x.told s)).chunk;rw [(Vy _ _).2.1];exact e.K _ hx.K
   ·exact e.K _ hx.K
 by_cases hl:x.live=true
 ·have e2:(x.step s).2=x.act s:=by unfold Lok.step;rw [qf hl]
  rw [e2];unfold Lok.live at hl;simp only [Bool.and_eq_true,decide_eq_true_eq] at hl;by_cases l5:x.line=5
  ·have hi:=hx.ok.two Lb;have hi2:=hx.ok.cnt;rw [hx.cc] at hi2;have h3:0<=x.i/\x.i<c.c:=⟨hx.ok.i0,by omega⟩;obtain ⟨sa,sz7,sz9⟩:=q8q hc h hx.K h3;have hsa:x.sa=x.chunk+(7+3 * x.i):=sa;have hrd:qw s.l x.sa=g.M.F x.chunk (7+3 * x.i):=by rw [hsa];exact h.rel.F _ hx.K _ Lb Lb
   have ea:x.act s=s.swap x.sa 1 (vu x.g):=by unfold Lok.act;rw [qd Lb,qd Lb,qd Lb,qd Lb,qf l5]
   rw [ea];cases hcn:s.can x.sa 1 with
   | true =>
    have hp:=jv hcn;rw [hrd] at hp;rw [ji hcn,hsa];have G:=Vx hc h hx.K h3 (v:=vu x.g) (.inr ⟨hp,Y6 _⟩);exact ⟨_,G,fin _ G.ext⟩
   | false=>rw [Q5 hcn];exact ⟨g,Goes.same h _ _,fin _ (Ext.refl _ _)⟩
  ·have ea:(x.act s).l=s.l:=by unfold Lok.act;(repeat' split);all_goals first | rfl | exact absurd ‹_› l5
   rw [ea];exact ⟨g,Goes.same h _ _,fin _ (Ext.refl _ _)⟩
 ·have e2:(x.step s).2=s:=by unfold Lok.step;rw [qd hl]
  rw [e2];exact ⟨g,Goes.same h _ _,fin _ (Ext.refl _ _)⟩
structure GtI (c:Cf) (g:Gst) (x:Gt):Prop where
 cc:x.c=c
 key:0<=x.key/\x.key<=63
 w:x.l=none->WkI c g x.w
 l:∀ y,x.l=some y->LkI c g y
theorem GtI.new {key:Int} (hk:0<=key/\key<=63):GtI c g (Gt.new c key):=⟨rfl,hk,fun _=>WkI.new hk,fun y e=>by cases e⟩
theorem GtI.ext {g':Gst} {x:Gt} (h:GtI c g x) (e:Ext c g g') (hh:¬ g'.K (xn c)):GtI c g' x :=
 ⟨h.cc,h.key,fun k=>(h.w k).ext e hh,fun y k=>(h.l y k).ext e⟩
theorem GtI.step (hc:c.Ok) {s:St} (h:OkG c g s.l) {x:Gt} (hx:GtI c g x):∃ g',Goes c g s.l g' (x.step s).2.l no2 no1/\GtI c g' (x.step s).1:=by
 unfold Gt.step;by_cases ho:x.over=true
 ·rw [qf ho];exact ⟨g,Goes.same h _ _,hx⟩
 ·rw [qd ho];cases hl:x.l with
  | some y =>
   obtain ⟨g',G,k⟩:=(hx.l y hl).step hc h;exact ⟨g',G,⟨hx.cc,hx.key,fun e=>Lr,fun z e=>(by cases e;exact k)⟩⟩
  | none =>
   have k:=(hx.w hl).step hc h;have ea:=Uo x.w s;simp only;rw [ea];refine ⟨g,Goes.same h _ _,?_⟩;split
   ·rename_i e0;refine ⟨hx.cc,hx.key,fun e=>Lr,fun z e=>?_⟩;cases e;rw [hx.cc];exact LkI.new hc (k.e0 e0).1 _ _ _
   ·exact ⟨hx.cc,hx.key,fun _=>k,fun z e=>Lr⟩
structure KmI (c:Cf) (x:Km):Prop where
 t:0<=x.t/\x.t<c.t
theorem q70 (x:Km) (v:Int):(x.next v).t=x.t:=by
 unfold Km.next;repeat' split
 all_goals rfl
theorem q02 (hc:c.Ok) {s:St} (h:OkG c g s.l) {p:Int} (o v:Int) (hp:0<=p/\p<3+c.t/\p≠2):Goes c g s.l g (s.swap p o v).l no2 no1:=by
 cases hcn:s.can p o with
 | true=>rw [ji hcn];exact Xi hc h v hp
 | false=>rw [Q5 hcn];exact Goes.same h _ _
theorem KmI.step (hc:c.Ok) {s:St} (h:OkG c g s.l) {x:Km} (hx:KmI c x):Goes c g s.l g (x.step s).2.l no2 no1/\KmI c (x.step s).1:=by
 have ht:=hx.t;have hp:0<=x.pa/\x.pa<3+c.t/\x.pa≠2:=by unfold Km.pa q9t;omega
 unfold Km.step;split
 ·refine ⟨?_,⟨by show 0<=(x.next _).t/\(x.next _).t<c.t;rw [q70];exact ht⟩⟩;simp only;unfold Km.act;repeat' split
  ·exact Goes.same h _ _
  ·exact Xi hc h _ hp
  ·exact Xi hc h _ ⟨by omega,by omega,by omega⟩
  ·exact q02 hc h _ _ hp
  ·exact Goes.same h _ _
 ·exact ⟨Goes.same h _ _,hx⟩
structure NdI (c:Cf) (x:Nd):Prop where
 cc:x.c=c
 t0:0<=x.t
 t1:x.live=true->x.t<c.t
theorem NdI.new (hc:c.Ok):NdI c (Nd.new c):=⟨rfl,by simp [Nd.new],fun _=>by have:=hc.t1;simp only [Nd.new];omega⟩
theorem nd_on {x:Nd} (h:x.c=c) (h0:0<=x.t):NdI c x.on:=by
 unfold Nd.on;split
 ·exact ⟨h,by simp only;omega,fun k=>by simp [Nd.live] at k⟩
 ·exact ⟨h,by simp only;omega,fun k=>by simp only;rw [h] at *;omega⟩
theorem qan {x:Nd} (h:NdI c x) (h1:x.t<c.t) (v:Int):NdI c (x.next v):=by
 unfold Nd.next;repeat' split
 all_goals first | exact ⟨h.cc,h.t0,fun _=>h1⟩ | exact nd_on h.cc h.t0
theorem NdI.step (hc:c.Ok) {s:St} (h:OkG c g s.l) {x:Nd} (hx:NdI c x):Goes c g s.l g (x.step s).2.l no2 no1/\NdI c (x.step s).1:=by
 unfold Nd.step;split
 ·rename_i hl;have h1:=hx.t1 hl;have h0:=hx.t0;have hp:0<=x.pa/\x.pa<3+c.t/\x.pa≠2:=by unfold Nd.pa q9t;omega
  refine ⟨?_,qan hx h1 _⟩;simp only;unfold Nd.act;repeat' split
  ·exact Goes.same h _ _
  ·exact Xi hc h _ ⟨by omega,by omega,by omega⟩
  ·exact q02 hc h _ _ hp
  ·exact Goes.same h _ _
 ·exact ⟨Goes.same h _ _,hx⟩
structure SnI (c:Cf) (g:Gst) (x:Sn):Prop where
 cc:x.c=c
 t:0<=x.t/\x.t<c.t
 lo:0<=x.lo/\x.lo<=63
 k:KmI c x.k
 w:x.line=11->∀ y,x.w=some y->WkI c g y
 l:x.line=1->∀ y,x.l=some y->LkI c g y
 a2:x.line=1\/x.line=2->g.K x.at_
 n3:x.line=3->g.K x.n
theorem SnI.new {t seq lo hi:Int} (ht:0<=t/\t<c.t) (hk:0<=lo/\lo<=63):SnI c g (Sn.new c t seq lo hi) :=
 ⟨rfl,ht,hk,⟨ht⟩,fun e=>by simp [Sn.new] at e,fun e=>by simp [Sn.new] at e,fun e=>by simp [Sn.new] at e,fun e=>by simp [Sn.new] at e⟩
theorem SnI.ext {g':Gst} {x:Sn} (h:SnI c g x) (e:Ext c g g') (hh:¬ g'.K (xn c)):SnI c g' x :=
 ⟨h.cc,h.t,h.lo,h.k,fun k y q=>(h.w k y q).ext e hh,fun k y q=>(h.l k y q).ext e,fun k=>e.K _ (h.a2 k),fun k=>e.K _ (h.n3 k)⟩
theorem q26 (hc:c.Ok) {x:Sn} (h1:x.c=c) (h2:0<=x.t/\x.t<c.t) (h3:0<=x.lo/\x.lo<=63) (h4:KmI c x.k) {a:Int} (ha:g.K a):SnI c g (x.chunk a):=by refine ⟨h1,h2,h3,h4,fun e=>by simp [Sn.chunk] at e,fun _ y e=>?_,fun _=>ha,fun e=>by simp [Sn.chunk] at e⟩;unfold Sn.chunk at e;cases e;rw [h1];exact LkI.new hc ha _ _ _
theorem SnI.step (hc:c.Ok) {s:St} (h:OkG c g s.l) {x:Sn} (hx:SnI c g x):∃ g',Goes c g s.l g' (x.step s).2.l no2 no1/\SnI c g' (x.step s).1:=by
 have same:=Goes.same h no2 no1;have ht:=hx.t;unfold Sn.step;by_cases l10:x.line=10
 ·rw [qf l10];split
  ·exact ⟨g,same,⟨hx.cc,hx.t,hx.lo,hx.k,fun e=>by simp at e,fun e=>by simp at e,fun e=>by simp at e,fun e=>by simp at e⟩⟩
  ·obtain ⟨G,k⟩:=hx.k.step hc h;refine ⟨g,G,?_⟩;simp only;split
   ·refine ⟨hx.cc,hx.t,hx.lo,k,fun _ y e=>?_,fun e=>?_,fun e=>?_,fun e=>?_⟩
    ·cases e;rw [hx.cc];exact WkI.new hx.lo
    ·exact Dp
    ·exact Dp
    ·exact Dp
   ·exact ⟨hx.cc,hx.t,hx.lo,k,fun e=>by simp only at e;omega,fun e=>by simp only at e;omega,fun e=>by simp only at e;omega,fun e=>by simp only at e;omega⟩
 ·rw [qd l10];by_cases l11:x.line=11
  ·rw [qf l11];cases hw:x.w with
   | none=>exact ⟨g,same,hx⟩
   | some y =>
    have k:=(hx.w l11 y hw).step hc h;have ea:=Uo y s;simp only;rw [ea];refine ⟨g,same,?_⟩;split
    ·rename_i e0;exact q26 (x:={ x with w:=some (y.step s).1 }) hc hx.cc hx.t hx.lo hx.k (k.e0 e0).1
    ·exact ⟨hx.cc,hx.t,hx.lo,hx.k,fun _ z e=>by cases e;exact k,fun e=>by simp only at e;omega,fun e=>by simp only at e;omega,fun e=>by simp only at e;omega⟩
  ·rw [qd l11];by_cases l1:x.line=1
   ·rw [qf l1];cases hl:x.l with
    | none=>exact ⟨g,same,hx⟩
    | some y =>
     obtain ⟨g',G,k⟩:=(hx.l l1 y hl).step hc h;have ha:=G.ext.K _ (hx.a2 (.inl l1));refine ⟨g',G,?_⟩;simp only;split
     ·exact ⟨hx.cc,hx.t,hx.lo,hx.k,fun e=>by simp at e,fun e=>by simp at e,fun _=>ha,fun e=>by simp at e⟩
     ·exact ⟨hx.cc,hx.t,hx.lo,hx.k,fun e=>by simp only at e;omega,fun _ z e=>by cases e;exact k,fun _=>ha,fun e=>by simp only at e;omega⟩
   ·rw [qd l1];by_cases l2:x.line=2
    ·rw [qf l2];have ha:=hx.a2 (.inr l2);rw [rd hc h ha Lb Nf];refine ⟨g,same,hx.cc,hx.t,hx.lo,hx.k,fun e=>?_,fun e=>?_,fun e=>?_,fun e=>?_⟩
     ·exact Dp
     ·exact Dp
     ·exact Dp
     ·simp only at e ⊢;unfold atW at *;rcases h.ki.nx _ ha with q | q
      ·rw [qf q.1] at e;omega
      ·exact q.1
    ·rw [qd l2];by_cases l3:x.line=3
     ·rw [qf l3];refine ⟨g,same,?_⟩;simp only;split
      ·exact q26 hc hx.cc hx.t hx.lo hx.k (hx.n3 l3)
      ·exact ⟨hx.cc,hx.t,hx.lo,hx.k,fun e=>by simp at e,fun e=>by simp at e,fun e=>by simp at e,fun e=>by simp at e⟩
     ·rw [qd l3];by_cases l4:x.line=4
      ·rw [qf l4];exact ⟨g,Xi hc h _ (by unfold q9t;omega),⟨hx.cc,hx.t,hx.lo,hx.k,fun e=>by simp at e,fun e=>by simp at e,fun e=>by simp at e,fun e=>by simp at e⟩⟩
      ·rw [qd l4];exact ⟨g,same,hx⟩
end
section
variable {c:Cf} {g:Gst} {l:List Int}
structure SlI (c:Cf) (g:Gst) (x:Sl):Prop where
 cc:x.c=c
 K:g.K x.chunk
 m:x.mate=0\/g.K x.mate
 m2:x.line=2->x.mate≠0
 i:1<=x.line->0<=x.i/\x.i<Q3 c x.mate
theorem SlI.ext {g':Gst} {x:Sl} (h:SlI c g x) (e:Ext c g g'):SlI c g' x:=⟨h.cc,e.K _ h.K,h.m.imp id (e.K _),h.m2,h.i⟩
theorem SlI.new (hc:c.Ok) {a m:Int} (ha:g.K a) (hm:m=0\/g.K m):SlI c g (Sl.new c a m) :=
 ⟨rfl,ha,hm,fun e=>by simp [Sl.new] at e,fun _=>by have:=(Xa hc m).1;simp only [Sl.new];omega⟩
theorem q6r (hc:c.Ok) (h:OkG c g l) {a m i:Int} (ha:g.K a) (hm:m=0\/g.K m) (hi:0<=i/\i<Q3 c m):∃ b j,g.K b/\(0<=j/\j<c.c)/\(b=a\/(b=m/\m≠0))/\yt c a m i=b+(7+3 * j)/\9+3 * j<z6 c:=by
 have h16:=hc.c16;unfold yt;by_cases e:i<c.c
 ·rw [qf e];obtain ⟨h1,h2,h3⟩:=q8q hc h ha ⟨hi.1,e⟩;exact ⟨a,i,ha,⟨hi.1,e⟩,.inl rfl,h1,h3⟩
 ·rw [qd e];have hm0:m≠0:=fun k=>by have:=hi.2;unfold Q3 at this;rw [qf k] at this;omega
  have hb:i<2 * c.c:=by have:=hi.2;unfold Q3 at this;rw [qd hm0] at this;omega
  have hK:=hm.resolve_left hm0;have hw:wrap64 (i - c.c)=i - c.c:=Zu Lb Lb;rw [hw];obtain ⟨h1,h2,h3⟩:=q8q hc h hK (i:=i - c.c) ⟨by omega,by omega⟩;exact ⟨m,i - c.c,hK,⟨by omega,by omega⟩,.inr ⟨rfl,hm0⟩,h1,h3⟩
theorem Zc (x:Sl) (v:Int):(x.next v).c=x.c/\(x.next v).chunk=x.chunk/\(x.next v).mate=x.mate:=by
 unfold Sl.next;repeat' split
 all_goals exact ⟨rfl,rfl,rfl⟩
theorem q5z (hc:c.Ok) {x:Sl} (h:SlI c g x) (hl:1<=x.line/\x.line<=6) (v:Int):SlI c g (x.next v):=by
 have hi:=h.i hl.1;have hb:=Xa hc x.mate;have hw:wrap64 (x.i+1)=x.i+1:=Zu Lb Lb;obtain ⟨e1,e2,e3⟩:=Zc x v;refine ⟨e1.trans h.cc,by rw [e2];exact h.K,by rw [e3];exact h.m,?_,?_⟩
 ·rw [e3];unfold Sl.next;intro k;by_cases l1:x.line=1
  ·rw [qf l1] at k;by_cases m0:x.mate=0
   ·rw [qf m0] at k;simp at k
   ·exact m0
  ·rw [qd l1] at k;exfalso;repeat' split at k
   all_goals (simp only at k;omega)
 ·rw [e3];unfold Sl.next;rw [h.cc,hw];by_cases l1:x.line=1
  ·rw [qf l1];split <;> exact fun _=>hi
  ·rw [qd l1];by_cases l2:x.line=2
   ·rw [qf l2];exact fun _=>hi
   ·rw [qd l2];by_cases l3:x.line=3
    ·rw [qf l3];split
     ·exact fun _=>hi
     ·split
      ·exact fun _=>hi
      ·split
       ·simp
       ·intro _;simp only;omega
    ·rw [qd l3];by_cases l4:x.line=4
     ·rw [qf l4];exact fun _=>hi
     ·rw [qd l4];split <;> exact fun _=>hi
structure SlS (c:Cf) (g:Gst) (x:Sl):Prop where
 B:Bn g x.chunk
 mB:x.mate=0\/Bn g x.mate
 s1:x.line≠1->1<=g.M.F x.chunk 6
 s2:x.line≠1->x.line≠2->x.mate≠0->1<=g.M.F x.mate 6
theorem SlS.new {a m:Int} (ha:Bn g a) (hm:m=0\/Bn g m):SlS c g (Sl.new c a m) :=
 ⟨ha,hm,fun k=>absurd rfl k,fun k=>absurd rfl k⟩
theorem SlS.ext {g':Gst} {x:Sl} (hx:SlI c g x) (h:SlS c g x) (e:Ext c g g'):SlS c g' x :=
 ⟨e.bn _ h.B,h.mB.imp id (e.bn _),fun k=>e.st _ hx.K (h.s1 k),fun k k2 k3=>e.st _ (hx.m.resolve_left k3) (h.s2 k k2 k3)⟩
theorem SlS.next3 {x:Sl} (h:SlS c g x) (h1:3<=x.line) (v:Int):SlS c g (x.next v):=by obtain ⟨-,e2,e3⟩:=Zc x v;refine ⟨by rw [e2];exact h.B,by rw [e3];exact h.mB,fun _=>by rw [e2];exact h.s1 Lb,fun _ _=>by rw [e3];exact h.s2 Lb Lb⟩
theorem SlI.step (hc:c.Ok) {s:St} (h:OkG c g s.l) {x:Sl} (hx:SlI c g x) (hS:SlS c g x):∃ g',Goes c g s.l g' (x.step s).2.l no2 no1/\SlI c g' (x.step s).1/\SlS c g' (x.step s).1:=by
 have same:=Goes.same h no2 no1;unfold Sl.step;by_cases hl:x.live=true
 ·rw [qf hl];unfold Sl.live at hl;simp only [Bool.and_eq_true,decide_eq_true_eq] at hl;have fin1:∀ g':Gst,Ext c g g'->SlI c g' (x.next (x.told s)):=fun g' e=>(q5z hc hx hl _).ext e
  have fin:3<=x.line->∀ g':Gst,Ext c g g'->SlI c g' (x.next (x.told s))/\SlS c g' (x.next (x.told s)):=fun q g' e=>⟨fin1 g' e,(hS.next3 q _).ext (q5z hc hx hl _) e⟩
  obtain ⟨-,en2,en3⟩:=Zc x (x.told s);have hsz:=xm hc;have hkb:=Wm hc h hx.K;obtain ⟨b,j,hb,hj,-,ej,e9⟩:=q6r hc h hx.K hx.m (hx.i hl.1);have hsa:x.sa=b+(7+3 * j):=by unfold Sl.sa;rw [hx.cc];exact ej
  have hrd:qw s.l x.sa=g.M.F b (7+3 * j):=by rw [hsa];exact h.rel.F _ hb _ Lb Lb
  simp only;unfold Sl.act;by_cases l1:x.line=1
  ·rw [qf l1,Xe,Zu Lb Lb];have G:=Zp hc h 1 hS.B (Int.le_refl _);refine ⟨_,G,fin1 _ G.ext,by rw [en2];exact G.ext.bn _ hS.B,by rw [en3];exact hS.mB.imp id (G.ext.bn _),fun _=>?_,fun k1 k2 k3=>?_⟩
   ·rw [en2];exact Int.le_of_eq (upd_same _ _ _ _).symm
   ·exfalso;rw [en3] at k3;unfold Sl.next at k2;rw [qf l1,qd k3] at k2;exact k2 rfl
  ·rw [qd l1];by_cases l2:x.line=2
   ·have hm:=hx.m.resolve_left (hx.m2 l2);have hmb:=Wm hc h hm;rw [qf l2,Xe,Zu Lb Lb];have G:=Zp hc h 1 (hS.mB.resolve_left (hx.m2 l2)) (Int.le_refl _);refine ⟨_,G,fin1 _ G.ext,by rw [en2];exact G.ext.bn _ hS.B,by rw [en3];exact hS.mB.imp id (G.ext.bn _),fun _=>?_,fun k1 k2 k3=>?_⟩
    ·rw [en2];exact G.ext.st _ hx.K (hS.s1 Lb)
    ·rw [en3];exact Int.le_of_eq (upd_same _ _ _ _).symm
   ·rw [qd l2];by_cases l3:x.line=3
    ·rw [qf l3];exact ⟨g,same,fin Lb _ (Ext.refl _ _)⟩
    ·rw [qd l3];by_cases l4:x.line=4
     ·rw [qf l4];cases hcn:s.can x.sa 0 with
      | true =>
       have hp:=jv hcn;rw [hrd] at hp;rw [ji hcn,hsa];have G:=Vx hc h hb hj (v:=2) (.inl ⟨hp,rfl⟩);exact ⟨_,G,fin Lb _ G.ext⟩
      | false=>rw [Q5 hcn];exact ⟨g,same,fin Lb _ (Ext.refl _ _)⟩
     ·rw [qd l4];by_cases l5:x.line=5
      ·rw [qf l5];exact ⟨g,same,fin Lb _ (Ext.refl _ _)⟩
      ·rw [qd l5];cases hcn:s.can x.sa 1 with
       | true =>
        have hp:=jv hcn;rw [hrd] at hp;rw [ji hcn,hsa];have G:=Vx hc h hb hj (v:=vu x.g) (.inr ⟨hp,Y6 _⟩);exact ⟨_,G,fin Lb _ G.ext⟩
       | false=>rw [Q5 hcn];exact ⟨g,same,fin Lb _ (Ext.refl _ _)⟩
 ·exact Hu
theorem Led.ext (hc:c.Ok) (h:OkG c g l) {g':Gst} {a m r:Int} (k:Led c g a m r) (e:Ext c g g'):Led c g' a m r:=k.keep (h.p15 hc) e.K e.bn e.nm e.ld e.mt
theorem Led.m0 (hc:c.Ok) (h:OkG c g l) {a m r:Int} (k:Led c g a m r):m=0\/g.K m:=by
 rcases k.m with q | q
 ·exact .inl q.1
 ·exact .inr q.1
theorem Led.behind (hc:c.Ok) (h:OkG c g l) {a m r:Int} (k:Led c g a m r):(r=0/\g.up (if m=0 then a else m)=64)\/(g.K r/\g.M.F r 0=g.up (if m=0 then a else m)):=by
 rcases k.m with ⟨rfl,rfl⟩ | ⟨k1,k2,k3,rfl⟩
 ·rw [qf rfl];exact h.ki.nx _ k.K
 ·have:m≠0:=by have:=h.ki.pos hc k1;omega
  rw [qd this];exact h.ki.nx _ k1
theorem Led.mn (hc:c.Ok) (h:OkG c g l) {a m r:Int} (k:Led c g a m r) (hm:m≠0):g.M.F m 0=g.up a:=by
 rcases k.m with ⟨e,-⟩ | ⟨k1,k2,k3,k4⟩
 ·exact absurd e hm
 ·rcases h.ki.nx _ k.K with q | q
  ·omega
  ·rw [k2];exact q.2
theorem q1u {w:Int} (h:w % 2=0) (h0:0<=w) (h1:w<=1000000000000000):or1 w=w+1:=by obtain ⟨n,rfl⟩:∃ n:Nat,w=((n * 2:Nat):Int):=⟨(w / 2).toNat,by omega⟩;have:=Lib.or_one (n * 2) Lb;unfold or1;rw [this];omega
theorem q8o (hc:c.Ok) (h:OkG c g l) {a:Int} (ha:g.K a):0<=g.M.F a 2/\g.M.F a 2<=40001:=by
 rcases h.ki.nx _ ha with q | q
 ·omega
 ·have:=Wm hc h q.1;have:=xm hc;omega
theorem Ut (hc:c.Ok) {s:St} (h:OkG c g s.l) {a f o:Int} (ha:g.K a) (h0:0<=f) (h1:f<z6 c) (k:s.can (a+f) o=false):g.M.F a f≠o:=by have:=h.rel.F a ha f h0 h1;have hl:=h.rel.len;have hb:=Rel.low hc h ha;have ht:=hc.t1;unfold St.can J6 at k;rw [this] at k;intro e;rw [e] at k;simp at k;omega
structure LdI (c:Cf) (g:Gst) (x:Ld):Prop where
 cc:x.c=c
 K:g.K x.chunk
 l2:x.line=2->g.M.F x.chunk 3≠0
 l:(3<=x.line\/x.line=0)->g.K x.l
 w4:x.line=4->x.w % 2=0
 n5:(5<=x.line\/x.line=0)->g.M.F x.l 2 % 2=1/\x.n=g.M.F x.l 2 / 2
 m7:x.line=7->g.M.F x.l 4≠0
 m8:8<=x.line->g.K x.n/\g.M.F x.l 4=x.n
 w11:x.line=11->x.w % 2=0
 al:x.line=0->(x.alone=true/\x.after=x.n)\/(x.alone=false/\g.K x.n/\g.M.F x.n 2 % 2=1/\x.after=g.M.F x.n 2 / 2)
 ln:0<=x.line/\x.line<=11
 na:x.line≠0->x.alone=false
theorem LdI.new {a:Int} (ha:g.K a) (d:Bool):LdI c g (Ld.new c a d) :=
 ⟨rfl,ha,fun e=>by simp [Ld.new] at e,fun e=>by simp [Ld.new] at e,fun e=>by simp [Ld.new] at e,fun e=>by simp [Ld.new] at e,fun e=>by simp [Ld.new] at e,fun e=>by simp [Ld.new] at e,fun e=>by simp [Ld.new] at e,fun e=>by simp [Ld.new] at e,by simp [Ld.new],fun _=>rfl⟩
theorem LdI.ext {g':Gst} {x:Ld} (hc:c.Ok) (h:LdI c g x) (hp:∀ a,g.K a->15<=a) (e:Ext c g g'):LdI c g' x:=by
 refine ⟨h.cc,e.K _ h.K,fun k=>?_,fun k=>e.K _ (h.l k),h.w4,fun k=>?_,fun k=>?_,fun k=>?_,h.w11,fun k=>?_,h.ln,h.na⟩
 ·rw [e.ld _ h.K (h.l2 k)];exact h.l2 k
 ·obtain ⟨h1,h2⟩:=h.n5 k;have hl:=h.l Lb;rw [e.nm _ hl h1];exact ⟨h1,h2⟩
 ·rw [e.mt _ (h.l Lb) (h.m7 k)];exact h.m7 k
 ·obtain ⟨h1,h2⟩:=h.m8 k;have:=hp _ h1;exact ⟨e.K _ h1,by rw [e.mt _ (h.l Lb) Lb];exact h2⟩
 ·rcases h.al k with q | ⟨q1,q2,q3,q4⟩
  ·exact .inl q
  ·exact .inr ⟨q1,e.K _ q2,by rw [e.nm _ q2 q3];exact q3,by rw [e.nm _ q2 q3];exact q4⟩
structure LdS (c:Cf) (g:Gst) (x:Ld):Prop where
 B:Bn g x.chunk
 lB:(3<=x.line\/x.line=0)->Bn g x.l/\g.M.F x.l 3=x.l
 n9:x.line=9->g.M.F x.n 3≠0
 n10:x.line=10\/x.line=11->g.M.F x.n 3=x.l
 dec:x.line=0->Dec g x.l (if x.alone=true then 0 else x.n)
theorem LdS.new {a:Int} (ha:Bn g a) (d:Bool):LdS c g (Ld.new c a d) :=
 ⟨ha,fun e=>by simp [Ld.new] at e,fun e=>by simp [Ld.new] at e,fun e=>by simp [Ld.new] at e,fun e=>by simp [Ld.new] at e⟩
theorem LdS.pre {y:Ld} (h:Bn g y.chunk) (hl:y.line=2):LdS c g y:=⟨h,fun e=>by omega,fun e=>by omega,fun e=>by omega,fun e=>by omega⟩
theorem LdS.mid {y:Ld} (h:Bn g y.chunk) (h2:Bn g y.l/\g.M.F y.l 3=y.l) (hl:y.line≠0/\y.line≠9/\y.line≠10/\y.line≠11):LdS c g y:=⟨h,fun _=>h2,fun e=>by omega,fun e=>by omega,fun e=>by omega⟩
theorem LdS.ext (hc:c.Ok) (h:OkG c g l) {g':Gst} {x:Ld} (hx:LdI c g x) (k:LdS c g x) (e:Ext c g g'):LdS c g' x:=by
 have h15:=h.p15 hc
 have lk:(3<=x.line\/x.line=0)->Bn g' x.l/\g'.M.F x.l 3=x.l:=fun q=>by obtain ⟨k1,k2⟩:=k.lB q;have:=h15 _ (hx.l q);exact ⟨e.bn _ k1,by rw [e.ld _ (hx.l q) Lb];exact k2⟩
 refine ⟨e.bn _ k.B,lk,fun q=>?_,fun q=>?_,fun q=>(k.dec q).keep (hx.l (.inr q)) h15 e.K e.ld e.mt⟩
 ·have:=(hx.m8 Lb).1;rw [e.ld _ this (k.n9 q)];exact k.n9 q
 ·have h1:=(hx.m8 Lb).1;have:=h15 _ (hx.l (.inl Lb));rw [e.ld _ h1 (by rw [k.n10 q];omega)];exact k.n10 q
theorem LdI.led {x:Ld} (h:LdI c g x) (k:LdS c g x) (h0:x.line=0):Led c g x.three.1 x.three.2.1 x.three.2.2:=by
 obtain ⟨h1,h2⟩:=h.n5 (.inr h0);have hl:=h.l (.inr h0);obtain ⟨k1,k2⟩:=k.lB (.inr h0);have kd:=k.dec h0;unfold Ld.three;rw [qd Lb];rcases h.al h0 with ⟨q1,q2⟩ | ⟨q1,q2,q3,q4⟩
 ·rw [qf q1] at kd ⊢;exact ⟨hl,h1,k1,k2,kd,.inl ⟨rfl,by simp only;rw [q2,h2]⟩⟩
 ·rw [qd (by rw [q1];simp)] at kd ⊢;exact ⟨hl,h1,k1,k2,kd,.inr ⟨q2,h2,q3,q4⟩⟩
theorem LdI.eight (hc:c.Ok) (h:OkG c g l) {x:Ld} (h1:x.c=c) (h2:g.K x.chunk) (h3:g.K x.l) (h4:g.M.F x.l 2 % 2=1/\x.n=g.M.F x.l 2 / 2) (h5:g.M.F x.l 4=x.mate) (h6:x.mate≠0) (h7:x.alone=false):LdI c g x.eight:=by
 unfold Ld.eight;split
 ·exact ⟨h1,h2,fun e=>by simp [Ld.toAlone] at e,fun _=>h3,fun e=>by simp [Ld.toAlone] at e,fun _=>h4,fun e=>by simp [Ld.toAlone] at e,fun e=>by simp [Ld.toAlone] at e,fun e=>by simp [Ld.toAlone] at e,fun _=>.inl ⟨rfl,rfl⟩,by simp [Ld.toAlone],fun e=>by simp [Ld.toAlone] at e⟩
 ·rename_i hn;refine ⟨h1,h2,fun e=>by simp at e,fun _=>h3,fun e=>by simp at e,fun _=>h4,fun e=>by simp at e,fun _=>?_,fun e=>by simp at e,fun e=>by simp at e,by simp,fun _=>h7⟩;rcases h.ki.mt _ h3 with q | q | ⟨q1,q2,q3⟩
  ·omega
  ·omega
  ·simp only;rw [h4.2,q2];exact ⟨q1,rfl⟩
theorem LdS.eight (hc:c.Ok) (h:OkG c g l) {x:Ld} (h2:Bn g x.chunk) (h3:g.K x.l) (k:Bn g x.l/\g.M.F x.l 3=x.l) (h4:x.n=g.M.F x.l 2 / 2) (h5:g.M.F x.l 4=x.mate) (h6:x.mate≠0):LdS c g x.eight:=by
 unfold Ld.eight;split
 ·rename_i hn;refine ⟨h2,fun _=>k,fun e=>by simp [Ld.toAlone] at e,fun e=>by simp [Ld.toAlone] at e,fun _=>.inl ⟨rfl,.inl ?_⟩⟩;show g.M.F x.l 4=1;rcases h.ki.mt _ h3 with q | q | ⟨q1,q2,-⟩
  ·omega
  ·exact q
  ·have:=h.p15 hc _ q1;rcases hn with hn | hn
   ·exact h5.trans hn
   ·omega
 ·exact LdS.mid h2 k Lc
theorem LdI.step (hc:c.Ok) {s:St} (h:OkG c g s.l) {x:Ld} (hx:LdI c g x) (hS:LdS c g x):∃ g',Goes c g s.l g' (x.step s).2.l no2 no1/\LdI c g' (x.step s).1/\LdS c g' (x.step s).1:=by
 have same:=Goes.same h no2 no1;have hsz:=xm hc;have hkb:=Wm hc h hx.K;unfold Ld.step;by_cases hl:x.live=true
 ·rw [qf hl];unfold Ld.live at hl;simp only [Bool.and_eq_true,decide_eq_true_eq] at hl;have hna:=hx.na Lb
  have lS:3<=x.line->∀ g':Gst,Ext c g g'->Bn g' x.l/\g'.M.F x.l 3=x.l:=fun q g' e=>by obtain ⟨k1,k2⟩:=hS.lB (.inl q);have:=h.p15 hc _ (hx.l (.inl q));exact ⟨e.bn _ k1,by rw [e.ld _ (hx.l (.inl q)) Lb];exact k2⟩
  simp only;unfold Ld.act Ld.told Ld.next;by_cases l1:x.line=1
  ·rw [qf l1,qf l1,Zu Lb Lb]
   have mk:∀ g':Gst,Ext c g g'->g'.M.F x.chunk 3≠0->LdI c g' { x with line:=2 } /\ LdS c g' { x with line:=2 }:=fun g' e e3 =>
    ⟨⟨hx.cc,e.K _ hx.K,fun _=>e3,fun e=>by simp at e,fun e=>by simp at e,fun e=>by simp at e,fun e=>by simp at e,fun e=>by simp at e,fun e=>by simp at e,fun e=>by simp at e,by simp,fun _=>hna⟩,.pre (e.bn _ hS.B) rfl⟩
   cases hcn:s.can (x.chunk+3) 0 with
   | true =>
    have hp:=jv hcn;rw [h.rel.F _ hx.K 3 Lb Lb] at hp;rw [ji hcn];have G:=Rb hc h hx.K hp hS.B (.inl rfl) (.inl rfl);exact ⟨_,G,mk _ G.ext (by rw [show (g.set x.chunk 3 x.chunk).M.F x.chunk 3=x.chunk from upd_same _ _ _ _];omega)⟩
   | false=>rw [Q5 hcn];exact ⟨g,same,mk _ (Ext.refl _ _) (Ut hc h hx.K Lb Lb hcn)⟩
  ·rw [qd l1,qd l1];by_cases l2:x.line=2
   ·rw [qf l2,qf l2,qf l2,rd hc h hx.K Lb Lb];refine ⟨g,same,⟨hx.cc,hx.K,fun e=>by simp at e,fun _=>?_,fun e=>by simp at e,fun e=>by simp at e,fun e=>by simp at e,fun e=>by simp at e,fun e=>by simp at e,fun e=>by simp at e,by simp,fun _=>hna⟩,.mid hS.B (h.bg.ld _ hx.K (hx.l2 l2)) Lc⟩;exact ((h.ki.ld _ hx.K).resolve_left (hx.l2 l2)).1
   ·rw [qd l2,qd l2,qd l2];have hK:=hx.l (.inl Lb);have hlb:=Wm hc h hK;have hxb:=q8o hc h hK;by_cases l3:x.line=3
    ·rw [qf l3,qf l3,qf l3,rd hc h hK Lb Lb];refine ⟨g,same,?_⟩;unfold Jw;split
     ·rename_i e;rw [decide_eq_true_eq] at e;exact ⟨⟨hx.cc,hx.K,fun e=>by simp at e,fun _=>hK,fun e=>by simp at e,fun _=>⟨e,rfl⟩,fun e=>by simp at e,fun e=>by simp at e,fun e=>by simp at e,fun e=>by simp at e,by simp,fun _=>hna⟩,.mid hS.B (lS Lb _ (Ext.refl _ _)) Lc⟩
     ·rename_i e;rw [decide_eq_true_eq] at e;exact ⟨⟨hx.cc,hx.K,fun e=>by simp at e,fun _=>hK,fun _=>by simp only;omega,fun e=>by simp at e,fun e=>by simp at e,fun e=>by simp at e,fun e=>by simp at e,fun e=>by simp at e,by simp,fun _=>hna⟩,.mid hS.B (lS Lb _ (Ext.refl _ _)) Lc⟩
    ·rw [qd l3,qd l3,qd l3];by_cases l4:x.line=4
     ·rw [qf l4,qf l4,Zu Lb Lb]
      have mk:∀ g':Gst,Ext c g g'->LdI c g' { x with line:=3 } /\ LdS c g' { x with line:=3 }:=fun g' e =>
       ⟨⟨hx.cc,e.K _ hx.K,fun e=>by simp at e,fun _=>e.K _ hK,fun e=>by simp at e,fun e=>by simp at e,fun e=>by simp at e,fun e=>by simp at e,fun e=>by simp at e,fun e=>by simp at e,by simp,fun _=>hna⟩,.mid (e.bn _ hS.B) (lS Lb _ e) Lc⟩
      cases hcn:s.can (x.l+2) x.w with
      | true =>
       have hp:=jv hcn;rw [h.rel.F _ hK 2 Lb Lb] at hp;have hw:=hx.w4 l4;rw [ji hcn,q1u hw Lb Lb];have G:=Ty hc h (v:=x.w+1) (hS.lB (.inl Lb)).1 Lb Lb;exact ⟨_,G,mk _ G.ext⟩
      | false=>rw [Q5 hcn];exact ⟨g,same,mk _ (Ext.refl _ _)⟩
     ·rw [qd l4,qd l4];obtain ⟨n1,n2⟩:=hx.n5 (.inl Lb);by_cases l5:x.line=5
      ·rw [qf l5,qf (show x.line=5\/x.line=7 from .inl l5),qf l5,rd hc h hK Lb Lb];refine ⟨g,same,?_⟩;split
       ·exact ⟨⟨hx.cc,hx.K,fun e=>by simp at e,fun _=>hK,fun e=>by simp at e,fun _=>⟨n1,n2⟩,fun e=>by simp at e,fun e=>by simp at e,fun e=>by simp at e,fun e=>by simp at e,by simp,fun _=>hna⟩,.mid hS.B (lS Lb _ (Ext.refl _ _)) Lc⟩
       ·rename_i e;exact ⟨LdI.eight (x:={ x with mate:=g.M.F x.l 4,line:=6 }) hc h hx.cc hx.K hK ⟨n1,n2⟩ rfl e hna,LdS.eight (x:={ x with mate:=g.M.F x.l 4,line:=6 }) hc h hS.B hK (lS Lb _ (Ext.refl _ _)) n2 rfl e⟩
      ·rw [qd l5,qd l5];by_cases l6:x.line=6
       ·rw [qf l6,qf l6,Zu Lb Lb]
        have mk:∀ g':Gst,Ext c g g'->g'.M.F x.l 4≠0->LdI c g' { x with drew:=true,line:=7 } /\ LdS c g' { x with drew:=true,line:=7 }:=fun g' e e4 =>
         ⟨⟨hx.cc,e.K _ hx.K,fun e=>by simp at e,fun _=>e.K _ hK,fun e=>by simp at e,fun _=>by simp only;rw [e.nm _ hK n1];exact ⟨n1,n2⟩,fun _=>e4,fun e=>by simp at e,fun e=>by simp at e,fun e=>by simp at e,by simp,fun _=>hna⟩,.mid (e.bn _ hS.B) (lS Lb _ e) Lc⟩
        cases hcn:s.can (x.l+4) 0 with
        | true =>
         have hp:=jv hcn;rw [h.rel.F _ hK 4 Lb Lb] at hp;rw [ji hcn]
         have hw:x.who=1\/(g.K x.who/\g.M.F x.l 2 / 2=x.who/\g.M.F x.l 2 % 2=1):=by
          unfold Ld.who;split
          ·rename_i e;right;rcases h.ki.nx _ hK with q | q
           ·omega
           ·rw [n2];exact ⟨q.1,rfl,n1⟩
          ·exact .inl rfl
         have hw0:x.who≠0:=by
          rcases hw with q | q
          ·omega
          ·have:=h.ki.pos hc q.1;omega
         have G:=q6p hc h hK hp hw;exact ⟨_,G,mk _ G.ext (by rw [show (g.set x.l 4 x.who).M.F x.l 4=x.who from upd_same _ _ _ _];exact hw0)⟩
        | false=>rw [Q5 hcn];exact ⟨g,same,mk _ (Ext.refl _ _) (Ut hc h hK Lb Lb hcn)⟩
       ·rw [qd l6,qd l6];by_cases l7:x.line=7
        ·rw [qf l7,qf (show x.line=5\/x.line=7 from .inr l7),qf l7,rd hc h hK Lb Lb];exact ⟨g,same,LdI.eight (x:={ x with mate:=g.M.F x.l 4 }) hc h hx.cc hx.K hK ⟨n1,n2⟩ rfl (hx.m7 l7) hna,LdS.eight (x:={ x with mate:=g.M.F x.l 4 }) hc h hS.B hK (lS Lb _ (Ext.refl _ _)) n2 rfl (hx.m7 l7)⟩
        ·rw [qd l7,qd (show ¬ (x.line=5\/x.line=7) by omega),qd l7];obtain ⟨m1,m2⟩:=hx.m8 Lb;have hnb:=Wm hc h m1;have hnx:=q8o hc h m1;by_cases l8:x.line=8
         ·rw [qf l8,qf l8,Zu Lb Lb]
          have mk:∀ g':Gst,Ext c g g'->g'.M.F x.n 3≠0->LdI c g' { x with line:=9 } /\ LdS c g' { x with line:=9 }:=fun g' e e9 =>
           ⟨⟨hx.cc,e.K _ hx.K,fun e=>by simp at e,fun _=>e.K _ hK,fun e=>by simp at e,fun _=>by simp only;rw [e.nm _ hK n1];exact ⟨n1,n2⟩,fun e=>by simp at e,fun _=>⟨e.K _ m1,by rw [e.mt _ hK Lb];exact m2⟩,fun e=>by simp at e,fun e=>by simp at e,by simp,fun _=>hna⟩,e.bn _ hS.B,fun _=>lS Lb _ e,fun _=>e9,fun e=>by simp at e,fun e=>by simp at e⟩
          cases hcn:s.can (x.n+3) 0 with
          | true =>
           have hp:=jv hcn;rw [h.rel.F _ m1 3 Lb Lb] at hp;rw [ji hcn];have G:=Rb hc h m1 hp (hS.lB (.inl Lb)).1 (.inr ⟨m2,n1⟩) (.inr (hS.lB (.inl Lb)).2);exact ⟨_,G,mk _ G.ext (by rw [show (g.set x.n 3 x.l).M.F x.n 3=x.l from upd_same _ _ _ _];omega)⟩
          | false=>rw [Q5 hcn];exact ⟨g,same,mk _ (Ext.refl _ _) (Ut hc h m1 Lb Lb hcn)⟩
         ·rw [qd l8,qd l8];by_cases l9:x.line=9
          ·rw [qf l9,qf l9,qf l9,rd hc h m1 Lb Lb];refine ⟨g,same,?_⟩;split
           ·rename_i e9;exact ⟨⟨hx.cc,hx.K,fun e=>by simp at e,fun _=>hK,fun e=>by simp at e,fun _=>⟨n1,n2⟩,fun e=>by simp at e,fun _=>⟨m1,m2⟩,fun e=>by simp at e,fun e=>by simp at e,by simp,fun _=>hna⟩,hS.B,fun _=>lS Lb _ (Ext.refl _ _),fun e=>by simp at e,fun _=>e9,fun e=>by simp at e⟩
           ·rename_i e9;exact ⟨⟨hx.cc,hx.K,fun e=>by simp [Ld.toAlone] at e,fun _=>hK,fun e=>by simp [Ld.toAlone] at e,fun _=>⟨n1,n2⟩,fun e=>by simp [Ld.toAlone] at e,fun e=>by simp [Ld.toAlone] at e,fun e=>by simp [Ld.toAlone] at e,fun _=>.inl ⟨rfl,rfl⟩,by simp [Ld.toAlone],fun e=>by simp [Ld.toAlone] at e⟩,hS.B,fun _=>lS Lb _ (Ext.refl _ _),fun e=>by simp [Ld.toAlone] at e,fun e=>by simp [Ld.toAlone] at e,fun _=>.inl ⟨rfl,.inr (by show g.K (g.M.F x.l 4)/\g.M.F (g.M.F x.l 4) 3≠0/\g.M.F (g.M.F x.l 4) 3≠x.l;rw [m2];exact ⟨m1,hS.n9 l9,e9⟩)⟩⟩
          ·rw [qd l9,qd l9,qd l9];by_cases l10:x.line=10
           ·rw [qf l10,qf l10,rd hc h m1 Lb Lb];refine ⟨g,same,?_⟩;unfold Jw;split
            ·rename_i e;rw [decide_eq_true_eq] at e;exact ⟨⟨hx.cc,hx.K,fun e=>by simp at e,fun _=>hK,fun e=>by simp at e,fun _=>⟨n1,n2⟩,fun e=>by simp at e,fun e=>by simp at e,fun e=>by simp at e,fun _=>.inr ⟨hna,m1,e,rfl⟩,by simp,fun e=>by simp at e⟩,hS.B,fun _=>lS Lb _ (Ext.refl _ _),fun e=>by simp at e,fun e=>by simp at e,fun _=>.inr (by show g.K (if x.alone=true then 0 else x.n)/\g.M.F x.l 4=(if x.alone=true then 0 else x.n)/\g.M.F (if x.alone=true then 0 else x.n) 3=x.l;rw [qd (by rw [hna];simp)];exact ⟨m1,m2,hS.n10 (.inl l10)⟩)⟩
            ·rename_i e;rw [decide_eq_true_eq] at e;exact ⟨⟨hx.cc,hx.K,fun e=>by simp at e,fun _=>hK,fun e=>by simp at e,fun _=>⟨n1,n2⟩,fun e=>by simp at e,fun _=>⟨m1,m2⟩,fun _=>by simp only;omega,fun e=>by simp at e,by simp,fun _=>hna⟩,hS.B,fun _=>lS Lb _ (Ext.refl _ _),fun e=>by simp at e,fun _=>hS.n10 (.inl l10),fun e=>by simp at e⟩
           ·rw [qd l10,qd l10,Zu Lb Lb]
            have mk:∀ g':Gst,Ext c g g'->LdI c g' { x with line:=10 } /\ LdS c g' { x with line:=10 }:=fun g' e =>
             ⟨⟨hx.cc,e.K _ hx.K,fun e=>by simp at e,fun _=>e.K _ hK,fun e=>by simp at e,fun _=>by simp only;rw [e.nm _ hK n1];exact ⟨n1,n2⟩,fun e=>by simp at e,fun _=>⟨e.K _ m1,by rw [e.mt _ hK Lb];exact m2⟩,fun e=>by simp at e,fun e=>by simp at e,by simp,fun _=>hna⟩,e.bn _ hS.B,fun _=>lS Lb _ e,fun e=>by simp at e,fun _=>by have q:=hS.n10 (.inr Lb);show g'.M.F x.n 3=x.l;rw [e.ld _ m1 (by rw [q];omega)];exact q,fun e=>by simp at e⟩
            cases hcn:s.can (x.n+2) x.w with
            | true =>
             have hp:=jv hcn;rw [h.rel.F _ m1 2 Lb Lb] at hp;have hw:=hx.w11 Lb;rw [ji hcn,q1u hw Lb Lb]
             have hnB:Bn g x.n:=by have q:=h.bg.nx _ (hS.lB (.inl Lb)).1;rw [<- n2] at q;have:=h.p15 hc _ m1;exact q.resolve_left Lb
             have G:=Ty hc h (v:=x.w+1) hnB Lb Lb;exact ⟨_,G,mk _ G.ext⟩
            | false=>rw [Q5 hcn];exact ⟨g,same,mk _ (Ext.refl _ _)⟩
 ·exact Hu
structure SpI (c:Cf) (g:Gst) (x:Sp):Prop where
 cc:x.c=c
 K:g.K x.chunk
 m:x.mate=0\/g.K x.mate
 r:g.K x.repl/\g.M.F x.repl 0=g.M.F x.chunk 0
 m7:x.line=7->x.mate≠0
 cu:3<=x.line/\x.line<=5->g.K x.cur\/x.cur=xn c
 w4:x.line=4->x.w % 2=0/\x.w / 2=x.chunk
 n5:x.line=5->g.K x.n
 st:x.stuck=0\/g.K x.stuck
 ln:0<=x.line/\x.line<=8
theorem SpI.new {a m r:Int} (ha:g.K a) (hm:m=0\/g.K m) (hr:g.K r/\g.M.F r 0=g.M.F a 0):SpI c g (Sp.new c a m r) :=
 ⟨rfl,ha,hm,hr,fun e=>by simp [Sp.new] at e,fun e=>by simp [Sp.new] at e,fun e=>by simp [Sp.new] at e,fun e=>by simp [Sp.new] at e,.inl rfl,by simp [Sp.new]⟩
theorem SpI.ext {g':Gst} {x:Sp} (h:SpI c g x) (e:Ext c g g'):SpI c g' x :=
 ⟨h.cc,e.K _ h.K,h.m.imp id (e.K _),⟨e.K _ h.r.1,by rw [e.mn _ h.r.1,e.mn _ h.K];exact h.r.2⟩,h.m7,fun k=>(h.cu k).imp (e.K _) id,h.w4,fun k=>e.K _ (h.n5 k),h.st.imp id (e.K _),h.ln⟩
structure SpS (c:Cf) (g:Gst) (x:Sp):Prop where
 B:Bn g x.chunk
 mB:x.mate=0\/Bn g x.mate
 rp:g.M.F x.chunk 5=x.repl
 mm:3<=x.line/\x.line<=5->x.m=g.M.F x.chunk 0
 cB:3<=x.line/\x.line<=5->(Bn g x.cur/\g.M.F x.cur 0<g.M.F x.chunk 0)\/x.cur=xn c
 n5:x.line=5->Bn g x.n/\(x.chunk∈g.L->g.M.F x.n 0<g.M.F x.chunk 0)
 g6:6<=x.line->x.chunk∉g.L
 sB:x.stuck=0\/Bn g x.stuck
theorem SpS.new {a m r:Int} (ha:Bn g a) (hm:m=0\/Bn g m) (hr:g.M.F a 5=r):SpS c g (Sp.new c a m r) :=
 ⟨ha,hm,hr,fun e=>by simp [Sp.new] at e,fun e=>by simp [Sp.new] at e,fun e=>by simp [Sp.new] at e,fun e=>by simp [Sp.new] at e,.inl rfl⟩
theorem SpS.ext (hc:c.Ok) (h:OkG c g l) {g':Gst} {x:Sp} (hx:SpI c g x) (k:SpS c g x) (e:Ext c g g'):SpS c g' x:=by
 have:=h.p15 hc _ hx.r.1;refine ⟨e.bn _ k.B,k.mB.imp id (e.bn _),by rw [e.rp _ hx.K (by rw [k.rp];omega)];exact k.rp,fun q=>by rw [e.mn _ hx.K];exact k.mm q,fun q=>?_,fun q=>?_,fun q=>e.gone _ k.B (k.g6 q),k.sB.imp id (e.bn _)⟩
 ·rcases k.cB q with ⟨k1,k2⟩ | k1
  ·exact .inl ⟨e.bn _ k1,by rw [e.mn _ (k1.K h),e.mn _ hx.K];exact k2⟩
  ·exact .inr k1
 ·obtain ⟨k1,k2⟩:=k.n5 q;refine ⟨e.bn _ k1,fun k3=>?_⟩;rw [e.mn _ (k1.K h),e.mn _ hx.K];exact k2 (Classical.byContradiction fun k4=>e.gone _ k.B k4 k3)
theorem SpI.step (hc:c.Ok) {s:St} (h:OkG c g s.l) {x:Sp} (hx:SpI c g x) (hS:SpS c g x):∃ g',Goes c g s.l g' (x.step s).2.l no2 no1/\SpI c g' (x.step s).1/\SpS c g' (x.step s).1:=by
 have same:=Goes.same h no2 no1;have hsz:=xm hc;have hkb:=Wm hc h hx.K;have ht:=hc.t1;have ht8:=hc.t8;unfold Sp.step;by_cases hl:x.live=true
 ·rw [qf hl];unfold Sp.live at hl;simp only [Bool.or_eq_true,Bool.and_eq_true,decide_eq_true_eq] at hl
  have toHead:∀ y:Sp,y.c=c->y.chunk=x.chunk->y.mate=x.mate->y.repl=x.repl->y.stuck=x.stuck->y.m=g.M.F x.chunk 0->SpI c g y.head/\SpS c g y.head:=fun y e1 e2 e3 e4 e5 e6 =>
   ⟨⟨e1,by show g.K y.chunk;rw [e2];exact hx.K,by show y.mate=0\/g.K y.mate;rw [e3];exact hx.m,by show g.K y.repl/\g.M.F y.repl 0=g.M.F y.chunk 0;rw [e4,e2];exact hx.r,fun e=>by simp [Sp.head] at e,fun _=>.inr Ny,fun e=>by simp [Sp.head] at e,fun e=>by simp [Sp.head] at e,by show y.stuck=0\/g.K y.stuck;rw [e5];exact hx.st,by simp [Sp.head]⟩,
    by show Bn g y.chunk;rw [e2];exact hS.B,by show y.mate=0\/Bn g y.mate;rw [e3];exact hS.mB,by show g.M.F y.chunk 5=y.repl;rw [e2,e4];exact hS.rp,fun _=>by show y.m=g.M.F y.chunk 0;rw [e2];exact e6,fun _=>.inr Ny,fun e=>by simp [Sp.head] at e,fun e=>by simp [Sp.head] at e,by show y.stuck=0\/Bn g y.stuck;rw [e5];exact hS.sB⟩
  simp only;unfold Sp.act Sp.told Sp.next;by_cases l1:x.line=1
  ·rw [qf l1,qf l1,qf l1];exact ⟨g,same,toHead _ hx.cc rfl rfl rfl rfl (rd0 hc h hx.K)⟩
  ·rw [qd l1,qd l1,qd l1];by_cases l3:x.line=3
   ·rw [qf l3,qf l3,qf l3];have hcu:=hx.cu Lb;refine ⟨g,same,?_⟩;unfold Jw atW
    have fact:∀ v,v=qw s.l (wrap64 (x.cur+2))->(v % 2=1->g.K x.cur)/\(v / 2=0\/g.K (v / 2)):=fun v hv=>by
     rcases hcu with q | q
     ·rw [rd hc h q Lb Lb] at hv;refine ⟨fun _=>q,?_⟩;rw [hv];rcases h.ki.nx _ q with k | k
      ·exact .inl k.1
      ·exact .inr k.1
     ·obtain ⟨a,ha,e1,e2⟩:=h.ki.hd
      have hp:qw s.l (wrap64 (x.cur+2))=2 * a:=H3
      rw [hp] at hv;exact ⟨fun k=>by omega,.inr (by rw [show v / 2=a by omega];exact ha)⟩
    obtain ⟨f1,f2⟩:=fact _ rfl;have hcB:=hS.cB Lb;have hmm:=hS.mm Lb;have h15:=h.p15 hc
    have fact2:∀ v,v=qw s.l (wrap64 (x.cur+2))->(v % 2=1->Bn g x.cur)/\(¬ v % 2=1->v / 2=0->x.chunk∉g.L)/\(¬ v % 2=1->¬ v / 2=0->¬ v / 2=x.chunk->Bn g (v / 2)/\(x.chunk∈g.L->g.M.F (v / 2) 0<g.M.F x.chunk 0)):=fun v hv=>by
     have hcm:=h.ki.mn _ hx.K;rcases hcB with ⟨q,q2⟩ | q
     ·have qK:=q.K h;rw [rd hc h qK Lb Lb] at hv;have qm:=h.ki.mn _ qK;have inL:¬ v % 2=1->x.cur∈g.L:=fun k=>q.resolve_right (fun k2=>k (by rw [hv];exact k2.2.1))
      refine ⟨fun _=>q,fun k k2 k3=>?_,fun k k2 k3=>?_⟩
      ·rcases h.ki.nx _ qK with ⟨e1,e2⟩ | ⟨e1,e2⟩
       ·rcases h.tri hc (inL k) k3 (fun e=>by rw [e] at q2;omega) with r | r
        ·omega
        ·omega
       ·rw [<- hv,k2] at e1;have:=h15 _ e1;omega
      ·have hnB:=(h.bg.nx _ q).resolve_left (by rw [<- hv];exact k2);rw [<- hv] at hnB;refine ⟨hnB,fun k4=>?_⟩;rcases h.ki.nx _ qK with ⟨e1,e2⟩ | ⟨e1,e2⟩
       ·rw [<- hv] at e1;exact absurd e1 k2
       ·rw [<- hv] at e1 e2
        have nL:v / 2∈g.L:=by
         rcases Jm h.bg.cl (inL k) with r | r
         ·rw [<- hv] at r;exact absurd r k2
         ·rw [<- hv] at r;exact r
        have nm:=h.ki.mn _ e1;rcases h.tri hc (inL k) k4 (fun e=>by rw [e] at q2;omega) with r | r
        ·rcases h.tri hc nL k4 k3 with r2 | r2
         ·omega
         ·omega
        ·omega
     ·obtain ⟨a,ha,e1,e2⟩:=h.ki.hd
      have hp:qw s.l (wrap64 (x.cur+2))=2 * a:=H3
      rw [hp] at hv;have ev:v / 2=a:=by omega
      have:=h15 _ ha
      have aL:a∈g.L:=by have k:=h.bg.cl;rw [e1,show 2 * a / 2=a by omega] at k;exact Ex
      refine ⟨fun k=>by omega,fun k k2=>by omega,fun k k2 k3=>?_⟩;rw [ev] at k3 ⊢;refine ⟨.inl aL,fun k4=>?_⟩;have am:=h.ki.mn _ ha;rcases h.tri hc aL k4 k3 with r | r
      ·omega
      ·omega
    obtain ⟨p1,p2,p3⟩:=fact2 _ rfl;generalize qw s.l (wrap64 (x.cur+2))=v at *;split
    ·rename_i e;rw [decide_eq_true_eq] at e;exact ⟨⟨hx.cc,hx.K,hx.m,hx.r,fun e=>by simp at e,fun e=>by simp at e,fun e=>by simp at e,fun e=>by simp at e,.inr (f1 e),by simp⟩,hS.B,hS.mB,hS.rp,fun e=>by simp at e,fun e=>by simp at e,fun e=>by simp at e,fun e=>by simp at e,.inr (p1 e)⟩
    ·rename_i e;rw [decide_eq_true_eq] at e;split
     ·rename_i e2;exact ⟨⟨hx.cc,hx.K,hx.m,hx.r,fun e=>by simp at e,fun e=>by simp at e,fun e=>by simp at e,fun e=>by simp at e,hx.st,by simp⟩,hS.B,hS.mB,hS.rp,fun e=>by simp at e,fun e=>by simp at e,fun e=>by simp at e,fun _=>p2 e e2,hS.sB⟩
     ·rename_i e2;split
      ·rename_i e3;exact ⟨⟨hx.cc,hx.K,hx.m,hx.r,fun e=>by simp at e,fun _=>hcu,fun _=>⟨by simp only;omega,e3⟩,fun e=>by simp at e,hx.st,by simp⟩,hS.B,hS.mB,hS.rp,fun _=>hmm,fun _=>hcB,fun e=>by simp at e,fun e=>by simp at e,hS.sB⟩
      ·rename_i e3;exact ⟨⟨hx.cc,hx.K,hx.m,hx.r,fun e=>by simp at e,fun _=>hcu,fun e=>by simp at e,fun _=>f2.resolve_left e2,hx.st,by simp⟩,hS.B,hS.mB,hS.rp,fun _=>hmm,fun _=>hcB,fun _=>p3 e e2 e3,fun e=>by simp at e,hS.sB⟩
   ·rw [qd l3,qd l3,qd l3];by_cases l4:x.line=4
    ·rw [qf l4,qf l4,qf l4];obtain ⟨w1,w2⟩:=hx.w4 l4;have hrb:=Wm hc h hx.r.1;have hnw:jh x.repl false=2 * x.repl:=by unfold jh hd;simp only [Bool.false_eq_true,if_false];omega
     rw [hnw];have hrp:=hS.rp;have h5:g.M.F x.chunk 5≠0:=by rw [hrp];omega
     have mk:∀ g':Gst,Ext c g g'->x.chunk∉g'.L->SpI c g' { x with line:=6 } /\ SpS c g' { x with line:=6 }:=fun g' e eg =>
      ⟨⟨hx.cc,e.K _ hx.K,hx.m.imp id (e.K _),⟨e.K _ hx.r.1,by simp only;rw [e.mn _ hx.r.1,e.mn _ hx.K];exact hx.r.2⟩,fun e=>by simp at e,fun e=>by simp at e,fun e=>by simp at e,fun e=>by simp at e,hx.st.imp id (e.K _),by simp⟩,e.bn _ hS.B,hS.mB.imp id (e.bn _),by show g'.M.F x.chunk 5=x.repl;rw [e.rp _ hx.K h5];exact hrp,fun e=>by simp at e,fun e=>by simp at e,fun e=>by simp at e,fun _=>eg,hS.sB.imp id (e.bn _)⟩
     cases hcn:s.can (wrap64 (x.cur+2)) x.w with
     | true =>
      have hp:=jv hcn;simp only [if_true];rw [ji hcn];rcases hS.cB Lb with ⟨q,q2⟩ | q
      ·have qK:=q.K h;have hqb:=Wm hc h qK;rw [rd hc h qK Lb Lb] at hp;rw [Zu Lb Lb];have hev:g.M.F x.cur 2 % 2=0:=by omega
       have qL:x.cur∈g.L:=q.resolve_right (fun k=>by omega);have hnx:g.M.F x.cur 2 / 2=x.chunk:=by omega
       have cL:x.chunk∈g.L:=by
        rcases Jm h.bg.cl qL with r | r
        ·rw [hnx] at r;omega
        ·rw [hnx] at r;exact r
       obtain ⟨g',G,e1,-⟩:=q8v hc h qL hev hnx cL h5;exact Hy
      ·obtain ⟨a,ha,e1,e2⟩:=h.ki.hd;have e0:wrap64 (x.cur+2)=xn c+2:=by rw [q,Zu Mo Mo]
       rw [e0,h.rel.hn] at hp;rw [e0];obtain ⟨g',G,e1,-⟩:=q5l hc h (a:=x.chunk) Lb h5;exact Hy
     | false =>
      simp only [Bool.false_eq_true,if_false];rw [Q5 hcn,qd Lb];exact ⟨g,same,toHead _ hx.cc rfl rfl rfl rfl (hS.mm Lb)⟩
    ·rw [qd l4,qd l4,qd l4];by_cases l5:x.line=5
     ·rw [qf l5,qf l5];refine ⟨g,same,?_⟩;have hn:=hx.n5 l5;obtain ⟨n1,n2⟩:=hS.n5 l5;have hmm:=hS.mm Lb;rw [rd0 hc h hn];split
      ·rename_i e0;exact ⟨⟨hx.cc,hx.K,hx.m,hx.r,fun e=>by simp at e,fun e=>by simp at e,fun e=>by simp at e,fun e=>by simp at e,hx.st,by simp⟩,hS.B,hS.mB,hS.rp,fun e=>by simp at e,fun e=>by simp at e,fun e=>by simp at e,fun _ k=>by have:=n2 k;omega,hS.sB⟩
      ·rename_i e0;exact ⟨⟨hx.cc,hx.K,hx.m,hx.r,fun e=>by simp at e,fun _=>.inl hn,fun e=>by simp at e,fun e=>by simp at e,hx.st,by simp⟩,hS.B,hS.mB,hS.rp,fun _=>hmm,fun _=>.inl ⟨n1,by show g.M.F x.n 0<g.M.F x.chunk 0;omega⟩,fun e=>by simp at e,fun e=>by simp at e,hS.sB⟩
     ·rw [qd l5,qd l5];have hrp:=hS.rp;have hrb:=Wm hc h hx.r.1;have gL:=hS.g6 Lb
      have mk:∀ (g':Gst) (n:Int),Ext c g g'->(n=7->x.mate≠0)->(n=0\/n=7\/n=8)->SpI c g' { x with line:=n } /\ SpS c g' { x with line:=n }:=fun g' n e e7 en =>
       ⟨⟨hx.cc,e.K _ hx.K,hx.m.imp id (e.K _),⟨e.K _ hx.r.1,by simp only;rw [e.mn _ hx.r.1,e.mn _ hx.K];exact hx.r.2⟩,e7,fun e=>by simp only at e;omega,fun e=>by simp only at e;omega,fun e=>by simp only at e;omega,hx.st.imp id (e.K _),by simp only;omega⟩,e.bn _ hS.B,hS.mB.imp id (e.bn _),by show g'.M.F x.chunk 5=x.repl;rw [e.rp _ hx.K (by rw [hrp];omega)];exact hrp,fun e=>by simp only at e;omega,fun e=>by simp only at e;omega,fun e=>by simp only at e;omega,fun _=>e.gone _ hS.B gL,hS.sB.imp id (e.bn _)⟩
      by_cases l6:x.line=6
      ·rw [qf l6,qf l6,Xe,Zu Lb Lb];have G:=Zp hc h 2 hS.B Lb;refine ⟨_,G,?_⟩;split
       ·exact mk _ 8 G.ext Lb Lb
       ·rename_i e;exact mk _ 7 G.ext (fun _=>e) Lb
      ·rw [qd l6,qd l6];by_cases l7:x.line=7
       ·have hm:=hx.m.resolve_left (hx.m7 l7);have hmb:=Wm hc h hm;rw [qf l7,qf l7,Xe,Zu Lb Lb];have G:=Zp hc h 2 (hS.mB.resolve_left (hx.m7 l7)) Lb;exact ⟨_,G,mk _ 8 G.ext Lb Lb⟩
       ·rw [qd l7,qd l7,Xe];have e:x.hint=3+c.t+hd x.m 0 63 / 16:=by unfold Sp.hint Vr;rw [hx.cc]
        rw [e];have hB:=(h.bg.rp x.chunk hx.K (by rw [hrp];omega)).rb gL;rw [hrp] at hB;have G:=q59 hc h (k:=hd x.m 0 63 / 16) (by unfold hd;omega) hB;exact ⟨_,G,mk _ 0 G.ext Lb Lb⟩
 ·exact Hu
end
end Go.Proofs.YtleclbldlladmaaGreat.Mx
