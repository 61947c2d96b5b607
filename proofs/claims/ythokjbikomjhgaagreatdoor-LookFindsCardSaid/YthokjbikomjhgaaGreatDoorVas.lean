/- Parts. -/
import Derived.Test.YthokjbikomjhgaaGreatDoorVar
set_option linter.unusedVariables false
set_option linter.unusedSimpArgs false
set_option maxRecDepth 100000
set_option maxHeartbeats 12800000
namespace Go.Proofs.YthokjbikomjhgaaGreatDoor.Mx
open Go.RowKit Ar Ref
def qeb (w:World) (B:List Nat) (b:Nat) (x:Nd):Prop:=∃ lv,Va w b { x with lv:=lv } /\ Sq fI w lv x.l/\b∉lv.ownBlock.toList/\B=b :: lv.ownBlock.toList/\∀ k,k∈B->k<w.heap.size
theorem qeb.kept {S:List Nat} {w w':World} {B:List Nat} {b:Nat} {x:Nd} (h:qeb w B b x) (f:Fr S w w') (hS:∀ k,k∈B->k∉S):qeb w' B b x:=by obtain ⟨lv,h1,h2,h3,rfl,h5⟩:=h;exact ⟨lv,Ob.kept h1 f (hS b Ll),h2.kept f (fun g hg=>hS g (List.mem_cons_of_mem _ hg)),h3,rfl,fun k hk=>qj (h5 k hk) f.size⟩
theorem q2d (x:Nd) (lv:Value):({ x with lv:=lv }:Nd).on = { x.on with lv:=lv }:=by unfold Nd.on;simp only;split <;> rfl
theorem q3i (x:Nd) (lv:Value) (s:St):(({ x with lv:=lv }:Nd).step s).1 = { (x.step s).1 with lv:=lv } /\ (({ x with lv:=lv }:Nd).step s).2=(x.step s).2:=by
 have e1:∀ v,({ x with lv:=lv }:Nd).next v = { x.next v with lv:=lv }:=by intro v;unfold Nd.next;simp only;(repeat' split) <;> first | rfl | (unfold Nd.met;rw [<- q2d]) | (rw [<- q2d])
 unfold Nd.step;have e2:({ x with lv:=lv }:Nd).live=x.live:=rfl;have e3:({ x with lv:=lv }:Nd).told s=x.told s:=rfl;have e4:({ x with lv:=lv }:Nd).act s=x.act s:=rfl;rw [e2,e3,e4];split
 ·exact ⟨e1 _,rfl⟩
 ·exact ⟨rfl,rfl⟩
structure q1u (x:Nd):Prop where
 c:x.c.Ok
 t0:0<=x.t
 t8:x.t<=8
 l:(x.l.length:Int)<=x.t
 a:x.line≠0->x.t<x.c.t
theorem qba (l:List Int) (v:Int):(ins l v).length<=l.length+1:=by
 induction l with
 | nil=>simp [ins]
 | cons x r ih=>unfold ins;split <;> (try split) <;> simp <;> omega
theorem q1u.new {c:Cf} (hc:c.Ok):q1u (Nd.new c):=⟨hc,by simp [Nd.new],by simp [Nd.new],by simp [Nd.new],fun _=>by have:=hc.t1;simp [Nd.new];omega⟩
theorem q1u.on {x:Nd} (hc:x.c.Ok) (h0:0<=x.t) (h1:x.t<x.c.t) (hl:(x.l.length:Int)<=x.t+1):q1u x.on:=by
 have:=hc.t8;unfold Nd.on;split
 ·exact ⟨hc,by simp only;omega,by simp only;omega,by simp only;omega,fun h=>absurd rfl h⟩
 ·exact ⟨hc,by simp only;omega,by simp only;omega,by simp only;omega,fun _=>by simp only;omega⟩
theorem q1u.step {x:Nd} (h:q1u x) (s:St):q1u (x.step s).1:=by
 obtain ⟨hc,h0,h8,hl,ha⟩:=h;unfold Nd.step;split
 ·rename_i hv;unfold Nd.live at hv;simp only [Bool.and_eq_true,decide_eq_true_eq] at hv;have ht:=ha Lj;have h2:=qba x.l;unfold Nd.next;(repeat' split)
  ·exact I7
  ·exact Gh
  ·exact q1u.on hc h0 ht Me
  ·exact I7
  ·exact I7
  ·exact Gh
  ·exact q1u.on hc h0 ht Lj
 ·exact ⟨hc,h0,h8,hl,ha⟩
theorem q47 (x:Ld):x.eight.c=x.c:=by unfold Ld.eight Ld.toAlone;split <;> rfl
theorem q74 (x:Ld) (s:St):(x.step s).1.c=x.c:=by
 unfold Ld.step;split
 ·unfold Ld.next;simp only [apply_ite Ld.c,q47,Ld.toAlone,ite_self]
 ·rfl
theorem q60 (x:Sl) (s:St):(x.step s).1.c=x.c:=by
 unfold Sl.step;split
 ·unfold Sl.next;(repeat' split) <;> rfl
 ·rfl
theorem q5l (x:Sp) (s:St):(x.step s).1.c=x.c:=by
 unfold Sp.step;split
 ·unfold Sp.next Sp.head;(repeat' split) <;> rfl
 ·rfl
def q3f (w:World) (B:List Nat) (f:Fm) (sp np bp pp:Option Nat):Prop :=
 (f.part=1/\np=none/\f.n=none/\B=[]) \/
 (f.part=2/\np=none/\f.n=none/\∃ x sb,f.s=some x/\sp=some sb/\Yc w sb x/\B=[sb]) \/
 (f.part=3/\np=none/\f.n=none/\B=[]) \/
 (f.part=4/\np=none/\f.n=none/\B=[]) \/
 (f.part=4/\∃ x nb,f.n=some x/\np=some nb/\qeb w B nb x) \/
 (f.part=5/\∃ x bb,f.b=some x/\bp=some bb/\Sa w B bb x) \/
 (f.part=6/\∃ x pb,f.p=some x/\pp=some pb/\Zp w pb x/\B=[pb])
theorem q3f.lt {w:World} {B:List Nat} {f:Fm} {sp np bp pp:Option Nat} (h:q3f w B f sp np bp pp):∀ k,k∈B->k<w.heap.size:=by
 rcases h with ⟨-,-,-,rfl⟩ | ⟨-,-,-,x,sb,-,-,h,rfl⟩ | ⟨-,-,-,rfl⟩ | ⟨-,-,-,rfl⟩ | ⟨-,x,nb,-,-,h⟩ | ⟨-,x,bb,-,-,h⟩ | ⟨-,x,pb,-,-,h,rfl⟩
 ·simp
 ·exact Gf
 ·simp
 ·simp
 ·obtain ⟨lv,-,-,-,-,h5⟩:=h;exact h5
 ·exact h.lt
 ·exact Gf
theorem q3f.kept {S:List Nat} {w w':World} {B:List Nat} {f:Fm} {sp np bp pp:Option Nat} (h:q3f w B f sp np bp pp) (F:Fr S w w') (hS:∀ k,k∈B->k∉S):q3f w' B f sp np bp pp:=by
 rcases h with h | ⟨h1,h2,h3,x,sb,h4,h5,h,rfl⟩ | h | h | ⟨h1,x,nb,h2,h3,h⟩ | ⟨h1,x,bb,h2,h3,h⟩ | ⟨h1,x,pb,h2,h3,h,rfl⟩
 ·exact .inl h
 ·exact .inr (.inl ⟨h1,h2,h3,x,sb,h4,h5,Ob.kept h F (hS sb Ll),rfl⟩)
 ·exact .inr (.inr (.inl h))
 ·exact .inr (.inr (.inr (.inl h)))
 ·exact .inr (.inr (.inr (.inr (.inl ⟨h1,x,nb,h2,h3,h.kept F hS⟩))))
 ·exact .inr (.inr (.inr (.inr (.inr (.inl ⟨h1,x,bb,h2,h3,h.kept F hS⟩)))))
 ·exact .inr (.inr (.inr (.inr (.inr (.inr ⟨h1,x,pb,h2,h3,Ob.kept h F (hS pb Ll),rfl⟩)))))
def qa6 (w:World) (B:List Nat) (fb:Nat) (f:Fm):Prop:=∃ lb sp np bp pp Bx,Zz w fb f lb sp np bp pp/\yf w lb f.l/\q3f w Bx f sp np bp pp/\fb≠lb/\fb∉Bx/\lb∉Bx/\B=fb :: lb :: Bx
theorem qa6.lt {w:World} {B:List Nat} {fb:Nat} {f:Fm} (h:qa6 w B fb f):∀ k,k∈B->k<w.heap.size:=by obtain ⟨lb,sp,np,bp,pp,Bx,h1,h2,h3,-,-,-,rfl⟩:=h;exact Ed
theorem qa6.kept {S:List Nat} {w w':World} {B:List Nat} {fb:Nat} {f:Fm} (h:qa6 w B fb f) (F:Fr S w w') (hS:∀ k,k∈B->k∉S):qa6 w' B fb f:=by obtain ⟨lb,sp,np,bp,pp,Bx,h1,h2,h3,h4,h5,h6,rfl⟩:=h;exact ⟨lb,sp,np,bp,pp,Bx,Ob.kept h1 F (hS fb Ll),Ob.kept h2 F (hS lb Ll),h3.kept F (fun k hk=>hS k O0),h4,h5,h6,rfl⟩
structure qee (w:World) (R:List Nat) (b:Nat) (m:Md) (dv fv:Value) (fr:List (Nat×List Nat×Fm)):Prop where
 o:Zd w b m dv fv
 d:Sq fI w dv m.draws
 dr:∀ k,k∈dv.ownBlock.toList->k∈R
 fq:Sq fP w fv (fr.map (·.1))
 mf:m.f=fr.map (·.2.2)
 fm:∀ t,t∈fr->qa6 w t.2.1 t.1 t.2.2
 nf:b∉fv.ownBlock.toList
 nb:∀ t,t∈fr->b∉t.2.1/\∀ k,k∈t.2.1->k∉fv.ownBlock.toList
 pw:fr.Pairwise (fun s t=>∀ k,k∈s.2.1->k∉t.2.1)
 lt:∀ k,k∈fv.ownBlock.toList->k<w.heap.size
 rr:∀ k,k∈R->k<w.heap.size/\k≠b/\k∉fv.ownBlock.toList/\∀ t,t∈fr->k∉t.2.1
def mdB (b:Nat) (fv:Value) (fr:List (Nat×List Nat×Fm)):List Nat:=b :: (fv.ownBlock.toList++fr.flatMap (·.2.1))
def Ru (w:World) (R B:List Nat) (b:Nat) (m:Md):Prop:=∃ dv fv fr,qee w R b m dv fv fr/\B=mdB b fv fr
theorem ym {b k:Nat} {fv:Value} {fr:List (Nat×List Nat×Fm)}:k∈mdB b fv fr↔k=b\/k∈fv.ownBlock.toList\/∃ t,t∈fr/\k∈t.2.1:=by unfold mdB;rw [List.mem_cons,List.mem_append,List.mem_flatMap]
theorem Ru.lt {w:World} {R B:List Nat} {b:Nat} {m:Md} (h:Ru w R B b m):∀ k,k∈B->k<w.heap.size:=by
 obtain ⟨dv,fv,fr,h,rfl⟩:=h;intro k hk;rcases ym.1 hk with rfl | hk | ⟨t,ht,hk⟩
 ·exact Ob.lt h.o
 ·exact h.lt k hk
 ·exact (h.fm t ht).lt k hk
theorem Ru.kept {S:List Nat} {w w':World} {R B:List Nat} {b:Nat} {m:Md} (h:Ru w R B b m) (F:Fr S w w') (hS:∀ k,k∈B->k∉S) (hR:∀ k,k∈R->k∉S):Ru w' R B b m:=by obtain ⟨dv,fv,fr,h,rfl⟩:=h;refine ⟨dv,fv,fr,⟨Ob.kept h.o F (hS b (ym.2 (.inl rfl))),h.d.kept F (fun k hk=>hR k (h.dr k hk)),h.dr,h.fq.kept F (fun k hk=>hS k (ym.2 (.inr (.inl hk)))),h.mf,fun t ht=>(h.fm t ht).kept F (fun k hk=>hS k (ym.2 (.inr (.inr ⟨t,ht,hk⟩)))),h.nf,h.nb,h.pw,fun k hk=>qj (h.lt k hk) F.size,fun k hk=>⟨qj (h.rr k hk).1 F.size,(h.rr k hk).2⟩⟩,rfl⟩
theorem qar {w w':World} {R:List Nat} {b p q fb:Nat} {Bf:List Nat} {f:Fm} {m m':Md} {dv fv dv' fv':Value} {ini tl:List (Nat×List Nat×Fm)} (h:qee w R b m dv fv (ini++[(fb,Bf,f)]))
  (hp:p∉mdB b fv (ini++[(fb,Bf,f)])) (hq:q∉mdB b fv (ini++[(fb,Bf,f)])) (hpR:p∉R) (hqR:q∉R) {S:List Nat} (F:Fr S w w') (hS:∀ k,k∈S->k=p\/k=q\/k=b\/k∈Bf)
  (ho:Zd w' b m' dv' fv') (hd:Sq fI w' dv' m'.draws) (hdv:∀ k,k∈dv'.ownBlock.toList->k∈dv.ownBlock.toList)
  (hfq:Sq fP w' fv' ((ini++tl).map (·.1))) (hmf:m'.f=(ini++tl).map (·.2.2)) (hfm:∀ t,t∈tl->qa6 w' t.2.1 t.1 t.2.2) (hnew:∀ t,t∈tl->∀ k,k∈t.2.1->k∈Bf\/w.heap.size<=k)
  (hpw:tl.Pairwise (fun s t=>∀ k,k∈s.2.1->k∉t.2.1)) (hfv:∀ k,k∈fv'.ownBlock.toList->k∈fv.ownBlock.toList\/(w.heap.size<=k/\k<w'.heap.size/\∀ t,t∈tl->k∉t.2.1)) :
  ∃ B',Ru w' R B' b m'/\(∀ k,k∈B'->k∈mdB b fv (ini++[(fb,Bf,f)])\/w.heap.size<=k):=by
 have hb:=Ob.lt h.o;have hl:(fb,Bf,f)∈ini++[(fb,Bf,f)]:=by simp
 have hi:∀ t,t∈ini->t∈ini++[(fb,Bf,f)]:=fun t ht=>by simp [ht]
 have pwi:=(List.pairwise_append.1 h.pw).1;have pwc:∀ t,t∈ini->∀ k,k∈t.2.1->k∉Bf:=fun t ht=>(List.pairwise_append.1 h.pw).2.2 t ht (fb,Bf,f) Ll
 have iS:∀ t,t∈ini->∀ k,k∈t.2.1->k∉S:=fun t ht k hk hs=>by
  rcases hS k hs with rfl | rfl | rfl | e
  ·exact hp (ym.2 (.inr (.inr ⟨t,hi t ht,hk⟩)))
  ·exact hq (ym.2 (.inr (.inr ⟨t,hi t ht,hk⟩)))
  ·exact (h.nb t (hi t ht)).1 hk
  ·exact pwc t ht k hk e
 have ilt:∀ t,t∈ini->∀ k,k∈t.2.1->k<w.heap.size:=fun t ht=>(h.fm t (hi t ht)).lt
 have ffv:∀ k,k∈Bf->k∉fv.ownBlock.toList:=(h.nb _ hl).2
 have tb:∀ t,t∈tl->b∉t.2.1:=fun t ht hk=>by
  rcases hnew t ht b hk with e | e
  ·exact (h.nb _ hl).1 e
  ·omega
 refine ⟨_,⟨dv',fv',ini++tl,⟨ho,hd,fun k hk=>h.dr k (hdv k hk),hfq,hmf,fun t ht=>?_,fun hk=>?_,fun t ht=>?_,?_,fun k hk=>?_,fun k hk=>?_⟩,rfl⟩,fun k hk=>?_⟩
 ·rcases List.mem_append.1 ht with ht | ht
  ·exact (h.fm t (hi t ht)).kept F (iS t ht)
  ·exact hfm t ht
 ·rcases hfv b hk with e | e
  ·exact h.nf e
  ·omega
 ·rcases List.mem_append.1 ht with ht | ht
  ·refine ⟨(h.nb t (hi t ht)).1,fun k hk hv=>?_⟩;rcases hfv k hv with e | e
   ·exact (h.nb t (hi t ht)).2 k hk e
   ·have:=ilt t ht k hk;omega
  ·refine ⟨tb t ht,fun k hk hv=>?_⟩;rcases hfv k hv with e | e
   ·rcases hnew t ht k hk with e2 | e2
    ·exact ffv k e2 e
    ·have:=h.lt k e;omega
   ·exact e.2.2 t ht hk
 ·refine List.pairwise_append.2 ⟨pwi,hpw,fun s hs t ht k hk hk2=>?_⟩;rcases hnew t ht k hk2 with e | e
  ·exact pwc s hs k hk e
  ·have:=ilt s hs k hk;omega
 ·rcases hfv k hk with e | e
  ·exact qj (h.lt k e) F.size
  ·exact e.2.1
 ·obtain ⟨r1,r2,r3,r4⟩:=h.rr k hk;refine ⟨qj r1 F.size,r2,fun hv=>?_,fun t ht hv=>?_⟩
  ·rcases hfv k hv with e | e
   ·exact r3 e
   ·omega
  ·rcases List.mem_append.1 ht with ht | ht
   ·exact r4 t (hi t ht) hv
   ·rcases hnew t ht k hv with e | e
    ·exact r4 _ hl e
    ·omega
 ·rcases ym.1 hk with rfl | hk | ⟨t,ht,hk⟩
  ·exact .inl (ym.2 (.inl rfl))
  ·exact (hfv k hk).imp (fun e=>ym.2 (.inr (.inl e))) (fun e=>e.1)
  ·rcases List.mem_append.1 ht with ht | ht
   ·exact .inl (ym.2 (.inr (.inr ⟨t,hi t ht,hk⟩)))
   ·exact (hnew t ht k hk).imp (fun e=>ym.2 (.inr (.inr ⟨_,hl,e⟩))) id
structure q0w (c:Cf) (f:Fm):Prop where
 lc:f.l.c=c
 s:∀ x,f.s=some x->x.c=c
 n:∀ x,f.n=some x->q1u x
 b:∀ x,f.part=5->f.b=some x->Zl x
 p:∀ x,f.p=some x->x.c=c
structure Xg (N:Nat) (m:Md):Prop where
 c:m.c.Ok
 f:∀ g,g∈m.f->q0w m.c g
 len:m.f.length<=N
theorem Zf {w w':World} {R:List Nat} {b p q fb:Nat} {Bf:List Nat} {f:Fm} {m m':Md} {dv fv dv' fv':Value} {ini tl:List (Nat×List Nat×Fm)} (h:qee w R b m dv fv (ini++[(fb,Bf,f)]))
  (hp:p∉mdB b fv (ini++[(fb,Bf,f)])) (hq:q∉mdB b fv (ini++[(fb,Bf,f)])) (hpR:p∉R) (hqR:q∉R) {S:List Nat} (F:Fr S w w') (hS:∀ k,k∈S->k=p\/k=q\/k=b\/k∈Bf)
  {S':St} {over:Bool} {e:Ending} (he:e = .returned (.bool over)) (hA:Rar w' p q S')
  (ho:Zd w' b m' dv' fv') (hd:Sq fI w' dv' m'.draws) (hdv:∀ k,k∈dv'.ownBlock.toList->k∈dv.ownBlock.toList)
  (hfq:Sq fP w' fv' ((ini++tl).map (·.1))) (hmf:m'.f=(ini++tl).map (·.2.2)) (hfm:∀ t,t∈tl->qa6 w' t.2.1 t.1 t.2.2) (hnew:∀ t,t∈tl->∀ k,k∈t.2.1->k∈Bf\/w.heap.size<=k)
  (hpw:tl.Pairwise (fun s t=>∀ k,k∈s.2.1->k∉t.2.1)) (hfv:∀ k,k∈fv'.ownBlock.toList->k∈fv.ownBlock.toList\/(w.heap.size<=k/\k<w'.heap.size/\∀ t,t∈tl->k∉t.2.1)) :
  Stp w (fun w' B'=>Ru w' R B' b m') (mdB b fv (ini++[(fb,Bf,f)])) p q S' over e w':=by
 obtain ⟨B',h1,h2⟩:=qar h hp hq hpR hqR F hS ho hd hdv hfq hmf hfm hnew hpw hfv;refine ⟨he,⟨B',h1,h2⟩,hA,F.mono (fun k hk=>?_)⟩;simp only [List.mem_cons];rcases hS k hk with e | e | e | e
 ·exact .inl e
 ·exact .inr (.inl e)
 ·exact .inr (.inr (ym.2 (.inl e)))
 ·exact .inr (.inr (ym.2 (.inr (.inr ⟨(fb,Bf,f),by simp,e⟩))))
theorem qcg (N:Nat) (hN:N<=90000) (m:Md) (hm:Xg N m) (hne:m.f≠[]) (R B:List Nat) (b p q:Nat) (s:St) (w:World) (h:Ru w R B b m) (hA:Rar w p q s) (hp:p∉B) (hq:q∉B) (hpR:p∉R) (hqR:q∉R) :
  Calls Tryz.prog 190 #[.pointer (some ⟨b,0,none⟩),.pointer (some ⟨p,0,none⟩)] w (Stp w (fun w' B'=>Ru w' R B' b (m.step s).1) B p q (m.step s).2 (decide ((m.step s).1.f=[]))):=by
 obtain ⟨dv,fv,fr,h,rfl⟩:=h;rcases List.eq_nil_or_concat fr with rfl | ⟨ini,⟨fb,Bf,f⟩,rfl⟩
 ·exact absurd h.mf hne
 have hmf:=h.mf;rw [List.concat_eq_append] at h hp hq hmf ⊢;rw [List.map_append] at hmf;simp only [List.map_cons,List.map_nil] at hmf;have hgl:m.f.getLast? = some f:=by rw [hmf];simp
 have hdl:m.f.dropLast=ini.map (·.2.2):=by rw [hmf];simp
 have hl:((fb,Bf,f):Nat×List Nat×Fm)∈ini++[(fb,Bf,f)]:=by simp
 have hlen:ini.length<=99999:=by have:=hm.len;rw [hmf] at this;simp at this;omega
 have hfok:=hm.f f (by rw [hmf];simp);have hc:=hm.c;have hFq:=h.fq;rw [List.map_append] at hFq;simp only [List.map_cons,List.map_nil] at hFq;obtain ⟨lb,sp,np,bp,pp,Bx,hf,hL,hsub,nfl,nfx,nlx,hBf⟩:=h.fm _ hl;simp only at hf hL hsub hBf nfl nfx nlx;subst hBf;have fbm:∀ k,k∈fb :: lb :: Bx->k∈mdB b fv (ini++[(fb,fb :: lb :: Bx,f)]):=fun k hk=>ym.2 (.inr (.inr ⟨_,hl,hk⟩))
 have nbB:=(h.nb _ hl).1;have nvB:=(h.nb _ hl).2;simp only at nbB nvB;have npB:p∉fb :: lb :: Bx:=fun e=>hp (fbm p e)
 have nqB:q∉fb :: lb :: Bx:=fun e=>hq (fbm q e)
 have nbp:¬ b=p:=fun e=>hp (ym.2 (.inl e.symm))
 have nbq:¬ b=q:=fun e=>hq (ym.2 (.inl e.symm))
 have npv:p∉fv.ownBlock.toList:=fun e=>hp (ym.2 (.inr (.inl e)))
 have nqv:q∉fv.ownBlock.toList:=fun e=>hq (ym.2 (.inr (.inl e)))
 have rB:∀ k,k∈dv.ownBlock.toList->k∉fb :: lb :: Bx:=fun k hk=>(h.rr k (h.dr k hk)).2.2.2 _ hl
 have rb:b∉dv.ownBlock.toList:=fun hk=>(h.rr b (h.dr b hk)).2.1 rfl
 have rp:p∉dv.ownBlock.toList:=fun hk=>hpR (h.dr p hk)
 have rq:q∉dv.ownBlock.toList:=fun hk=>hqR (h.dr q hk)
 simp only [List.mem_cons,not_or] at nbB npB nqB;have nF:b∉fv.ownBlock.toList/\fb∉fv.ownBlock.toList/\lb∉fv.ownBlock.toList/\p∉fv.ownBlock.toList/\q∉fv.ownBlock.toList:=⟨h.nf,nvB fb Ll,nvB lb Ll,npv,nqv⟩;have nfp:¬ fb=p:=fun e=>npB.1 e.symm
 have nfq:¬ fb=q:=fun e=>nqB.1 e.symm
 have nlp:¬ lb=p:=fun e=>npB.2.1 e.symm
 have nlq:¬ lb=q:=fun e=>nqB.2.1 e.symm
 have hlen2:(ini.map (·.1)).length<=100000:=by simp;omega
 have hlen3:(ini.map (·.1)).length<=99999:=by simp;exact hlen
 have Sm:∀ (f':Fm),(ini.map (·.2.2)++[f']=([]:List Fm))=False:=fun f'=>by simp
 have keepF:∀ (S:List Nat) (w':World),Fr S w w'->(∀ k,k∈S->k=p\/k=q\/k=b\/k∈fb :: lb :: Bx)->Sq fP w' fv (ini.map (·.1)++[fb])/\Sq fI w' dv m.draws:=fun S w' F hS =>
  ⟨hFq.kept F (fun k hk hi=>by rcases hS k hi with rfl | rfl | rfl | e;exact npv hk;exact nqv hk;exact h.nf hk;exact nvB k e hk),h.d.kept F (fun k hk hi=>by rcases hS k hi with rfl | rfl | rfl | e;exact rp hk;exact rq hk;exact rb hk;exact rB k hk e)⟩
 rcases hsub with ⟨hpt,hnp,hn0,rfl⟩ | ⟨hpt,hnp,hn0,x,sb,hs,rfl,hS,rfl⟩ | ⟨hpt,hnp,hn0,rfl⟩ | ⟨hpt,hnp,hn0,rfl⟩ | ⟨hpt,x,nb,hn,rfl,hN⟩ | ⟨hpt,x,bb,hb,rfl,hB⟩ | ⟨hpt,x,pb,hp6,rfl,hP,rfl⟩
 ·-- part 1
  have e1:m.step s=({ (if (f.l.step s).1.drew=true/\f.l.drew=false/\m.draws≠[] then { m with draws:=m.draws.tail } else m) with f:=ini.map (·.2.2)++[if (f.l.step s).1.line=0 then { f with l:=(f.l.step s).1,part:=2,s:=some (Sl.new m.c (f.l.step s).1.three.1 (f.l.step s).1.three.2.1) } else { f with l:=(f.l.step s).1 }] },(f.l.step s).2):=by unfold Md.step;rw [hgl];simp only;rw [qf hpt,hdl]
  rw [e1];simp only [List.mem_cons,List.not_mem_nil,or_false,not_or,not_false_eq_true,and_true] at nbB npB nqB;refine (qcj m f hpt hc (by rw [hfok.lc];exact hc) b fb lb p q sp np bp pp dv fv (ini.map (·.1)) s w h.o hFq hlen2 hf hL hA nbB.1 nbB.2 nfl nbp nbq nfp nfq nlp nlq h.d ⟨rb,fun e=>rB fb e Ll,fun e=>rB lb e Ll,rp,rq⟩ nF).mono ?_;rintro e w' ⟨⟨⟨dv',hd',hdv',ho⟩,h2⟩,hL',hA',F,he⟩;have hSS:∀ k,k∈[b,fb,lb,p,q]->k=p\/k=q\/k=b\/k∈fb :: lb :: []:=fun k hk=>by simp at hk ⊢;rcases hk with h | h | h | h | h <;> simp [h]
  obtain ⟨k1,-⟩:=keepF _ w' F hSS;have hm':∀ (M:List Fm),Zd w' b ({ (if (f.l.step s).1.drew=true/\f.l.drew=false/\m.draws≠[] then { m with draws:=m.draws.tail } else m) with f:=M }:Md) dv' fv:=fun M=>by split <;> exact ho
  have hd2:∀ (M:List Fm),Sq fI w' dv' ({ (if (f.l.step s).1.drew=true/\f.l.drew=false/\m.draws≠[] then { m with draws:=m.draws.tail } else m) with f:=M }:Md).draws:=fun M=>by
   split
   ·rename_i hcd;rw [qf hcd] at hd';exact hd'
   ·rename_i hcd;rw [qd hcd] at hd';exact hd'
  rcases h2 with ⟨hl0,sb,hsb,hf',hs'⟩ | ⟨hl0,hf'⟩
  ·rw [qf hl0];have hfl:=(h.fm _ hl).lt;have b1:=hfl fb Ll;have b2:=hfl lb Ll;refine Zf (tl:=[(fb,fb :: lb :: [sb],{ f with l:=(f.l.step s).1,part:=2,s:=some (Sl.new m.c (f.l.step s).1.three.1 (f.l.step s).1.three.2.1) })]) h hp hq hpR hqR F hSS Nl hA' (hm' _) (hd2 _) hdv' Nc Ll (fun t ht=>?_) (fun t ht k hk=>?_) Ll (fun k hk=>.inl hk)
   ·rw [List.mem_singleton.1 ht];exact ⟨lb,some sb,np,bp,pp,[sb],hf',hL',.inr (.inl ⟨rfl,hnp,hn0,_,sb,rfl,rfl,hs',rfl⟩),nfl,by simp;omega,by simp;omega,rfl⟩
   ·rw [List.mem_singleton.1 ht] at hk;simp at hk;rcases hk with h | h | h
    ·exact .inl N7
    ·exact .inl N7
    ·exact .inr (by rw [h];exact hsb)
  ·rw [qd hl0];refine Zf (tl:=[(fb,fb :: lb :: [],{ f with l:=(f.l.step s).1 })]) h hp hq hpR hqR F hSS Nl hA' (hm' _) (hd2 _) hdv' Nc Ll (fun t ht=>?_) (fun t ht k hk=>?_) Ll (fun k hk=>.inl hk)
   ·rw [List.mem_singleton.1 ht];exact ⟨lb,sp,np,bp,pp,[],hf',hL',.inl ⟨hpt,hnp,hn0,rfl⟩,nfl,by simp,by simp,rfl⟩
   ·exact Fw
 ·simp only [List.mem_cons,List.not_mem_nil,or_false,not_or,not_false_eq_true,and_true] at nbB npB nqB nfx nlx
  have e1:m.step s=({ m with f:=ini.map (·.2.2)++[{ f with s:=some (x.step s).1,part:=if (x.step s).1.line=0 then 3 else 2 }] },(x.step s).2):=by unfold Md.step;rw [hgl];simp only;rw [qd Lj,qf hpt,hs,hdl]
  rw [e1];refine (qc6 m f hpt x (by rw [hfok.s x hs];exact hc) sb b fb lb p q (some sb) np bp pp dv fv (ini.map (·.1)) s w h.o hFq hlen2 hf hL hA nbB.1 nbB.2.1 nfl nbp nbq nfp nfq nlp nlq rfl hS (Ne.symm npB.2.2) (Ne.symm nqB.2.2) nbB.2.2 nfx nF).mono ?_;rintro e w' ⟨he,ho,hf',hS',hA',F⟩;have hSS:∀ k,k∈[fb,sb,p,q]->k=p\/k=q\/k=b\/k∈fb :: lb :: [sb]:=fun k hk=>by simp at hk ⊢;rcases hk with h | h | h | h <;> simp [h]
  obtain ⟨k1,k2⟩:=keepF _ w' F hSS;have kL:=Ob.kept hL F (by simp;exact ⟨Ne.symm nfl,nlx,nlp,nlq⟩);by_cases hl0:(x.step s).1.line=0
  ·rw [qf hl0] at hf' ⊢;refine Zf (tl:=[(fb,fb :: lb :: [],{ f with s:=some (x.step s).1,part:=3 })]) h hp hq hpR hqR F hSS Nl hA' ho k2 (fun k hk=>hk) Nc Ll (fun t ht=>?_) (fun t ht k hk=>?_) Ll (fun k hk=>.inl hk)
   ·rw [List.mem_singleton.1 ht];exact ⟨lb,some sb,np,bp,pp,[],hf',kL,.inr (.inr (.inl ⟨rfl,hnp,hn0,rfl⟩)),nfl,by simp,by simp,rfl⟩
   ·rw [List.mem_singleton.1 ht] at hk;exact .inl (by simp at hk ⊢;rcases hk with h | h <;> simp [h])
  ·rw [qd hl0] at hf' ⊢;refine Zf (tl:=[(fb,fb :: lb :: [sb],{ f with s:=some (x.step s).1,part:=2 })]) h hp hq hpR hqR F hSS Nl hA' ho k2 (fun k hk=>hk) Nc Ll (fun t ht=>?_) (fun t ht k hk=>?_) Ll (fun k hk=>.inl hk)
   ·rw [List.mem_singleton.1 ht];exact ⟨lb,some sb,np,bp,pp,[sb],hf',kL,.inr (.inl ⟨rfl,hnp,hn0,_,sb,rfl,rfl,hS',rfl⟩),nfl,by simpa using nfx,by simpa using nlx,rfl⟩
   ·exact Fw
 ·-- part 3
  have e1:m.step s=({ m with f:=ini.map (·.2.2)++[if qw s.l (wrap64 (f.l.three.1+5))=0 then { f with part:=4 } else f.splice m.c (qw s.l (wrap64 (f.l.three.1+5)))] },s.load (wrap64 (f.l.three.1+5))):=by unfold Md.step;rw [hgl];simp only;rw [qd Lj,qd Lj,qf hpt,hdl]
  rw [e1];simp only [List.mem_cons,List.not_mem_nil,or_false,not_or,not_false_eq_true,and_true] at nbB npB nqB;refine (qc8 m f hpt hc b fb lb p q sp np bp pp dv fv (ini.map (·.1)) s w h.o hFq hlen2 hf hL hA nbB.1 nbB.2 nfl nbp nbq nfp nfq nlp nlq nF).mono ?_;rintro e w' ⟨he,ho,hL',haf,hA',F⟩;have hSS:∀ k,k∈[fb,p,q]->k=p\/k=q\/k=b\/k∈fb :: lb :: []:=fun k hk=>by simp at hk ⊢;rcases hk with h | h | h <;> simp [h]
  obtain ⟨k1,k2⟩:=keepF _ w' F hSS;have hfl:=(h.fm _ hl).lt;have b1:=hfl fb Ll;have b2:=hfl lb Ll;rcases haf with ⟨hr,hf'⟩ | ⟨hr,pb,hpb,hf',hp'⟩
  ·rw [qf hr];refine Zf (tl:=[(fb,fb :: lb :: [],{ f with part:=4 })]) h hp hq hpR hqR F hSS Nl hA' ho k2 (fun k hk=>hk) Nc Ll (fun t ht=>?_) (fun t ht k hk=>?_) Ll (fun k hk=>.inl hk)
   ·rw [List.mem_singleton.1 ht];exact ⟨lb,sp,np,bp,pp,[],hf',hL',.inr (.inr (.inr (.inl ⟨rfl,hnp,hn0,rfl⟩))),nfl,by simp,by simp,rfl⟩
   ·exact Fw
  ·rw [qd hr];refine Zf (tl:=[(fb,fb :: lb :: [pb],f.splice m.c (qw s.l (wrap64 (f.l.three.1+5))))]) h hp hq hpR hqR F hSS Nl hA' ho k2 (fun k hk=>hk) Nc Ll (fun t ht=>?_) (fun t ht k hk=>?_) Ll (fun k hk=>.inl hk)
   ·rw [List.mem_singleton.1 ht];exact ⟨lb,sp,np,bp,some pb,[pb],hf',hL',.inr (.inr (.inr (.inr (.inr (.inr ⟨rfl,_,pb,rfl,rfl,hp',rfl⟩))))),nfl,by simp;omega,by simp;omega,rfl⟩
   ·exact Dc
 ·-- part 4,no need yet
  have e1:m.step s=({ m with f:=ini.map (·.2.2)++[{ f with n:=some (Nd.new m.c) }] },s.load 1):=by unfold Md.step;rw [hgl];simp only;rw [qd Lj,qd Lj,qd Lj,qf hpt,hn0,hdl]
  rw [e1];simp only [List.mem_cons,List.not_mem_nil,or_false,not_or,not_false_eq_true,and_true] at nbB npB nqB;refine (q9s m f hpt hc b fb lb p q sp np bp pp dv fv (ini.map (·.1)) s w h.o hFq hlen2 hf hL hA nbB.1 nbB.2 nfl nbp nbq nfp nfq nlp nlq hnp nF).mono ?_;rintro e w' ⟨he,ho,hL',⟨nb,hnb,hf',hn'⟩,hA',F⟩;have hSS:∀ k,k∈[fb,p,q]->k=p\/k=q\/k=b\/k∈fb :: lb :: []:=fun k hk=>by simp at hk ⊢;rcases hk with h | h | h <;> simp [h]
  obtain ⟨k1,k2⟩:=keepF _ w' F hSS;have hfl:=(h.fm _ hl).lt;have b1:=hfl fb Ll;have b2:=hfl lb Ll;refine Zf (tl:=[(fb,fb :: lb :: [nb],{ f with n:=some (Nd.new m.c) })]) h hp hq hpR hqR F hSS Nl hA' ho k2 (fun k hk=>hk) Nc Ll (fun t ht=>?_) (fun t ht k hk=>?_) Ll (fun k hk=>.inl hk)
  ·rw [List.mem_singleton.1 ht];exact ⟨lb,sp,some nb,bp,pp,[nb],hf',hL',.inr (.inr (.inr (.inr (.inl ⟨hpt,_,nb,rfl,rfl,.slice none 0 0,hn',Sq.nil _,by simp [Value.ownBlock],by simp [Value.ownBlock],fun k hk=>by simp at hk;subst hk;exact Ob.lt hn'⟩)))),nfl,by simp;omega,by simp;omega,rfl⟩
  ·rw [List.mem_singleton.1 ht] at hk;simp at hk;rcases hk with h | h | h
   ·exact .inl N7
   ·exact .inl N7
   ·exact .inr (by rw [h];exact hnb)
 ·obtain ⟨lv,hN1,hN2,hN3,rfl,hN5⟩:=hN
  have e1:m.step s=({ m with f:=ini.map (·.2.2)++[if (x.step s).1.line=0 then { f with n:=some (x.step s).1,part:=5,b:=some (Bd.new m.c f.l.three.1 f.l.three.2.1 f.l.three.2.2 (x.step s).1.l) } else { f with n:=some (x.step s).1 }] },(x.step s).2):=by unfold Md.step;rw [hgl];simp only;rw [qd Lj,qd Lj,qd Lj,qf hpt,hn,hdl]
  rw [e1];simp only [List.mem_cons,not_or] at nbB npB nqB nfx nlx;have hok:=hfok.n x hn;obtain ⟨sl1,sl2⟩:=q3i x lv s;refine (q89 m f hpt hc { x with lv:=lv } hok.c ⟨hok.t0,hok.t8⟩ (by have h1:=hok.l;have h2:=hok.t8;show x.l.length<=1000;omega) nb b fb lb p q sp (some nb) bp pp dv fv (ini.map (·.1)) s w h.o hFq hlen2 hf hL hA nbB.1 nbB.2.1 nfl nbp nbq nfp nfq nlp nlq rfl hN1 hN2 hN3 npB.2.2.2 nqB.2.2.2 (Ne.symm npB.2.2.1) (Ne.symm nqB.2.2.1) nbB.2.2.1 nfx.1 nlx.1 nfx.2 (fun k hk=>hN5 k O0) nF).mono ?_;rintro e w' ⟨he,ho,hL',haf,hA',F⟩;rw [sl2] at hA';rw [sl1] at haf;have hSS:∀ k,k∈[fb,nb,p,q]->k=p\/k=q\/k=b\/k∈fb :: lb :: (nb :: lv.ownBlock.toList):=fun k hk=>by simp at hk ⊢;rcases hk with h | h | h | h <;> simp [h]
  obtain ⟨k1,k2⟩:=keepF _ w' F hSS;have hfl:=(h.fm _ hl).lt;have b1:=hfl fb Ll;have b2:=hfl lb Ll;rcases haf with ⟨hl0,hf',lv',hn',hs',hlv⟩ | ⟨hl0,bb,B,hbb,hf',hB',hBs⟩
  ·replace hl0:(x.step s).1.line≠0:=hl0;replace hs':Sq fI w' lv' (x.step s).1.l:=hs';rw [qd hl0]
   have hsub:∀ k,k∈lv'.ownBlock.toList->k∈lv.ownBlock.toList\/w.heap.size<=k:=fun k hk=>by
    rcases hlv with e | ⟨-,e⟩
    ·rw [e] at hk;exact .inl hk
    ·exact .inr (e k hk)
   have hlt':∀ k,k∈lv'.ownBlock.toList->k<w'.heap.size:=fun k hk=>by
    rcases hlv with e | ⟨hne,-⟩
    ·rw [e] at hk;exact qj (hN5 k (by simp;exact .inr Ms)) F.size
    ·exact Qw hs' hne k hk
   have nn:nb∉lv'.ownBlock.toList:=fun hi=>by
    rcases hsub nb hi with e | e
    ·exact hN3 e
    ·have:=hN5 nb Ll;omega
   refine Zf (tl:=[(fb,fb :: lb :: (nb :: lv'.ownBlock.toList),{ f with n:=some (x.step s).1 })]) h hp hq hpR hqR F hSS Nl hA' ho k2 (fun k hk=>hk) Nc Ll (fun t ht=>?_) (fun t ht k hk=>?_) Ll (fun k hk=>.inl hk)
   ·rw [List.mem_singleton.1 ht];refine ⟨lb,sp,some nb,bp,pp,nb :: lv'.ownBlock.toList,hf',hL',.inr (.inr (.inr (.inr (.inl ⟨hpt,_,nb,rfl,rfl,lv',hn',hs',nn,rfl,fun k hk=>?_⟩)))),nfl,fun hi=>?_,fun hi=>?_,rfl⟩
    ·rcases List.mem_cons.1 hk with rfl | hk
     ·exact Ob.lt hn'
     ·exact hlt' k hk
    ·rcases List.mem_cons.1 hi with e | e
     ·exact nfx.1 e
     ·rcases hsub fb e with e | e
      ·exact nfx.2 e
      ·omega
    ·rcases List.mem_cons.1 hi with e | e
     ·exact nlx.1 e
     ·rcases hsub lb e with e | e
      ·exact nlx.2 e
      ·omega
   ·rw [List.mem_singleton.1 ht] at hk;rcases List.mem_cons.1 hk with h | hk
    ·exact .inl N7
    ·rcases List.mem_cons.1 hk with h | hk
     ·exact .inl N7
     ·rcases List.mem_cons.1 hk with h | hk
      ·exact .inl N7
      ·exact (hsub k hk).imp (fun e=>by simp only [List.mem_cons];exact .inr (.inr (.inr e))) id
  ·replace hl0:(x.step s).1.line=0:=hl0;rw [qf hl0];refine Zf (tl:=[(fb,fb :: lb :: B,{ f with n:=some (x.step s).1,part:=5,b:=some (Bd.new m.c f.l.three.1 f.l.three.2.1 f.l.three.2.2 (x.step s).1.l) })]) h hp hq hpR hqR F hSS Nl hA' ho k2 (fun k hk=>hk) Nc Ll (fun t ht=>?_) (fun t ht k hk=>?_) Ll (fun k hk=>.inl hk)
   ·rw [List.mem_singleton.1 ht];refine ⟨lb,sp,some nb,some bb,pp,B,hf',hL',.inr (.inr (.inr (.inr (.inr (.inl ⟨rfl,_,bb,rfl,rfl,hB'⟩))))),nfl,fun hi=>?_,fun hi=>?_,rfl⟩
    ·rcases hBs fb hi with e | e
     ·exact nfx.2 e
     ·omega
    ·rcases hBs lb hi with e | e
     ·exact nlx.2 e
     ·omega
   ·rw [List.mem_singleton.1 ht] at hk;rcases List.mem_cons.1 hk with h | hk
    ·exact .inl N7
    ·rcases List.mem_cons.1 hk with h | hk
     ·exact .inl N7
     ·exact (hBs k hk).imp (fun e=>by simp only [List.mem_cons];exact .inr (.inr (.inr e))) id
 ·-- part 5
  have e1:m.step s=(if (x.step s).1.line=0 then (if (x.step s).1.e=0 then { m with f:=ini.map (·.2.2)++[({ f with b:=some (x.step s).1 }:Fm).splice m.c (x.step s).1.repl] } else { m with e:=(x.step s).1.e,f:=[] }) else { m with f:=ini.map (·.2.2)++[{ f with b:=some (x.step s).1 }] },(x.step s).2):=by unfold Md.step;rw [hgl];simp only;rw [qd Lj,qd Lj,qd Lj,qd Lj,qf hpt,hb,hdl]
  rw [e1];refine (qbd m f hpt hc x (hfok.b x hpt hb) bb Bx b fb lb p q sp np (some bb) pp dv fv (ini.map (·.1)) s w h.o hFq hlen2 hf hL hA nbB.1 nbB.2.1 nfl nbp nbq nfp nfq nlp nlq rfl hB ⟨nbB.2.2,nfx,nlx,npB.2.2,nqB.2.2⟩ nF).mono ?_;rintro e w' ⟨haf,hL',hA',F⟩;have hSS:∀ k,k∈b :: fb :: p :: q :: Bx->k=p\/k=q\/k=b\/k∈fb :: lb :: Bx:=fun k hk=>by simp at hk ⊢;rcases hk with h | h | h | h | h <;> simp [h]
  obtain ⟨k1,k2⟩:=keepF _ w' F hSS;have hfl:=(h.fm _ hl).lt;have b1:=hfl fb Ll;have b2:=hfl lb Ll;rcases haf with ⟨hl0,he,ho,hf',B',hB',hBs⟩ | ⟨hl0,he0,he,ho,pb,hpb,hf',hp'⟩ | ⟨hl0,he0,he,ho⟩
  ·rw [qd hl0];refine Zf (tl:=[(fb,fb :: lb :: B',{ f with b:=some (x.step s).1 })]) h hp hq hpR hqR F hSS Nl hA' ho k2 (fun k hk=>hk) Nc Ll (fun t ht=>?_) (fun t ht k hk=>?_) Ll (fun k hk=>.inl hk)
   ·rw [List.mem_singleton.1 ht];refine ⟨lb,sp,np,some bb,pp,B',hf',hL',.inr (.inr (.inr (.inr (.inr (.inl ⟨hpt,_,bb,rfl,rfl,hB'⟩))))),nfl,fun hi=>?_,fun hi=>?_,rfl⟩
    ·rcases hBs fb hi with e | e
     ·exact nfx e
     ·omega
    ·rcases hBs lb hi with e | e
     ·exact nlx e
     ·omega
   ·rw [List.mem_singleton.1 ht] at hk;rcases List.mem_cons.1 hk with h | hk
    ·exact .inl N7
    ·rcases List.mem_cons.1 hk with h | hk
     ·exact .inl N7
     ·exact (hBs k hk).imp (fun e=>by simp only [List.mem_cons];exact .inr (.inr e)) id
  ·rw [qf hl0,qf he0];refine Zf (tl:=[(fb,fb :: lb :: [pb],({ f with b:=some (x.step s).1 }:Fm).splice m.c (x.step s).1.repl)]) h hp hq hpR hqR F hSS Nl hA' ho k2 (fun k hk=>hk) Nc Ll (fun t ht=>?_) (fun t ht k hk=>?_) Ll (fun k hk=>.inl hk)
   ·rw [List.mem_singleton.1 ht];exact ⟨lb,sp,np,some bb,some pb,[pb],hf',hL',.inr (.inr (.inr (.inr (.inr (.inr ⟨rfl,_,pb,rfl,rfl,hp',rfl⟩))))),nfl,by simp;omega,by simp;omega,rfl⟩
   ·exact Dc
  ·rw [qf hl0,qd he0];refine ⟨by rw [he];simp,⟨[b],⟨dv,.slice none 0 0,[],⟨ho,k2,h.dr,Sq.nil _,rfl,by simp,by simp [Value.ownBlock],by simp,by simp,by simp [Value.ownBlock],fun k hk=>⟨qj (h.rr k hk).1 F.size,(h.rr k hk).2.1,by simp [Value.ownBlock],by simp⟩⟩,by simp [mdB,Value.ownBlock]⟩,fun k hk=>by simp at hk;subst hk;exact .inl (ym.2 (.inl rfl))⟩,hA',F.mono (fun k hk=>?_)⟩;simp only [List.mem_cons];rcases hSS k hk with e | e | e | e
   ·exact .inl e
   ·exact .inr (.inl e)
   ·exact .inr (.inr (ym.2 (.inl e)))
   ·exact .inr (.inr (fbm k e))
 ·-- part 6
  have e1:m.step s=(if (x.step s).1.line=0 then (if (x.step s).1.stuck=0 then { m with f:=ini.map (·.2.2) } else { m with f:=ini.map (·.2.2)++[({ f with p:=some (x.step s).1 }:Fm).splice m.c f.repl,Fm.new m.c (x.step s).1.stuck (Jb m.draws)] }) else { m with f:=ini.map (·.2.2)++[{ f with p:=some (x.step s).1 }] },(x.step s).2):=by unfold Md.step;rw [hgl];simp only;rw [qd Lj,qd Lj,qd Lj,qd Lj,qd Lj,qf hpt,hp6,hdl]
  rw [e1];simp only [List.mem_cons,List.not_mem_nil,or_false,not_or,not_false_eq_true,and_true] at nbB npB nqB nfx nlx;have npv6:pb∉fv.ownBlock.toList:=nvB pb Ll;refine (qcf m f hpt hc x (by rw [hfok.p x hp6];exact hc) pb b fb lb p q sp np bp (some pb) dv fv (ini.map (·.1)) s w h.o hFq hlen2 hf hL hA nbB.1 nbB.2.1 nfl nbp nbq nfp nfq nlp nlq hlen3 rfl hP (Ne.symm npB.2.2) (Ne.symm nqB.2.2) nbB.2.2 nfx nlx h.d ⟨rb,fun e=>rB fb e Ll,fun e=>rB pb e Ll,rp,rq⟩ npv6 nF).mono ?_;rintro e w' ⟨he,hL',haf,hA',F⟩;have hSS:∀ k,k∈[b,fb,pb,p,q]->k=p\/k=q\/k=b\/k∈fb :: lb :: [pb]:=fun k hk=>by simp at hk ⊢;rcases hk with h | h | h | h | h <;> simp [h]
  obtain ⟨k1,k2⟩:=keepF _ w' F hSS;have hfl:=(h.fm _ hl).lt;have b1:=hfl fb Ll;have b2:=hfl lb Ll;rcases haf with ⟨hl0,ho,hf',hp'⟩ | ⟨hl0,hs0,fv',ho,hF',hsub⟩ | ⟨hl0,hs0,pb2,fv',fb2,lb2,ho,hF',hf',hp',hg',hq',s1,s2,s3,s4,s5,s6,s7⟩
  ·rw [qd hl0];have ov:Yv (x.step s).1 (ini.map (·.1))=false:=by unfold Yv;simp [hl0]
   refine Zf (tl:=[(fb,fb :: lb :: [pb],{ f with p:=some (x.step s).1 })]) h hp hq hpR hqR F hSS (by rw [he,ov];simp) hA' ho k2 (fun k hk=>hk) Nc Ll (fun t ht=>?_) (fun t ht k hk=>?_) Ll (fun k hk=>.inl hk)
   ·rw [List.mem_singleton.1 ht];exact ⟨lb,sp,np,bp,some pb,[pb],hf',hL',.inr (.inr (.inr (.inr (.inr (.inr ⟨hpt,_,pb,rfl,rfl,hp',rfl⟩))))),nfl,by simpa using nfx,by simpa using nlx,rfl⟩
   ·exact Fw
  ·rw [qf hl0,qf hs0];have ov:Yv (x.step s).1 (ini.map (·.1))=decide (ini.map (·.2.2)=([]:List Fm)):=by unfold Yv;simp [hl0,hs0]
   exact Zf (tl:=[]) h hp hq hpR hqR F hSS (by rw [he,ov]) hA' ho k2 (fun k hk=>hk) (by simpa using hF') Ll Ll Ll Ll (fun k hk=>.inl (hsub k hk))
  ·rw [qf hl0,qd hs0];have ov:Yv (x.step s).1 (ini.map (·.1))=false:=by unfold Yv;simp [hs0]
   refine Zf (tl:=[(fb,fb :: lb :: [pb2],({ f with p:=some (x.step s).1 }:Fm).splice m.c f.repl),(fb2,fb2 :: lb2 :: [],Fm.new m.c (x.step s).1.stuck (Jb m.draws))]) h hp hq hpR hqR F hSS (by rw [he,ov];simp) hA' ho k2 (fun k hk=>hk) (by simpa using hF') Ll (fun t ht=>?_) (fun t ht k hk=>?_) ?_ (fun k hk=>.inr ?_)
   ·simp only [List.mem_cons,List.not_mem_nil,or_false] at ht;rcases ht with rfl | rfl
    ·exact ⟨lb,sp,np,bp,some pb2,[pb2],hf',hL',.inr (.inr (.inr (.inr (.inr (.inr ⟨rfl,_,pb2,rfl,rfl,hp',rfl⟩))))),nfl,by simp;omega,by simp;omega,rfl⟩
    ·exact ⟨lb2,none,none,none,none,[],hg',hq',.inl ⟨rfl,rfl,rfl,rfl⟩,s6,by simp,by simp,rfl⟩
   ·simp only [List.mem_cons,List.not_mem_nil,or_false] at ht;rcases ht with rfl | rfl
    ·simp at hk;rcases hk with h | h | h
     ·exact .inl N7
     ·exact .inl N7
     ·exact .inr Lj
    ·simp at hk;rcases hk with h | h <;> exact .inr Lj
   ·simp;omega
   ·have:=s7 k hk;refine ⟨by omega,this.2.1,fun t ht hi=>?_⟩;simp only [List.mem_cons,List.not_mem_nil,or_false] at ht;rcases ht with rfl | rfl
    ·simp at hi;omega
    ·simp at hi;omega
theorem q0w.new {c:Cf} (chunk:Int) (d:Bool):q0w c (Fm.new c chunk d):=⟨rfl,fun x h=>Ox,fun x h=>Ox,fun x _ h=>Ox,fun x h=>Ox⟩
theorem q0w.splice {c:Cf} {f:Fm} (h:q0w c f) (r:Int):q0w c (f.splice c r):=⟨h.lc,h.s,h.n,fun x e=>by unfold Fm.splice at e;simp at e,fun x e=>by unfold Fm.splice at e;simp only [Option.some.injEq] at e;rw [<- e];rfl⟩
theorem Xg.put {N:Nat} {m:Md} (h:Xg N m) (hne:m.f≠[]) (ds:List Int) {g:Fm} (hg:q0w m.c g):Xg (N+1) { m with draws:=ds,f:=m.f.dropLast++[g] }:=by
 refine ⟨h.c,fun y hy=>?_,?_⟩
 ·rcases List.mem_append.1 hy with hy | hy
  ·exact h.f y (List.dropLast_subset _ hy)
  ·rw [List.mem_singleton.1 hy];exact hg
 ·exact Hu
theorem Xg.put2 {N:Nat} {m:Md} (h:Xg N m) (hne:m.f≠[]) {g g2:Fm} (hg:q0w m.c g) (hg2:q0w m.c g2):Xg (N+1) { m with f:=m.f.dropLast++[g,g2] }:=by
 refine ⟨h.c,fun y hy=>?_,?_⟩
 ·rcases List.mem_append.1 hy with hy | hy
  ·exact h.f y (List.dropLast_subset _ hy)
  ·simp only [List.mem_cons,List.not_mem_nil,or_false] at hy;rcases hy with rfl | rfl
   ·exact hg
   ·exact hg2
 ·exact Hu
theorem Xg.step {N:Nat} {m:Md} (h:Xg N m) (s:St):Xg (N+1) (m.step s).1:=by
 have same:Xg (N+1) m:=⟨h.c,h.f,by have:=h.len;omega⟩;unfold Md.step;cases hg:m.f.getLast? with
 | none=>exact same
 | some f =>
  have hfm:f∈m.f:=List.mem_of_getLast? hg;have hne:m.f≠[]:=List.ne_nil_of_mem hfm;obtain ⟨q1,q2,q3,q4,q5⟩:=h.f f hfm;have put:∀ g,q0w m.c g->Xg (N+1) { m with f:=m.f.dropLast++[g] }:=fun g hg=>h.put hne m.draws hg
  simp only;by_cases p1:f.part=1
  ·rw [qf p1];have hlc:(f.l.step s).1.c=m.c:=(q74 f.l s).trans q1
   have hg2:q0w m.c (if (f.l.step s).1.line=0 then { f with l:=(f.l.step s).1,part:=2,s:=some (Sl.new m.c (f.l.step s).1.three.1 (f.l.step s).1.three.2.1) } else { f with l:=(f.l.step s).1 }):=by
    split
    ·exact ⟨hlc,fun x e=>by simp only [Option.some.injEq] at e;rw [<- e];rfl,q3,fun x e=>by simp at e,q5⟩
    ·exact ⟨hlc,q2,q3,q4,q5⟩
   split
   ·exact h.put hne m.draws.tail hg2
   ·exact put _ hg2
  ·rw [qd p1];by_cases p2:f.part=2
   ·rw [qf p2];cases hs:f.s with
    | none=>exact same
    | some x=>exact put _ ⟨q1,fun y e=>by simp only [Option.some.injEq] at e;rw [<- e];exact (q60 x s).trans (q2 x hs),q3,fun y e=>by simp only at e;split at e <;> omega,q5⟩
   ·rw [qd p2];by_cases p3:f.part=3
    ·rw [qf p3];refine put _ ?_;split
     ·exact ⟨q1,q2,q3,fun x e=>by simp at e,q5⟩
     ·exact q0w.splice ⟨q1,q2,q3,q4,q5⟩ _
    ·rw [qd p3];by_cases p4:f.part=4
     ·rw [qf p4];cases hn:f.n with
      | none=>exact put _ ⟨q1,q2,fun y e=>by simp only [Option.some.injEq] at e;rw [<- e];exact q1u.new h.c,q4,q5⟩
      | some x =>
       have hx:=(q3 x hn).step s;refine put _ ?_;split
       ·exact ⟨q1,q2,fun y e=>by simp only [Option.some.injEq] at e;rw [<- e];exact hx,fun y _ e=>by simp only [Option.some.injEq] at e;rw [<- e];exact Zl.new h.c _ _ _ (by have h1:=hx.l;have h2:=hx.t8;omega),q5⟩
       ·exact ⟨q1,q2,fun y e=>by simp only [Option.some.injEq] at e;rw [<- e];exact hx,q4,q5⟩
     ·rw [qd p4];by_cases p5:f.part=5
      ·rw [qf p5];cases hb:f.b with
       | none=>exact same
       | some x =>
        have hx:=(q4 x p5 hb).step s;simp only;by_cases e0:(x.step s).1.line=0
        ·rw [qf e0];by_cases e1:(x.step s).1.e=0
         ·rw [qf e1];exact put _ ⟨q1,q2,q3,fun y e=>by unfold Fm.splice at e;simp at e,fun y e=>by unfold Fm.splice at e;simp only [Option.some.injEq] at e;rw [<- e];rfl⟩
         ·rw [qd e1];exact ⟨h.c,fun y hy=>by simp at hy,by simp⟩
        ·rw [qd e0];have hx2:Zl (x.step s).1:=hx.resolve_left e0;exact put _ ⟨q1,q2,q3,fun y _ e=>by simp only [Option.some.injEq] at e;rw [<- e];exact hx2,q5⟩
      ·rw [qd p5];by_cases p6:f.part=6
       ·rw [qf p6];cases hp:f.p with
        | none=>exact same
        | some x =>
         simp only;have hpc:∀ y:Sp,some (x.step s).1=some y->y.c=m.c:=fun y e=>by simp only [Option.some.injEq] at e;rw [<- e];exact (q5l x s).trans (q5 x hp)
         by_cases e0:(x.step s).1.line=0
         ·rw [qf e0];by_cases e1:(x.step s).1.stuck=0
          ·rw [qf e1];exact ⟨h.c,fun y hy=>h.f y (List.dropLast_subset _ hy),by have:=h.len;simp;omega⟩
          ·rw [qd e1];exact h.put2 hne (q0w.splice (f:={ f with p:=some (x.step s).1 }) ⟨q1,q2,q3,fun y e=>absurd e p5,hpc⟩ _) (q0w.new _ _)
         ·rw [qd e0];exact put _ ⟨q1,q2,q3,fun y e=>absurd e p5,hpc⟩
       ·rw [qd p6];exact same
theorem Xg.new {c:Cf} (hc:c.Ok) (chunk:Int) (ds:List Int):Xg 1 (Md.new c chunk ds):=⟨hc,fun g hg=>by unfold Md.new at hg;rw [List.mem_singleton.1 hg];exact q0w.new _ _,by simp [Md.new]⟩
theorem Kz (c:Cf) (hc:c.Ok) (chunk:Int) (ds:List Int) (dv:Value) (R:List Nat) (w:World) (hD:Sq fI w dv ds) (hdR:∀ k,k∈dv.ownBlock.toList->k∈R) (hR:∀ k,k∈R->k<w.heap.size) :
  Calls Tryz.prog 192 #[c.val,.int .i64 chunk,dv] w fun e w'=>∃ b B,e = .returned (.pointer (some ⟨b,0,none⟩))/\Ru w' R B b (Md.new c chunk ds)/\(∀ k,k∈B->w.heap.size<=k)/\Fr [] w w':=by
 obtain ⟨av,cv,rfl,hcv,hmv,-⟩:=id hD;unfold Cf.val;have F0:=(Fr.refl [] w).alloc (.cells #[.int .i64 c.t,.int .i64 c.c,.int .i64 c.wd,.int .i64 c.v] 23);obtain ⟨c0,c1,c2,c3⟩:=Pl.yp (Go.heap_alloc_new w (.cells #[.int .i64 c.t,.int .i64 c.c,.int .i64 c.wd,.int .i64 c.v] 23));go_enter Tryz.func192,Tryz.ntmps192;go_wp2_with fail;have ho:Zd _ (w.heap.size+1) ⟨c,ds,[],0⟩ (.slice av ds.length cv) (.slice none 0 0):=Ob.newAt (Yg w (.cells #[.int .i64 c.t,.int .i64 c.c,.int .i64 c.wd,.int .i64 c.v] 23)) _ _;have F1:=F0.alloc (.cells (MdC ⟨c,ds,[],0⟩ (.slice av ds.length cv) (.slice none 0 0)) 239);have hD1:=hD.up F1;refine (Wo ⟨c,ds,[],0⟩ hc chunk (w.heap.size+1) _ _ [] _ ho hD1 (Sq.nil _) Ll).mono ?_;rintro e w2 ⟨rfl,⟨fv',fb,lb,h2,F2v,g2,q2,s1,s2,s3,s4⟩,F2⟩;have hs:=F1.size;have hbl:=Ob.lt ho;have D2:Fr [] w w2:=F1.own F2 (fun i hi=>by simp at hi;omega);have hD2:=hD.up D2;go_wp2_with fail;go_ret;simp only [List.nil_append] at F2v;have hRl:∀ k,k∈R->k<w.heap.size:=hR;refine ⟨_,_,rfl,⟨_,fv',[(fb,fb :: lb :: [],Fm.new c chunk (Jb ds))],⟨h2,hD2,hdR,F2v,rfl,fun t ht=>?_,fun hi=>?_,fun t ht=>?_,by simp,fun k hk=>(s4 k hk).2.1,fun k hk=>?_⟩,rfl⟩,fun k hk=>?_,D2⟩
 ·rw [List.mem_singleton.1 ht];exact ⟨lb,none,none,none,none,[],g2,q2,.inl ⟨rfl,rfl,rfl,rfl⟩,s3,by simp,by simp,rfl⟩
 ·have:=(s4 _ hi).1;omega
 ·rw [List.mem_singleton.1 ht];refine ⟨by simp;omega,fun k hk hv=>?_⟩;have:=s4 k hv;simp at hk;rcases hk with e | e
  ·exact this.2.2.1 e
  ·exact this.2.2.2 e
 ·have:=hRl k hk;refine ⟨qj this D2.size,by omega,fun hv=>by have:=(s4 k hv).1;omega,fun t ht hi=>?_⟩;rw [List.mem_singleton.1 ht] at hi;simp at hi;omega
 ·rcases ym.1 hk with rfl | hk | ⟨t,ht,hk⟩
  ·omega
  ·have:=(s4 k hk).1;omega
  ·rw [List.mem_singleton.1 ht] at hk;simp at hk;omega
end Go.Proofs.YthokjbikomjhgaaGreatDoor.Mx
