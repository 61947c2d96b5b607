/- Parts. -/
import Derived.Test.YtleclbldlladmaaGreatVaa
import Derived.Test.YtleclbldlladmaaGreatVaq
set_option linter.unusedVariables false
set_option linter.unusedSimpArgs false
set_option maxRecDepth 100000
set_option maxHeartbeats 12800000
namespace Go.Proofs.YtleclbldlladmaaGreat.Mx
open Go.RowKit Ar Ref
def qdm (w:World) (B:List Nat) (b:Nat) (x:Nd):Prop:=∃ lv,Vg w b { x with lv:=lv } /\ Sq fI w lv x.l/\b∉lv.ownBlock.toList/\B=b :: lv.ownBlock.toList/\∀ k,k∈B->k<w.heap.size
theorem qdm.kept {S:List Nat} {w w':World} {B:List Nat} {b:Nat} {x:Nd} (h:qdm w B b x) (f:Fr S w w') (hS:∀ k,k∈B->k∉S):qdm w' B b x:=by obtain ⟨lv,h1,h2,h3,rfl,h5⟩:=h;exact ⟨lv,Ob.kept h1 f (hS b Lc),h2.kept f (fun g hg=>hS g (List.mem_cons_of_mem _ hg)),h3,rfl,fun k hk=>qj (h5 k hk) f.size⟩
theorem q28 (x:Nd) (lv:Value):({ x with lv:=lv }:Nd).on = { x.on with lv:=lv }:=by unfold Nd.on;simp only;split <;> rfl
theorem q4m (x:Nd) (lv:Value) (s:St):(({ x with lv:=lv }:Nd).step s).1 = { (x.step s).1 with lv:=lv } /\ (({ x with lv:=lv }:Nd).step s).2=(x.step s).2:=by
 have e1:∀ v,({ x with lv:=lv }:Nd).next v = { x.next v with lv:=lv }:=by intro v;unfold Nd.next;simp only;(repeat' split) <;> first | rfl | (unfold Nd.met;rw [<- q28]) | (rw [<- q28])
 unfold Nd.step;have e2:({ x with lv:=lv }:Nd).live=x.live:=rfl;have e3:({ x with lv:=lv }:Nd).told s=x.told s:=rfl;have e4:({ x with lv:=lv }:Nd).act s=x.act s:=rfl;rw [e2,e3,e4];split
 ·exact ⟨e1 _,rfl⟩
 ·exact ⟨rfl,rfl⟩
structure q0y (x:Nd):Prop where
 c:x.c.Ok
 t0:0<=x.t
 t8:x.t<=8
 l:(x.l.length:Int)<=x.t
 a:x.line≠0->x.t<x.c.t
theorem qbb (l:List Int) (v:Int):(ins l v).length<=l.length+1:=by
 induction l with
 | nil=>simp [ins]
 | cons x r ih=>unfold ins;split <;> (try split) <;> simp <;> omega
theorem q0y.new {c:Cf} (hc:c.Ok):q0y (Nd.new c):=⟨hc,by simp [Nd.new],by simp [Nd.new],by simp [Nd.new],fun _=>by have:=hc.t1;simp [Nd.new];omega⟩
theorem q0y.on {x:Nd} (hc:x.c.Ok) (h0:0<=x.t) (h1:x.t<x.c.t) (hl:(x.l.length:Int)<=x.t+1):q0y x.on:=by
 have:=hc.t8;unfold Nd.on;split
 ·exact ⟨hc,by simp only;omega,by simp only;omega,by simp only;omega,fun h=>absurd rfl h⟩
 ·exact ⟨hc,by simp only;omega,by simp only;omega,by simp only;omega,fun _=>by simp only;omega⟩
theorem q0y.step {x:Nd} (h:q0y x) (s:St):q0y (x.step s).1:=by
 obtain ⟨hc,h0,h8,hl,ha⟩:=h;unfold Nd.step;split
 ·rename_i hv;unfold Nd.live at hv;simp only [Bool.and_eq_true,decide_eq_true_eq] at hv;have ht:=ha Lb;have h2:=qbb x.l;unfold Nd.next;(repeat' split)
  ·exact I2
  ·exact Gb
  ·exact q0y.on hc h0 ht Ls
  ·exact I2
  ·exact I2
  ·exact Gb
  ·exact q0y.on hc h0 ht Lb
 ·exact ⟨hc,h0,h8,hl,ha⟩
theorem q3q (x:Ld):x.eight.c=x.c:=by unfold Ld.eight Ld.toAlone;split <;> rfl
theorem q74 (x:Ld) (s:St):(x.step s).1.c=x.c:=by
 unfold Ld.step;split
 ·unfold Ld.next;simp only [apply_ite Ld.c,q3q,Ld.toAlone,ite_self]
 ·rfl
theorem q6i (x:Sl) (s:St):(x.step s).1.c=x.c:=by
 unfold Sl.step;split
 ·unfold Sl.next;(repeat' split) <;> rfl
 ·rfl
theorem q7b (x:Sp) (s:St):(x.step s).1.c=x.c:=by
 unfold Sp.step;split
 ·unfold Sp.next Sp.head;(repeat' split) <;> rfl
 ·rfl
def q4f (w:World) (B:List Nat) (f:Fm) (sp np bp pp:Option Nat):Prop :=
 (f.part=1/\np=none/\f.n=none/\B=[]) \/
 (f.part=2/\np=none/\f.n=none/\∃ x sb,f.s=some x/\sp=some sb/\Y4 w sb x/\B=[sb]) \/
 (f.part=3/\np=none/\f.n=none/\B=[]) \/
 (f.part=4/\np=none/\f.n=none/\B=[]) \/
 (f.part=4/\∃ x nb,f.n=some x/\np=some nb/\qdm w B nb x) \/
 (f.part=5/\∃ x bb,f.b=some x/\bp=some bb/\Ra w B bb x) \/
 (f.part=6/\∃ x pb,f.p=some x/\pp=some pb/\Zm w pb x/\B=[pb])
theorem q4f.lt {w:World} {B:List Nat} {f:Fm} {sp np bp pp:Option Nat} (h:q4f w B f sp np bp pp):∀ k,k∈B->k<w.heap.size:=by
 rcases h with ⟨-,-,-,rfl⟩ | ⟨-,-,-,x,sb,-,-,h,rfl⟩ | ⟨-,-,-,rfl⟩ | ⟨-,-,-,rfl⟩ | ⟨-,x,nb,-,-,h⟩ | ⟨-,x,bb,-,-,h⟩ | ⟨-,x,pb,-,-,h,rfl⟩
 ·simp
 ·exact Fu
 ·simp
 ·simp
 ·obtain ⟨lv,-,-,-,-,h5⟩:=h;exact h5
 ·exact h.lt
 ·exact Fu
theorem q4f.kept {S:List Nat} {w w':World} {B:List Nat} {f:Fm} {sp np bp pp:Option Nat} (h:q4f w B f sp np bp pp) (F:Fr S w w') (hS:∀ k,k∈B->k∉S):q4f w' B f sp np bp pp:=by
 rcases h with h | ⟨h1,h2,h3,x,sb,h4,h5,h,rfl⟩ | h | h | ⟨h1,x,nb,h2,h3,h⟩ | ⟨h1,x,bb,h2,h3,h⟩ | ⟨h1,x,pb,h2,h3,h,rfl⟩
 ·exact .inl h
 ·exact .inr (.inl ⟨h1,h2,h3,x,sb,h4,h5,Ob.kept h F (hS sb Lc),rfl⟩)
 ·exact .inr (.inr (.inl h))
 ·exact .inr (.inr (.inr (.inl h)))
 ·exact .inr (.inr (.inr (.inr (.inl ⟨h1,x,nb,h2,h3,h.kept F hS⟩))))
 ·exact .inr (.inr (.inr (.inr (.inr (.inl ⟨h1,x,bb,h2,h3,h.kept F hS⟩)))))
 ·exact .inr (.inr (.inr (.inr (.inr (.inr ⟨h1,x,pb,h2,h3,Ob.kept h F (hS pb Lc),rfl⟩)))))
def q9v (w:World) (B:List Nat) (fb:Nat) (f:Fm):Prop:=∃ lb sp np bp pp Bx,Zo w fb f lb sp np bp pp/\yd w lb f.l/\q4f w Bx f sp np bp pp/\fb≠lb/\fb∉Bx/\lb∉Bx/\B=fb :: lb :: Bx
theorem q9v.lt {w:World} {B:List Nat} {fb:Nat} {f:Fm} (h:q9v w B fb f):∀ k,k∈B->k<w.heap.size:=by obtain ⟨lb,sp,np,bp,pp,Bx,h1,h2,h3,-,-,-,rfl⟩:=h;exact Dz
theorem q9v.kept {S:List Nat} {w w':World} {B:List Nat} {fb:Nat} {f:Fm} (h:q9v w B fb f) (F:Fr S w w') (hS:∀ k,k∈B->k∉S):q9v w' B fb f:=by obtain ⟨lb,sp,np,bp,pp,Bx,h1,h2,h3,h4,h5,h6,rfl⟩:=h;exact ⟨lb,sp,np,bp,pp,Bx,Ob.kept h1 F (hS fb Lc),Ob.kept h2 F (hS lb Lc),h3.kept F (fun k hk=>hS k Ns),h4,h5,h6,rfl⟩
structure qdr (w:World) (R:List Nat) (b:Nat) (m:Md) (dv fv:Value) (fr:List (Nat×List Nat×Fm)):Prop where
 o:Z4 w b m dv fv
 d:Sq fI w dv m.draws
 dr:∀ k,k∈dv.ownBlock.toList->k∈R
 fq:Sq fP w fv (fr.map (·.1))
 mf:m.f=fr.map (·.2.2)
 fm:∀ t,t∈fr->q9v w t.2.1 t.1 t.2.2
 nf:b∉fv.ownBlock.toList
 nb:∀ t,t∈fr->b∉t.2.1/\∀ k,k∈t.2.1->k∉fv.ownBlock.toList
 pw:fr.Pairwise (fun s t=>∀ k,k∈s.2.1->k∉t.2.1)
 lt:∀ k,k∈fv.ownBlock.toList->k<w.heap.size
 rr:∀ k,k∈R->k<w.heap.size/\k≠b/\k∉fv.ownBlock.toList/\∀ t,t∈fr->k∉t.2.1
def mdB (b:Nat) (fv:Value) (fr:List (Nat×List Nat×Fm)):List Nat:=b :: (fv.ownBlock.toList++fr.flatMap (·.2.1))
def Sr (w:World) (R B:List Nat) (b:Nat) (m:Md):Prop:=∃ dv fv fr,qdr w R b m dv fv fr/\B=mdB b fv fr
theorem ym {b k:Nat} {fv:Value} {fr:List (Nat×List Nat×Fm)}:k∈mdB b fv fr↔k=b\/k∈fv.ownBlock.toList\/∃ t,t∈fr/\k∈t.2.1:=by unfold mdB;rw [List.mem_cons,List.mem_append,List.mem_flatMap]
theorem Sr.lt {w:World} {R B:List Nat} {b:Nat} {m:Md} (h:Sr w R B b m):∀ k,k∈B->k<w.heap.size:=by
 obtain ⟨dv,fv,fr,h,rfl⟩:=h;intro k hk;rcases ym.1 hk with rfl | hk | ⟨t,ht,hk⟩
 ·exact Ob.lt h.o
 ·exact h.lt k hk
 ·exact (h.fm t ht).lt k hk
theorem Sr.kept {S:List Nat} {w w':World} {R B:List Nat} {b:Nat} {m:Md} (h:Sr w R B b m) (F:Fr S w w') (hS:∀ k,k∈B->k∉S) (hR:∀ k,k∈R->k∉S):Sr w' R B b m:=by obtain ⟨dv,fv,fr,h,rfl⟩:=h;refine ⟨dv,fv,fr,⟨Ob.kept h.o F (hS b (ym.2 (.inl rfl))),h.d.kept F (fun k hk=>hR k (h.dr k hk)),h.dr,h.fq.kept F (fun k hk=>hS k (ym.2 (.inr (.inl hk)))),h.mf,fun t ht=>(h.fm t ht).kept F (fun k hk=>hS k (ym.2 (.inr (.inr ⟨t,ht,hk⟩)))),h.nf,h.nb,h.pw,fun k hk=>qj (h.lt k hk) F.size,fun k hk=>⟨qj (h.rr k hk).1 F.size,(h.rr k hk).2⟩⟩,rfl⟩
theorem qb3 {w w':World} {R:List Nat} {b p q fb:Nat} {Bf:List Nat} {f:Fm} {m m':Md} {dv fv dv' fv':Value} {ini tl:List (Nat×List Nat×Fm)} (h:qdr w R b m dv fv (ini++[(fb,Bf,f)]))
  (hp:p∉mdB b fv (ini++[(fb,Bf,f)])) (hq:q∉mdB b fv (ini++[(fb,Bf,f)])) (hpR:p∉R) (hqR:q∉R) {S:List Nat} (F:Fr S w w') (hS:∀ k,k∈S->k=p\/k=q\/k=b\/k∈Bf)
  (ho:Z4 w' b m' dv' fv') (hd:Sq fI w' dv' m'.draws) (hdv:∀ k,k∈dv'.ownBlock.toList->k∈dv.ownBlock.toList)
  (hfq:Sq fP w' fv' ((ini++tl).map (·.1))) (hmf:m'.f=(ini++tl).map (·.2.2)) (hfm:∀ t,t∈tl->q9v w' t.2.1 t.1 t.2.2) (hnew:∀ t,t∈tl->∀ k,k∈t.2.1->k∈Bf\/w.heap.size<=k)
  (hpw:tl.Pairwise (fun s t=>∀ k,k∈s.2.1->k∉t.2.1)) (hfv:∀ k,k∈fv'.ownBlock.toList->k∈fv.ownBlock.toList\/(w.heap.size<=k/\k<w'.heap.size/\∀ t,t∈tl->k∉t.2.1)) :
  ∃ B',Sr w' R B' b m'/\(∀ k,k∈B'->k∈mdB b fv (ini++[(fb,Bf,f)])\/w.heap.size<=k):=by
 have hb:=Ob.lt h.o;have hl:(fb,Bf,f)∈ini++[(fb,Bf,f)]:=by simp
 have hi:∀ t,t∈ini->t∈ini++[(fb,Bf,f)]:=fun t ht=>by simp [ht]
 have pwi:=(List.pairwise_append.1 h.pw).1;have pwc:∀ t,t∈ini->∀ k,k∈t.2.1->k∉Bf:=fun t ht=>(List.pairwise_append.1 h.pw).2.2 t ht (fb,Bf,f) Lc
 have iS:∀ t,t∈ini->∀ k,k∈t.2.1->k∉S:=fun t ht k hk hs=>by
  rcases hS k hs with rfl | rfl | rfl | e
  ·exact hp (ym.2 (.inr (.inr ⟨t,hi t ht,hk⟩)))
  ·exact hq (ym.2 (.inr (.inr ⟨t,hi t ht,hk⟩)))
  ·exact (h.nb t (hi t ht)).1 hk
  ·exact pwc t ht k hk e
 have ilt:∀ t,t∈ini->∀ k,k∈t.2.1->k<w.heap.size:=fun t ht=>(h.fm t (hi t ht)).lt
 have ffv:∀ k,k∈Bf->k∉fv.ownBlock.toList:=(h.nb _ hl).2
 have tb:∀ t,t∈tl->b∉t.2.1:=fun t ht hk=>by
  rcases hnew t ht b hk with e | e
  ·exact (h.nb _ hl).1 e
  ·omega
 refine ⟨_,⟨dv',fv',ini++tl,⟨ho,hd,fun k hk=>h.dr k (hdv k hk),hfq,hmf,fun t ht=>?_,fun hk=>?_,fun t ht=>?_,?_,fun k hk=>?_,fun k hk=>?_⟩,rfl⟩,fun k hk=>?_⟩
 ·rcases List.mem_append.1 ht with ht | ht
  ·exact (h.fm t (hi t ht)).kept F (iS t ht)
  ·exact hfm t ht
 ·rcases hfv b hk with e | e
  ·exact h.nf e
  ·omega
 ·rcases List.mem_append.1 ht with ht | ht
  ·refine ⟨(h.nb t (hi t ht)).1,fun k hk hv=>?_⟩;rcases hfv k hv with e | e
   ·exact (h.nb t (hi t ht)).2 k hk e
   ·have:=ilt t ht k hk;omega
  ·refine ⟨tb t ht,fun k hk hv=>?_⟩;rcases hfv k hv with e | e
   ·rcases hnew t ht k hk with e2 | e2
    ·exact ffv k e2 e
    ·have:=h.lt k e;omega
   ·exact e.2.2 t ht hk
 ·refine List.pairwise_append.2 ⟨pwi,hpw,fun s hs t ht k hk hk2=>?_⟩;rcases hnew t ht k hk2 with e | e
  ·exact pwc s hs k hk e
  ·have:=ilt s hs k hk;omega
 ·rcases hfv k hk with e | e
  ·exact qj (h.lt k e) F.size
  ·exact e.2.1
 ·obtain ⟨r1,r2,r3,r4⟩:=h.rr k hk;refine ⟨qj r1 F.size,r2,fun hv=>?_,fun t ht hv=>?_⟩
  ·rcases hfv k hv with e | e
   ·exact r3 e
   ·omega
  ·rcases List.mem_append.1 ht with ht | ht
   ·exact r4 t (hi t ht) hv
   ·rcases hnew t ht k hv with e | e
    ·exact r4 _ hl e
    ·omega
 ·rcases ym.1 hk with rfl | hk | ⟨t,ht,hk⟩
  ·exact .inl (ym.2 (.inl rfl))
  ·exact (hfv k hk).imp (fun e=>ym.2 (.inr (.inl e))) (fun e=>e.1)
  ·rcases List.mem_append.1 ht with ht | ht
   ·exact .inl (ym.2 (.inr (.inr ⟨t,hi t ht,hk⟩)))
   ·exact (hnew t ht k hk).imp (fun e=>ym.2 (.inr (.inr ⟨_,hl,e⟩))) id
structure q0r (c:Cf) (f:Fm):Prop where
 lc:f.l.c=c
 s:∀ x,f.s=some x->x.c=c
 n:∀ x,f.n=some x->q0y x
 b:∀ x,f.part=5->f.b=some x->Zg x
 p:∀ x,f.p=some x->x.c=c
structure Xg (N:Nat) (m:Md):Prop where
 c:m.c.Ok
 f:∀ g,g∈m.f->q0r m.c g
 len:m.f.length<=N
theorem Za {w w':World} {R:List Nat} {b p q fb:Nat} {Bf:List Nat} {f:Fm} {m m':Md} {dv fv dv' fv':Value} {ini tl:List (Nat×List Nat×Fm)} (h:qdr w R b m dv fv (ini++[(fb,Bf,f)]))
  (hp:p∉mdB b fv (ini++[(fb,Bf,f)])) (hq:q∉mdB b fv (ini++[(fb,Bf,f)])) (hpR:p∉R) (hqR:q∉R) {S:List Nat} (F:Fr S w w') (hS:∀ k,k∈S->k=p\/k=q\/k=b\/k∈Bf)
  {S':St} {over:Bool} {e:Ending} (he:e = .returned (.bool over)) (hA:Rar w' p q S')
  (ho:Z4 w' b m' dv' fv') (hd:Sq fI w' dv' m'.draws) (hdv:∀ k,k∈dv'.ownBlock.toList->k∈dv.ownBlock.toList)
  (hfq:Sq fP w' fv' ((ini++tl).map (·.1))) (hmf:m'.f=(ini++tl).map (·.2.2)) (hfm:∀ t,t∈tl->q9v w' t.2.1 t.1 t.2.2) (hnew:∀ t,t∈tl->∀ k,k∈t.2.1->k∈Bf\/w.heap.size<=k)
  (hpw:tl.Pairwise (fun s t=>∀ k,k∈s.2.1->k∉t.2.1)) (hfv:∀ k,k∈fv'.ownBlock.toList->k∈fv.ownBlock.toList\/(w.heap.size<=k/\k<w'.heap.size/\∀ t,t∈tl->k∉t.2.1)) :
  Stp w (fun w' B'=>Sr w' R B' b m') (mdB b fv (ini++[(fb,Bf,f)])) p q S' over e w':=by
 obtain ⟨B',h1,h2⟩:=qb3 h hp hq hpR hqR F hS ho hd hdv hfq hmf hfm hnew hpw hfv;refine ⟨he,⟨B',h1,h2⟩,hA,F.mono (fun k hk=>?_)⟩;simp only [List.mem_cons];rcases hS k hk with e | e | e | e
 ·exact .inl e
 ·exact .inr (.inl e)
 ·exact .inr (.inr (ym.2 (.inl e)))
 ·exact .inr (.inr (ym.2 (.inr (.inr ⟨(fb,Bf,f),by simp,e⟩))))
theorem qau (N:Nat) (hN:N<=5000000) (m:Md) (hm:Xg N m) (hne:m.f≠[]) (R B:List Nat) (b p q:Nat) (s:St) (w:World) (h:Sr w R B b m) (hA:Rar w p q s) (hp:p∉B) (hq:q∉B) (hpR:p∉R) (hqR:q∉R) :
  Calls Tryz.prog 87 #[.pointer (some ⟨b,0,none⟩),.pointer (some ⟨p,0,none⟩)] w (Stp w (fun w' B'=>Sr w' R B' b (m.step s).1) B p q (m.step s).2 (decide ((m.step s).1.f=[]))):=by
 obtain ⟨dv,fv,fr,h,rfl⟩:=h;rcases List.eq_nil_or_concat fr with rfl | ⟨ini,⟨fb,Bf,f⟩,rfl⟩
 ·exact absurd h.mf hne
 have hmf:=h.mf;rw [List.concat_eq_append] at h hp hq hmf ⊢;rw [List.map_append] at hmf;simp only [List.map_cons,List.map_nil] at hmf;have hgl:m.f.getLast? = some f:=by rw [hmf];simp
 have hdl:m.f.dropLast=ini.map (·.2.2):=by rw [hmf];simp
 have hl:((fb,Bf,f):Nat×List Nat×Fm)∈ini++[(fb,Bf,f)]:=by simp
 have hlen:ini.length<=9999999:=by have:=hm.len;rw [hmf] at this;simp at this;omega
 have hfok:=hm.f f (by rw [hmf];simp);have hc:=hm.c;have hFq:=h.fq;rw [List.map_append] at hFq;simp only [List.map_cons,List.map_nil] at hFq;obtain ⟨lb,sp,np,bp,pp,Bx,hf,hL,hsub,nfl,nfx,nlx,hBf⟩:=h.fm _ hl;simp only at hf hL hsub hBf nfl nfx nlx;subst hBf;have fbm:∀ k,k∈fb :: lb :: Bx->k∈mdB b fv (ini++[(fb,fb :: lb :: Bx,f)]):=fun k hk=>ym.2 (.inr (.inr ⟨_,hl,hk⟩))
 have nbB:=(h.nb _ hl).1;have nvB:=(h.nb _ hl).2;simp only at nbB nvB;have npB:p∉fb :: lb :: Bx:=fun e=>hp (fbm p e)
 have nqB:q∉fb :: lb :: Bx:=fun e=>hq (fbm q e)
 have nbp:¬ b=p:=fun e=>hp (ym.2 (.inl e.symm))
 have nbq:¬ b=q:=fun e=>hq (ym.2 (.inl e.symm))
 have npv:p∉fv.ownBlock.toList:=fun e=>hp (ym.2 (.inr (.inl e)))
 have nqv:q∉fv.ownBlock.toList:=fun e=>hq (ym.2 (.inr (.inl e)))
 have rB:∀ k,k∈dv.ownBlock.toList->k∉fb :: lb :: Bx:=fun k hk=>(h.rr k (h.dr k hk)).2.2.2 _ hl
 have rb:b∉dv.ownBlock.toList:=fun hk=>(h.rr b (h.dr b hk)).2.1 rfl
 have rp:p∉dv.ownBlock.toList:=fun hk=>hpR (h.dr p hk)
 have rq:q∉dv.ownBlock.toList:=fun hk=>hqR (h.dr q hk)
 simp only [List.mem_cons,not_or] at nbB npB nqB;have nF:b∉fv.ownBlock.toList/\fb∉fv.ownBlock.toList/\lb∉fv.ownBlock.toList/\p∉fv.ownBlock.toList/\q∉fv.ownBlock.toList:=⟨h.nf,nvB fb Lc,nvB lb Lc,npv,nqv⟩;have nfp:¬ fb=p:=fun e=>npB.1 e.symm
 have nfq:¬ fb=q:=fun e=>nqB.1 e.symm
 have nlp:¬ lb=p:=fun e=>npB.2.1 e.symm
 have nlq:¬ lb=q:=fun e=>nqB.2.1 e.symm
 have hlen2:(ini.map (·.1)).length<=10000000:=by simp;omega
 have hlen3:(ini.map (·.1)).length<=9999999:=by simp;exact hlen
 have Sm:∀ (f':Fm),(ini.map (·.2.2)++[f']=([]:List Fm))=False:=fun f'=>by simp
 have keepF:∀ (S:List Nat) (w':World),Fr S w w'->(∀ k,k∈S->k=p\/k=q\/k=b\/k∈fb :: lb :: Bx)->Sq fP w' fv (ini.map (·.1)++[fb])/\Sq fI w' dv m.draws:=fun S w' F hS =>
  ⟨hFq.kept F (fun k hk hi=>by rcases hS k hi with rfl | rfl | rfl | e;exact npv hk;exact nqv hk;exact h.nf hk;exact nvB k e hk),h.d.kept F (fun k hk hi=>by rcases hS k hi with rfl | rfl | rfl | e;exact rp hk;exact rq hk;exact rb hk;exact rB k hk e)⟩
 rcases hsub with ⟨hpt,hnp,hn0,rfl⟩ | ⟨hpt,hnp,hn0,x,sb,hs,rfl,hS,rfl⟩ | ⟨hpt,hnp,hn0,rfl⟩ | ⟨hpt,hnp,hn0,rfl⟩ | ⟨hpt,x,nb,hn,rfl,hN⟩ | ⟨hpt,x,bb,hb,rfl,hB⟩ | ⟨hpt,x,pb,hp6,rfl,hP,rfl⟩
 ·have e1:m.step s=({ (if (f.l.step s).1.drew=true/\f.l.drew=false/\m.draws≠[] then { m with draws:=m.draws.tail } else m) with f:=ini.map (·.2.2)++[if (f.l.step s).1.line=0 then { f with l:=(f.l.step s).1,part:=2,s:=some (Sl.new m.c (f.l.step s).1.three.1 (f.l.step s).1.three.2.1) } else { f with l:=(f.l.step s).1 }] },(f.l.step s).2):=by unfold Md.step;rw [hgl];simp only;rw [qf hpt,hdl]
  rw [e1];simp only [List.mem_cons,List.not_mem_nil,or_false,not_or,not_false_eq_true,and_true] at nbB npB nqB;refine (qbh m f hpt hc (by rw [hfok.lc];exact hc) b fb lb p q sp np bp pp dv fv (ini.map (·.1)) s w h.o hFq hlen2 hf hL hA nbB.1 nbB.2 nfl nbp nbq nfp nfq nlp nlq h.d ⟨rb,fun e=>rB fb e Lc,fun e=>rB lb e Lc,rp,rq⟩ nF).mono ?_;rintro e w' ⟨⟨⟨dv',hd',hdv',ho⟩,h2⟩,hL',hA',F,he⟩;have hSS:∀ k,k∈[b,fb,lb,p,q]->k=p\/k=q\/k=b\/k∈fb :: lb :: []:=fun k hk=>by simp at hk ⊢;rcases hk with h | h | h | h | h <;> simp [h]
  obtain ⟨k1,-⟩:=keepF _ w' F hSS;have hm':∀ (M:List Fm),Z4 w' b ({ (if (f.l.step s).1.drew=true/\f.l.drew=false/\m.draws≠[] then { m with draws:=m.draws.tail } else m) with f:=M }:Md) dv' fv:=fun M=>by split <;> exact ho
  have hd2:∀ (M:List Fm),Sq fI w' dv' ({ (if (f.l.step s).1.drew=true/\f.l.drew=false/\m.draws≠[] then { m with draws:=m.draws.tail } else m) with f:=M }:Md).draws:=fun M=>by
   split
   ·rename_i hcd;rw [qf hcd] at hd';exact hd'
   ·rename_i hcd;rw [qd hcd] at hd';exact hd'
  rcases h2 with ⟨hl0,sb,hsb,hf',hs'⟩ | ⟨hl0,hf'⟩
  ·rw [qf hl0];have hfl:=(h.fm _ hl).lt;have b1:=hfl fb Lc;have b2:=hfl lb Lc;refine Za (tl:=[(fb,fb :: lb :: [sb],{ f with l:=(f.l.step s).1,part:=2,s:=some (Sl.new m.c (f.l.step s).1.three.1 (f.l.step s).1.three.2.1) })]) h hp hq hpR hqR F hSS Nb hA' (hm' _) (hd2 _) hdv' Mw Lc (fun t ht=>?_) (fun t ht k hk=>?_) Lc (fun k hk=>.inl hk)
   ·rw [List.mem_singleton.1 ht];exact ⟨lb,some sb,np,bp,pp,[sb],hf',hL',.inr (.inl ⟨rfl,hnp,hn0,_,sb,rfl,rfl,hs',rfl⟩),nfl,by simp;omega,by simp;omega,rfl⟩
   ·rw [List.mem_singleton.1 ht] at hk;simp at hk;rcases hk with h | h | h
    ·exact .inl Mq
    ·exact .inl Mq
    ·exact .inr (by rw [h];exact hsb)
  ·rw [qd hl0];refine Za (tl:=[(fb,fb :: lb :: [],{ f with l:=(f.l.step s).1 })]) h hp hq hpR hqR F hSS Nb hA' (hm' _) (hd2 _) hdv' Mw Lc (fun t ht=>?_) (fun t ht k hk=>?_) Lc (fun k hk=>.inl hk)
   ·rw [List.mem_singleton.1 ht];exact ⟨lb,sp,np,bp,pp,[],hf',hL',.inl ⟨hpt,hnp,hn0,rfl⟩,nfl,by simp,by simp,rfl⟩
   ·exact Fg
 ·simp only [List.mem_cons,List.not_mem_nil,or_false,not_or,not_false_eq_true,and_true] at nbB npB nqB nfx nlx
  have e1:m.step s=({ m with f:=ini.map (·.2.2)++[{ f with s:=some (x.step s).1,part:=if (x.step s).1.line=0 then 3 else 2 }] },(x.step s).2):=by unfold Md.step;rw [hgl];simp only;rw [qd Lb,qf hpt,hs,hdl]
  rw [e1];refine (qaf m f hpt x (by rw [hfok.s x hs];exact hc) sb b fb lb p q (some sb) np bp pp dv fv (ini.map (·.1)) s w h.o hFq hlen2 hf hL hA nbB.1 nbB.2.1 nfl nbp nbq nfp nfq nlp nlq rfl hS (Ne.symm npB.2.2) (Ne.symm nqB.2.2) nbB.2.2 nfx nF).mono ?_;rintro e w' ⟨he,ho,hf',hS',hA',F⟩;have hSS:∀ k,k∈[fb,sb,p,q]->k=p\/k=q\/k=b\/k∈fb :: lb :: [sb]:=fun k hk=>by simp at hk ⊢;rcases hk with h | h | h | h <;> simp [h]
  obtain ⟨k1,k2⟩:=keepF _ w' F hSS;have kL:=Ob.kept hL F (by simp;exact ⟨Ne.symm nfl,nlx,nlp,nlq⟩);by_cases hl0:(x.step s).1.line=0
  ·rw [qf hl0] at hf' ⊢;refine Za (tl:=[(fb,fb :: lb :: [],{ f with s:=some (x.step s).1,part:=3 })]) h hp hq hpR hqR F hSS Nb hA' ho k2 (fun k hk=>hk) Mw Lc (fun t ht=>?_) (fun t ht k hk=>?_) Lc (fun k hk=>.inl hk)
   ·rw [List.mem_singleton.1 ht];exact ⟨lb,some sb,np,bp,pp,[],hf',kL,.inr (.inr (.inl ⟨rfl,hnp,hn0,rfl⟩)),nfl,by simp,by simp,rfl⟩
   ·rw [List.mem_singleton.1 ht] at hk;exact .inl (by simp at hk ⊢;rcases hk with h | h <;> simp [h])
  ·rw [qd hl0] at hf' ⊢;refine Za (tl:=[(fb,fb :: lb :: [sb],{ f with s:=some (x.step s).1,part:=2 })]) h hp hq hpR hqR F hSS Nb hA' ho k2 (fun k hk=>hk) Mw Lc (fun t ht=>?_) (fun t ht k hk=>?_) Lc (fun k hk=>.inl hk)
   ·rw [List.mem_singleton.1 ht];exact ⟨lb,some sb,np,bp,pp,[sb],hf',kL,.inr (.inl ⟨rfl,hnp,hn0,_,sb,rfl,rfl,hS',rfl⟩),nfl,by simpa using nfx,by simpa using nlx,rfl⟩
   ·exact Fg
 ·have e1:m.step s=({ m with f:=ini.map (·.2.2)++[if qw s.l (wrap64 (f.l.three.1+5))=0 then { f with part:=4 } else f.splice m.c (qw s.l (wrap64 (f.l.three.1+5)))] },s.load (wrap64 (f.l.three.1+5))):=by unfold Md.step;rw [hgl];simp only;rw [qd Lb,qd Lb,qf hpt,hdl]
  rw [e1];simp only [List.mem_cons,List.not_mem_nil,or_false,not_or,not_false_eq_true,and_true] at nbB npB nqB;refine (qc0 m f hpt hc b fb lb p q sp np bp pp dv fv (ini.map (·.1)) s w h.o hFq hlen2 hf hL hA nbB.1 nbB.2 nfl nbp nbq nfp nfq nlp nlq nF).mono ?_;rintro e w' ⟨he,ho,hL',haf,hA',F⟩;have hSS:∀ k,k∈[fb,p,q]->k=p\/k=q\/k=b\/k∈fb :: lb :: []:=fun k hk=>by simp at hk ⊢;rcases hk with h | h | h <;> simp [h]
  obtain ⟨k1,k2⟩:=keepF _ w' F hSS;have hfl:=(h.fm _ hl).lt;have b1:=hfl fb Lc;have b2:=hfl lb Lc;rcases haf with ⟨hr,hf'⟩ | ⟨hr,pb,hpb,hf',hp'⟩
  ·rw [qf hr];refine Za (tl:=[(fb,fb :: lb :: [],{ f with part:=4 })]) h hp hq hpR hqR F hSS Nb hA' ho k2 (fun k hk=>hk) Mw Lc (fun t ht=>?_) (fun t ht k hk=>?_) Lc (fun k hk=>.inl hk)
   ·rw [List.mem_singleton.1 ht];exact ⟨lb,sp,np,bp,pp,[],hf',hL',.inr (.inr (.inr (.inl ⟨rfl,hnp,hn0,rfl⟩))),nfl,by simp,by simp,rfl⟩
   ·exact Fg
  ·rw [qd hr];refine Za (tl:=[(fb,fb :: lb :: [pb],f.splice m.c (qw s.l (wrap64 (f.l.three.1+5))))]) h hp hq hpR hqR F hSS Nb hA' ho k2 (fun k hk=>hk) Mw Lc (fun t ht=>?_) (fun t ht k hk=>?_) Lc (fun k hk=>.inl hk)
   ·rw [List.mem_singleton.1 ht];exact ⟨lb,sp,np,bp,some pb,[pb],hf',hL',.inr (.inr (.inr (.inr (.inr (.inr ⟨rfl,_,pb,rfl,rfl,hp',rfl⟩))))),nfl,by simp;omega,by simp;omega,rfl⟩
   ·exact Cx
 ·have e1:m.step s=({ m with f:=ini.map (·.2.2)++[{ f with n:=some (Nd.new m.c) }] },s.load 1):=by unfold Md.step;rw [hgl];simp only;rw [qd Lb,qd Lb,qd Lb,qf hpt,hn0,hdl]
  rw [e1];simp only [List.mem_cons,List.not_mem_nil,or_false,not_or,not_false_eq_true,and_true] at nbB npB nqB;refine (q9q m f hpt hc b fb lb p q sp np bp pp dv fv (ini.map (·.1)) s w h.o hFq hlen2 hf hL hA nbB.1 nbB.2 nfl nbp nbq nfp nfq nlp nlq hnp nF).mono ?_;rintro e w' ⟨he,ho,hL',⟨nb,hnb,hf',hn'⟩,hA',F⟩;have hSS:∀ k,k∈[fb,p,q]->k=p\/k=q\/k=b\/k∈fb :: lb :: []:=fun k hk=>by simp at hk ⊢;rcases hk with h | h | h <;> simp [h]
  obtain ⟨k1,k2⟩:=keepF _ w' F hSS;have hfl:=(h.fm _ hl).lt;have b1:=hfl fb Lc;have b2:=hfl lb Lc;refine Za (tl:=[(fb,fb :: lb :: [nb],{ f with n:=some (Nd.new m.c) })]) h hp hq hpR hqR F hSS Nb hA' ho k2 (fun k hk=>hk) Mw Lc (fun t ht=>?_) (fun t ht k hk=>?_) Lc (fun k hk=>.inl hk)
  ·rw [List.mem_singleton.1 ht];exact ⟨lb,sp,some nb,bp,pp,[nb],hf',hL',.inr (.inr (.inr (.inr (.inl ⟨hpt,_,nb,rfl,rfl,.slice none 0 0,hn',Sq.nil _,by simp [Value.ownBlock],by simp [Value.ownBlock],fun k hk=>by simp at hk;subst hk;exact Ob.lt hn'⟩)))),nfl,by simp;omega,by simp;omega,rfl⟩
  ·rw [List.mem_singleton.1 ht] at hk;simp at hk;rcases hk with h | h | h
   ·exact .inl Mq
   ·exact .inl Mq
   ·exact .inr (by rw [h];exact hnb)
 ·obtain ⟨lv,hN1,hN2,hN3,rfl,hN5⟩:=hN
  have e1:m.step s=({ m with f:=ini.map (·.2.2)++[if (x.step s).1.line=0 then { f with n:=some (x.step s).1,part:=5,b:=some (Bd.new m.c f.l.three.1 f.l.three.2.1 f.l.three.2.2 (x.step s).1.l) } else { f with n:=some (x.step s).1 }] },(x.step s).2):=by unfold Md.step;rw [hgl];simp only;rw [qd Lb,qd Lb,qd Lb,qf hpt,hn,hdl]
  rw [e1];simp only [List.mem_cons,not_or] at nbB npB nqB nfx nlx;have hok:=hfok.n x hn;obtain ⟨sl1,sl2⟩:=q4m x lv s;refine (q7t m f hpt hc { x with lv:=lv } hok.c ⟨hok.t0,hok.t8⟩ (by have h1:=hok.l;have h2:=hok.t8;show x.l.length<=1000;omega) nb b fb lb p q sp (some nb) bp pp dv fv (ini.map (·.1)) s w h.o hFq hlen2 hf hL hA nbB.1 nbB.2.1 nfl nbp nbq nfp nfq nlp nlq rfl hN1 hN2 hN3 npB.2.2.2 nqB.2.2.2 (Ne.symm npB.2.2.1) (Ne.symm nqB.2.2.1) nbB.2.2.1 nfx.1 nlx.1 nfx.2 (fun k hk=>hN5 k Ns) nF).mono ?_;rintro e w' ⟨he,ho,hL',haf,hA',F⟩;rw [sl2] at hA';rw [sl1] at haf;have hSS:∀ k,k∈[fb,nb,p,q]->k=p\/k=q\/k=b\/k∈fb :: lb :: (nb :: lv.ownBlock.toList):=fun k hk=>by simp at hk ⊢;rcases hk with h | h | h | h <;> simp [h]
  obtain ⟨k1,k2⟩:=keepF _ w' F hSS;have hfl:=(h.fm _ hl).lt;have b1:=hfl fb Lc;have b2:=hfl lb Lc;rcases haf with ⟨hl0,hf',lv',hn',hs',hlv⟩ | ⟨hl0,bb,B,hbb,hf',hB',hBs⟩
  ·replace hl0:(x.step s).1.line≠0:=hl0;replace hs':Sq fI w' lv' (x.step s).1.l:=hs';rw [qd hl0]
   have hsub:∀ k,k∈lv'.ownBlock.toList->k∈lv.ownBlock.toList\/w.heap.size<=k:=fun k hk=>by
    rcases hlv with e | ⟨-,e⟩
    ·rw [e] at hk;exact .inl hk
    ·exact .inr (e k hk)
   have hlt':∀ k,k∈lv'.ownBlock.toList->k<w'.heap.size:=fun k hk=>by
    rcases hlv with e | ⟨hne,-⟩
    ·rw [e] at hk;exact qj (hN5 k (by simp;exact .inr Mi)) F.size
    ·exact Qx hs' hne k hk
   have nn:nb∉lv'.ownBlock.toList:=fun hi=>by
    rcases hsub nb hi with e | e
    ·exact hN3 e
    ·have:=hN5 nb Lc;omega
   refine Za (tl:=[(fb,fb :: lb :: (nb :: lv'.ownBlock.toList),{ f with n:=some (x.step s).1 })]) h hp hq hpR hqR F hSS Nb hA' ho k2 (fun k hk=>hk) Mw Lc (fun t ht=>?_) (fun t ht k hk=>?_) Lc (fun k hk=>.inl hk)
   ·rw [List.mem_singleton.1 ht];refine ⟨lb,sp,some nb,bp,pp,nb :: lv'.ownBlock.toList,hf',hL',.inr (.inr (.inr (.inr (.inl ⟨hpt,_,nb,rfl,rfl,lv',hn',hs',nn,rfl,fun k hk=>?_⟩)))),nfl,fun hi=>?_,fun hi=>?_,rfl⟩
    ·rcases List.mem_cons.1 hk with rfl | hk
     ·exact Ob.lt hn'
     ·exact hlt' k hk
    ·rcases List.mem_cons.1 hi with e | e
     ·exact nfx.1 e
     ·rcases hsub fb e with e | e
      ·exact nfx.2 e
      ·omega
    ·rcases List.mem_cons.1 hi with e | e
     ·exact nlx.1 e
     ·rcases hsub lb e with e | e
      ·exact nlx.2 e
      ·omega
   ·rw [List.mem_singleton.1 ht] at hk;rcases List.mem_cons.1 hk with h | hk
    ·exact .inl Mq
    ·rcases List.mem_cons.1 hk with h | hk
     ·exact .inl Mq
     ·rcases List.mem_cons.1 hk with h | hk
      ·exact .inl Mq
      ·exact (hsub k hk).imp (fun e=>by simp only [List.mem_cons];exact .inr (.inr (.inr e))) id
  ·replace hl0:(x.step s).1.line=0:=hl0;rw [qf hl0];refine Za (tl:=[(fb,fb :: lb :: B,{ f with n:=some (x.step s).1,part:=5,b:=some (Bd.new m.c f.l.three.1 f.l.three.2.1 f.l.three.2.2 (x.step s).1.l) })]) h hp hq hpR hqR F hSS Nb hA' ho k2 (fun k hk=>hk) Mw Lc (fun t ht=>?_) (fun t ht k hk=>?_) Lc (fun k hk=>.inl hk)
   ·rw [List.mem_singleton.1 ht];refine ⟨lb,sp,some nb,some bb,pp,B,hf',hL',.inr (.inr (.inr (.inr (.inr (.inl ⟨rfl,_,bb,rfl,rfl,hB'⟩))))),nfl,fun hi=>?_,fun hi=>?_,rfl⟩
    ·rcases hBs fb hi with e | e
     ·exact nfx.2 e
     ·omega
    ·rcases hBs lb hi with e | e
     ·exact nlx.2 e
     ·omega
   ·rw [List.mem_singleton.1 ht] at hk;rcases List.mem_cons.1 hk with h | hk
    ·exact .inl Mq
    ·rcases List.mem_cons.1 hk with h | hk
     ·exact .inl Mq
     ·exact (hBs k hk).imp (fun e=>by simp only [List.mem_cons];exact .inr (.inr (.inr e))) id
 ·have e1:m.step s=(if (x.step s).1.line=0 then (if (x.step s).1.e=0 then { m with f:=ini.map (·.2.2)++[({ f with b:=some (x.step s).1 }:Fm).splice m.c (x.step s).1.repl] } else { m with e:=(x.step s).1.e,f:=[] }) else { m with f:=ini.map (·.2.2)++[{ f with b:=some (x.step s).1 }] },(x.step s).2):=by unfold Md.step;rw [hgl];simp only;rw [qd Lb,qd Lb,qd Lb,qd Lb,qf hpt,hb,hdl]
  rw [e1];refine (qbt m f hpt hc x (hfok.b x hpt hb) bb Bx b fb lb p q sp np (some bb) pp dv fv (ini.map (·.1)) s w h.o hFq hlen2 hf hL hA nbB.1 nbB.2.1 nfl nbp nbq nfp nfq nlp nlq rfl hB ⟨nbB.2.2,nfx,nlx,npB.2.2,nqB.2.2⟩ nF).mono ?_;rintro e w' ⟨haf,hL',hA',F⟩;have hSS:∀ k,k∈b :: fb :: p :: q :: Bx->k=p\/k=q\/k=b\/k∈fb :: lb :: Bx:=fun k hk=>by simp at hk ⊢;rcases hk with h | h | h | h | h <;> simp [h]
  obtain ⟨k1,k2⟩:=keepF _ w' F hSS;have hfl:=(h.fm _ hl).lt;have b1:=hfl fb Lc;have b2:=hfl lb Lc;rcases haf with ⟨hl0,he,ho,hf',B',hB',hBs⟩ | ⟨hl0,he0,he,ho,pb,hpb,hf',hp'⟩ | ⟨hl0,he0,he,ho⟩
  ·rw [qd hl0];refine Za (tl:=[(fb,fb :: lb :: B',{ f with b:=some (x.step s).1 })]) h hp hq hpR hqR F hSS Nb hA' ho k2 (fun k hk=>hk) Mw Lc (fun t ht=>?_) (fun t ht k hk=>?_) Lc (fun k hk=>.inl hk)
   ·rw [List.mem_singleton.1 ht];refine ⟨lb,sp,np,some bb,pp,B',hf',hL',.inr (.inr (.inr (.inr (.inr (.inl ⟨hpt,_,bb,rfl,rfl,hB'⟩))))),nfl,fun hi=>?_,fun hi=>?_,rfl⟩
    ·rcases hBs fb hi with e | e
     ·exact nfx e
     ·omega
    ·rcases hBs lb hi with e | e
     ·exact nlx e
     ·omega
   ·rw [List.mem_singleton.1 ht] at hk;rcases List.mem_cons.1 hk with h | hk
    ·exact .inl Mq
    ·rcases List.mem_cons.1 hk with h | hk
     ·exact .inl Mq
     ·exact (hBs k hk).imp (fun e=>by simp only [List.mem_cons];exact .inr (.inr e)) id
  ·rw [qf hl0,qf he0];refine Za (tl:=[(fb,fb :: lb :: [pb],({ f with b:=some (x.step s).1 }:Fm).splice m.c (x.step s).1.repl)]) h hp hq hpR hqR F hSS Nb hA' ho k2 (fun k hk=>hk) Mw Lc (fun t ht=>?_) (fun t ht k hk=>?_) Lc (fun k hk=>.inl hk)
   ·rw [List.mem_singleton.1 ht];exact ⟨lb,sp,np,some bb,some pb,[pb],hf',hL',.inr (.inr (.inr (.inr (.inr (.inr ⟨rfl,_,pb,rfl,rfl,hp',rfl⟩))))),nfl,by simp;omega,by simp;omega,rfl⟩
   ·exact Cx
  ·rw [qf hl0,qd he0];refine ⟨by rw [he];simp,⟨[b],⟨dv,.slice none 0 0,[],⟨ho,k2,h.dr,Sq.nil _,rfl,by simp,by simp [Value.ownBlock],by simp,by simp,by simp [Value.ownBlock],fun k hk=>⟨qj (h.rr k hk).1 F.size,(h.rr k hk).2.1,by simp [Value.ownBlock],by simp⟩⟩,by simp [mdB,Value.ownBlock]⟩,fun k hk=>by simp at hk;subst hk;exact .inl (ym.2 (.inl rfl))⟩,hA',F.mono (fun k hk=>?_)⟩;simp only [List.mem_cons];rcases hSS k hk with e | e | e | e
   ·exact .inl e
   ·exact .inr (.inl e)
   ·exact .inr (.inr (ym.2 (.inl e)))
   ·exact .inr (.inr (fbm k e))
 ·have e1:m.step s=(if (x.step s).1.line=0 then (if (x.step s).1.stuck=0 then { m with f:=ini.map (·.2.2) } else { m with f:=ini.map (·.2.2)++[({ f with p:=some (x.step s).1 }:Fm).splice m.c f.repl,Fm.new m.c (x.step s).1.stuck (J9 m.draws)] }) else { m with f:=ini.map (·.2.2)++[{ f with p:=some (x.step s).1 }] },(x.step s).2):=by unfold Md.step;rw [hgl];simp only;rw [qd Lb,qd Lb,qd Lb,qd Lb,qd Lb,qf hpt,hp6,hdl]
  rw [e1];simp only [List.mem_cons,List.not_mem_nil,or_false,not_or,not_false_eq_true,and_true] at nbB npB nqB nfx nlx;have npv6:pb∉fv.ownBlock.toList:=nvB pb Lc;refine (qc1 m f hpt hc x (by rw [hfok.p x hp6];exact hc) pb b fb lb p q sp np bp (some pb) dv fv (ini.map (·.1)) s w h.o hFq hlen2 hf hL hA nbB.1 nbB.2.1 nfl nbp nbq nfp nfq nlp nlq hlen3 rfl hP (Ne.symm npB.2.2) (Ne.symm nqB.2.2) nbB.2.2 nfx nlx h.d ⟨rb,fun e=>rB fb e Lc,fun e=>rB pb e Lc,rp,rq⟩ npv6 nF).mono ?_;rintro e w' ⟨he,hL',haf,hA',F⟩;have hSS:∀ k,k∈[b,fb,pb,p,q]->k=p\/k=q\/k=b\/k∈fb :: lb :: [pb]:=fun k hk=>by simp at hk ⊢;rcases hk with h | h | h | h | h <;> simp [h]
  obtain ⟨k1,k2⟩:=keepF _ w' F hSS;have hfl:=(h.fm _ hl).lt;have b1:=hfl fb Lc;have b2:=hfl lb Lc;rcases haf with ⟨hl0,ho,hf',hp'⟩ | ⟨hl0,hs0,fv',ho,hF',hsub⟩ | ⟨hl0,hs0,pb2,fv',fb2,lb2,ho,hF',hf',hp',hg',hq',s1,s2,s3,s4,s5,s6,s7⟩
  ·rw [qd hl0];have ov:Yp (x.step s).1 (ini.map (·.1))=false:=by unfold Yp;simp [hl0]
   refine Za (tl:=[(fb,fb :: lb :: [pb],{ f with p:=some (x.step s).1 })]) h hp hq hpR hqR F hSS (by rw [he,ov];simp) hA' ho k2 (fun k hk=>hk) Mw Lc (fun t ht=>?_) (fun t ht k hk=>?_) Lc (fun k hk=>.inl hk)
   ·rw [List.mem_singleton.1 ht];exact ⟨lb,sp,np,bp,some pb,[pb],hf',hL',.inr (.inr (.inr (.inr (.inr (.inr ⟨hpt,_,pb,rfl,rfl,hp',rfl⟩))))),nfl,by simpa using nfx,by simpa using nlx,rfl⟩
   ·exact Fg
  ·rw [qf hl0,qf hs0];have ov:Yp (x.step s).1 (ini.map (·.1))=decide (ini.map (·.2.2)=([]:List Fm)):=by unfold Yp;simp [hl0,hs0]
   exact Za (tl:=[]) h hp hq hpR hqR F hSS (by rw [he,ov]) hA' ho k2 (fun k hk=>hk) (by simpa using hF') Lc Lc Lc Lc (fun k hk=>.inl (hsub k hk))
  ·rw [qf hl0,qd hs0];have ov:Yp (x.step s).1 (ini.map (·.1))=false:=by unfold Yp;simp [hs0]
   refine Za (tl:=[(fb,fb :: lb :: [pb2],({ f with p:=some (x.step s).1 }:Fm).splice m.c f.repl),(fb2,fb2 :: lb2 :: [],Fm.new m.c (x.step s).1.stuck (J9 m.draws))]) h hp hq hpR hqR F hSS (by rw [he,ov];simp) hA' ho k2 (fun k hk=>hk) (by simpa using hF') Lc (fun t ht=>?_) (fun t ht k hk=>?_) ?_ (fun k hk=>.inr ?_)
   ·simp only [List.mem_cons,List.not_mem_nil,or_false] at ht;rcases ht with rfl | rfl
    ·exact ⟨lb,sp,np,bp,some pb2,[pb2],hf',hL',.inr (.inr (.inr (.inr (.inr (.inr ⟨rfl,_,pb2,rfl,rfl,hp',rfl⟩))))),nfl,by simp;omega,by simp;omega,rfl⟩
    ·exact ⟨lb2,none,none,none,none,[],hg',hq',.inl ⟨rfl,rfl,rfl,rfl⟩,s6,by simp,by simp,rfl⟩
   ·simp only [List.mem_cons,List.not_mem_nil,or_false] at ht;rcases ht with rfl | rfl
    ·simp at hk;rcases hk with h | h | h
     ·exact .inl Mq
     ·exact .inl Mq
     ·exact .inr Lb
    ·simp at hk;rcases hk with h | h <;> exact .inr Lb
   ·simp;omega
   ·have:=s7 k hk;refine ⟨by omega,this.2.1,fun t ht hi=>?_⟩;simp only [List.mem_cons,List.not_mem_nil,or_false] at ht;rcases ht with rfl | rfl
    ·simp at hi;omega
    ·simp at hi;omega
theorem q0r.new {c:Cf} (chunk:Int) (d:Bool):q0r c (Fm.new c chunk d):=⟨rfl,fun x h=>Ol,fun x h=>Ol,fun x _ h=>Ol,fun x h=>Ol⟩
theorem q0r.splice {c:Cf} {f:Fm} (h:q0r c f) (r:Int):q0r c (f.splice c r):=⟨h.lc,h.s,h.n,fun x e=>by unfold Fm.splice at e;simp at e,fun x e=>by unfold Fm.splice at e;simp only [Option.some.injEq] at e;rw [<- e];rfl⟩
theorem Xg.put {N:Nat} {m:Md} (h:Xg N m) (hne:m.f≠[]) (ds:List Int) {g:Fm} (hg:q0r m.c g):Xg (N+1) { m with draws:=ds,f:=m.f.dropLast++[g] }:=by
 refine ⟨h.c,fun y hy=>?_,?_⟩
 ·rcases List.mem_append.1 hy with hy | hy
  ·exact h.f y (List.dropLast_subset _ hy)
  ·rw [List.mem_singleton.1 hy];exact hg
 ·exact Ho
theorem Xg.put2 {N:Nat} {m:Md} (h:Xg N m) (hne:m.f≠[]) {g g2:Fm} (hg:q0r m.c g) (hg2:q0r m.c g2):Xg (N+1) { m with f:=m.f.dropLast++[g,g2] }:=by
 refine ⟨h.c,fun y hy=>?_,?_⟩
 ·rcases List.mem_append.1 hy with hy | hy
  ·exact h.f y (List.dropLast_subset _ hy)
  ·simp only [List.mem_cons,List.not_mem_nil,or_false] at hy;rcases hy with rfl | rfl
   ·exact hg
   ·exact hg2
 ·exact Ho
theorem Xg.step {N:Nat} {m:Md} (h:Xg N m) (s:St):Xg (N+1) (m.step s).1:=by
 have same:Xg (N+1) m:=⟨h.c,h.f,by have:=h.len;omega⟩;unfold Md.step;cases hg:m.f.getLast? with
 | none=>exact same
 | some f =>
  have hfm:f∈m.f:=List.mem_of_getLast? hg;have hne:m.f≠[]:=List.ne_nil_of_mem hfm;obtain ⟨q1,q2,q3,q4,q5⟩:=h.f f hfm;have put:∀ g,q0r m.c g->Xg (N+1) { m with f:=m.f.dropLast++[g] }:=fun g hg=>h.put hne m.draws hg
  simp only;by_cases p1:f.part=1
  ·rw [qf p1];have hlc:(f.l.step s).1.c=m.c:=(q74 f.l s).trans q1
   have hg2:q0r m.c (if (f.l.step s).1.line=0 then { f with l:=(f.l.step s).1,part:=2,s:=some (Sl.new m.c (f.l.step s).1.three.1 (f.l.step s).1.three.2.1) } else { f with l:=(f.l.step s).1 }):=by
    split
    ·exact ⟨hlc,fun x e=>by simp only [Option.some.injEq] at e;rw [<- e];rfl,q3,fun x e=>by simp at e,q5⟩
    ·exact ⟨hlc,q2,q3,q4,q5⟩
   split
   ·exact h.put hne m.draws.tail hg2
   ·exact put _ hg2
  ·rw [qd p1];by_cases p2:f.part=2
   ·rw [qf p2];cases hs:f.s with
    | none=>exact same
    | some x=>exact put _ ⟨q1,fun y e=>by simp only [Option.some.injEq] at e;rw [<- e];exact (q6i x s).trans (q2 x hs),q3,fun y e=>by simp only at e;split at e <;> omega,q5⟩
   ·rw [qd p2];by_cases p3:f.part=3
    ·rw [qf p3];refine put _ ?_;split
     ·exact ⟨q1,q2,q3,fun x e=>by simp at e,q5⟩
     ·exact q0r.splice ⟨q1,q2,q3,q4,q5⟩ _
    ·rw [qd p3];by_cases p4:f.part=4
     ·rw [qf p4];cases hn:f.n with
      | none=>exact put _ ⟨q1,q2,fun y e=>by simp only [Option.some.injEq] at e;rw [<- e];exact q0y.new h.c,q4,q5⟩
      | some x =>
       have hx:=(q3 x hn).step s;refine put _ ?_;split
       ·exact ⟨q1,q2,fun y e=>by simp only [Option.some.injEq] at e;rw [<- e];exact hx,fun y _ e=>by simp only [Option.some.injEq] at e;rw [<- e];exact Zg.new h.c _ _ _ (by have h1:=hx.l;have h2:=hx.t8;omega),q5⟩
       ·exact ⟨q1,q2,fun y e=>by simp only [Option.some.injEq] at e;rw [<- e];exact hx,q4,q5⟩
     ·rw [qd p4];by_cases p5:f.part=5
      ·rw [qf p5];cases hb:f.b with
       | none=>exact same
       | some x =>
        have hx:=(q4 x p5 hb).step s;simp only;by_cases e0:(x.step s).1.line=0
        ·rw [qf e0];by_cases e1:(x.step s).1.e=0
         ·rw [qf e1];exact put _ ⟨q1,q2,q3,fun y e=>by unfold Fm.splice at e;simp at e,fun y e=>by unfold Fm.splice at e;simp only [Option.some.injEq] at e;rw [<- e];rfl⟩
         ·rw [qd e1];exact ⟨h.c,fun y hy=>by simp at hy,by simp⟩
        ·rw [qd e0];have hx2:Zg (x.step s).1:=hx.resolve_left e0;exact put _ ⟨q1,q2,q3,fun y _ e=>by simp only [Option.some.injEq] at e;rw [<- e];exact hx2,q5⟩
      ·rw [qd p5];by_cases p6:f.part=6
       ·rw [qf p6];cases hp:f.p with
        | none=>exact same
        | some x =>
         simp only;have hpc:∀ y:Sp,some (x.step s).1=some y->y.c=m.c:=fun y e=>by simp only [Option.some.injEq] at e;rw [<- e];exact (q7b x s).trans (q5 x hp)
         by_cases e0:(x.step s).1.line=0
         ·rw [qf e0];by_cases e1:(x.step s).1.stuck=0
          ·rw [qf e1];exact ⟨h.c,fun y hy=>h.f y (List.dropLast_subset _ hy),by have:=h.len;simp;omega⟩
          ·rw [qd e1];exact h.put2 hne (q0r.splice (f:={ f with p:=some (x.step s).1 }) ⟨q1,q2,q3,fun y e=>absurd e p5,hpc⟩ _) (q0r.new _ _)
         ·rw [qd e0];exact put _ ⟨q1,q2,q3,fun y e=>absurd e p5,hpc⟩
       ·rw [qd p6];exact same
theorem Xg.new {c:Cf} (hc:c.Ok) (chunk:Int) (ds:List Int):Xg 1 (Md.new c chunk ds):=⟨hc,fun g hg=>by unfold Md.new at hg;rw [List.mem_singleton.1 hg];exact q0r.new _ _,by simp [Md.new]⟩
theorem Kn (c:Cf) (hc:c.Ok) (chunk:Int) (ds:List Int) (dv:Value) (R:List Nat) (w:World) (hD:Sq fI w dv ds) (hdR:∀ k,k∈dv.ownBlock.toList->k∈R) (hR:∀ k,k∈R->k<w.heap.size) :
  Calls Tryz.prog 89 #[c.val,.int .i64 chunk,dv] w fun e w'=>∃ b B,e = .returned (.pointer (some ⟨b,0,none⟩))/\Sr w' R B b (Md.new c chunk ds)/\(∀ k,k∈B->w.heap.size<=k)/\Fr [] w w':=by
 obtain ⟨av,cv,rfl,hcv,hmv,-⟩:=id hD;unfold Cf.val;have F0:=(Fr.refl [] w).alloc (.cells #[.int .i64 c.t,.int .i64 c.c,.int .i64 c.wd,.int .i64 c.v] 23);obtain ⟨c0,c1,c2,c3⟩:=Pl.yu (Go.heap_alloc_new w (.cells #[.int .i64 c.t,.int .i64 c.c,.int .i64 c.wd,.int .i64 c.v] 23));go_enter Tryz.func89,Tryz.ntmps89;go_wp2_with fail;have ho:Z4 _ (w.heap.size+1) ⟨c,ds,[],0⟩ (.slice av ds.length cv) (.slice none 0 0):=Ob.newAt (Yr w (.cells #[.int .i64 c.t,.int .i64 c.c,.int .i64 c.wd,.int .i64 c.v] 23)) _ _;have F1:=F0.alloc (.cells (MdC ⟨c,ds,[],0⟩ (.slice av ds.length cv) (.slice none 0 0)) 134);have hD1:=hD.up F1;refine (Wj ⟨c,ds,[],0⟩ hc chunk (w.heap.size+1) _ _ [] _ ho hD1 (Sq.nil _) Lc).mono ?_;rintro e w2 ⟨rfl,⟨fv',fb,lb,h2,F2v,g2,q2,s1,s2,s3,s4⟩,F2⟩;have hs:=F1.size;have hbl:=Ob.lt ho;have D2:Fr [] w w2:=F1.own F2 (fun i hi=>by simp at hi;omega);have hD2:=hD.up D2;go_wp2_with fail;go_ret;simp only [List.nil_append] at F2v;have hRl:∀ k,k∈R->k<w.heap.size:=hR;refine ⟨_,_,rfl,⟨_,fv',[(fb,fb :: lb :: [],Fm.new c chunk (J9 ds))],⟨h2,hD2,hdR,F2v,rfl,fun t ht=>?_,fun hi=>?_,fun t ht=>?_,by simp,fun k hk=>(s4 k hk).2.1,fun k hk=>?_⟩,rfl⟩,fun k hk=>?_,D2⟩
 ·rw [List.mem_singleton.1 ht];exact ⟨lb,none,none,none,none,[],g2,q2,.inl ⟨rfl,rfl,rfl,rfl⟩,s3,by simp,by simp,rfl⟩
 ·have:=(s4 _ hi).1;omega
 ·rw [List.mem_singleton.1 ht];refine ⟨by simp;omega,fun k hk hv=>?_⟩;have:=s4 k hv;simp at hk;rcases hk with e | e
  ·exact this.2.2.1 e
  ·exact this.2.2.2 e
 ·have:=hRl k hk;refine ⟨qj this D2.size,by omega,fun hv=>by have:=(s4 k hv).1;omega,fun t ht hi=>?_⟩;rw [List.mem_singleton.1 ht] at hi;simp at hi;omega
 ·rcases ym.1 hk with rfl | hk | ⟨t,ht,hk⟩
  ·omega
  ·have:=(s4 k hk).1;omega
  ·rw [List.mem_singleton.1 ht] at hk;simp at hk;omega
def PtC (x:Pt) (dv:Value) (wp xp mp:Option Nat):Array Value:=#[.int .i64 x.c.t,.int .i64 x.c.c,.int .i64 x.c.wd,.int .i64 x.c.v,.int .i64 x.key,.int .i64 x.data,dv,vg wp,vg xp,vg mp,.bool x.over,.int .i64 x.version,.int .i64 x.e,.bool x.placed]
def Vk (w:World) (b:Nat) (x:Pt) (dv:Value) (wp xp mp:Option Nat):Prop:=Ob w b 117 (PtC x dv wp xp mp)
theorem zn {w:World} {b:Nat} {x:Pt} {dv:Value} {wp xp mp:Option Nat} (h:Vk w b x dv wp xp mp):w.cell? ⟨b,0,none⟩=some (.int .i64 x.c.t)/\w.cell? ⟨b,1,none⟩=some (.int .i64 x.c.c)/\w.cell? ⟨b,2,none⟩=some (.int .i64 x.c.wd)/\w.cell? ⟨b,3,none⟩=some (.int .i64 x.c.v)/\w.cell? ⟨b,4,none⟩=some (.int .i64 x.key)/\w.cell? ⟨b,5,none⟩=some (.int .i64 x.data)/\w.cell? ⟨b,6,none⟩=some dv/\w.cell? ⟨b,7,none⟩=some (vg wp)/\w.cell? ⟨b,8,none⟩=some (vg xp)/\w.cell? ⟨b,9,none⟩=some (vg mp)/\w.cell? ⟨b,10,none⟩=some (.bool x.over)/\w.cell? ⟨b,11,none⟩=some (.int .i64 x.version)/\w.cell? ⟨b,12,none⟩=some (.int .i64 x.e)/\w.cell? ⟨b,13,none⟩=some (.bool x.placed) :=
 ⟨h.cell rfl,h.cell rfl,h.cell rfl,h.cell rfl,h.cell rfl,h.cell rfl,h.cell rfl,h.cell rfl,h.cell rfl,h.cell rfl,h.cell rfl,h.cell rfl,h.cell rfl,h.cell rfl⟩
theorem q31 {w:World} {R B:List Nat} {b:Nat} {m:Md} (h:Sr w R B b m):∃ dv,w.cell? ⟨b,4,none⟩=some dv/\w.cell? ⟨b,6,none⟩=some (.int .i64 m.e)/\Sq fI w dv m.draws/\∀ k,k∈dv.ownBlock.toList->k∈R:=by obtain ⟨dv,fv,fr,h,-⟩:=h;exact ⟨dv,h.o.cell rfl,h.o.cell rfl,h.d,h.dr⟩
theorem put_w (x:Pt) (hc:x.c.Ok) (hw9:x.w.c=x.c/\x.w.key=x.key) (hk:0<=x.key/\x.key<=63) (ho:x.over=false) (b wb p q:Nat) (dv:Value) (s:St) (w:World) (h:Vk w b x dv (some wb) none none) (hW:Z2 w wb x.w) (hA:Rar w p q s) (nbw:¬ b=wb) (nbp:¬ b=p) (nbq:¬ b=q) (nwp:wb≠p) (nwq:wb≠q) :
  Calls Tryz.prog 74 #[.pointer (some ⟨b,0,none⟩),.pointer (some ⟨p,0,none⟩)] w fun e w'=>e = .returned (.bool false)/\Z2 w' wb (x.w.step s).1/\Rar w' p q (x.w.step s).2 /\
   (((x.w.step s).1.line=0/\∃ xb,w.heap.size<=xb/\Vk w' b { x with placed:=false } dv (some wb) (some xb) none/\X0 w' xb (Cl.new x.c (x.w.step s).1.at_ x.key x.data))\/((x.w.step s).1.line≠0/\Vk w' b { x with placed:=false } dv (some wb) none none))/\Fr [b,wb,p,q] w w':=by
 generalize hy:x.w.step s=y;have HY:=q9 hy;clear hy;obtain ⟨y1,y2⟩:=y;obtain ⟨c0,c1,c2,c3,c4,c5,c6,c7,c8,c9,c10,c11,c12,c13⟩:=zn h;rw [ho] at c10;have HO:=q9 ho;clear ho;unfold vg at c7 c8 c9;simp only at c7 c8 c9;have z:=h.frozen;go_enter Tryz.func74,Tryz.ntmps74;go_wp2_with fail;have h1:Vk _ b { x with placed:=false } dv (some wb) none none:=Ob.set h (i:=13) (.bool false);have W1:Z2 _ wb x.w:=Ob.other hW (Ne.symm nbw) (i:=13) (.bool false);have A1:=Rar.set hA nbp nbq (i:=13) (.bool false);have D1:Fr [b,wb,p,q] w (w.setCell ⟨b,13,none⟩ (.bool false)):=Fr.setCell _ Lc;clear c0 c1 c2 c3 c4 c5 c6 c7 c8 c9 c10 c11 c12 c13 z h hW hA;generalize (w.setCell ⟨b,13,none⟩ (.bool false))=w1 at *;refine (Kw x.w (by rw [hw9.1];exact hc) (by rw [hw9.2];exact hk) wb p q s w1 W1 A1 nwp nwq).mono ?_;rintro e w2 ⟨rfl,W2,A2,F2⟩;have h2:=Ob.kept h1 F2 (by simp;exact ⟨nbw,nbp,nbq⟩);have D2:Fr [b,wb,p,q] w w2:=D1.trans (F2.mono);rw [HY.out] at W2 A2 ⊢;simp only at W2 A2 ⊢;clear h1 W1 A1 D1 F2;by_cases hl0:y1.line=0
 ·have g0:decide (y1.line=0)=true:=by simpa using hl0
  rw [g0];have HL0:=q9 hl0;clear hl0 g0;go_wp2_with fail;refine qp Le ?_;refine za [] w2 #[true,true,true,true,true,true,true,true,true,true,true,true,true,true,true,true,true,true,true,true,true,false,false,false] 21 3 rfl ?_;refine lpq [true,true,true,true,true,true,true,true,true,true,true,true,true,true,true,true,true,true,true,true,false,false,false,false] 1 ((Fr.refl _ _).drew) ?_;apply qg;refine ⟨fun wf Ff=>?_,?_⟩
  ·obtain ⟨c0,c1,c2,c3,c4,c5,c6,c7,c8,c9,c10,c11,c12,c13⟩:=zn (Ob.up h2 Ff);unfold vg at c7 c8 c9;simp only at c7 c8 c9;have y9:=(xc (Ob.up W2 Ff)).2.2.2.2.2.2.2.2.2;have j0:=qb c0;have j1:=qb c1;have j2:=qb c2;have j3:=qb c3;have j4:=qb c4;have j5:=qb c5;have j7:=qb c7;have j9:=qb y9;clear c0 c1 c2 c3 c4 c5 c6 c7 c8 c9 c10 c11 c12 c13 y9;exact Ab
  refine loq 20 (fun w3 F3=>?_);have E:=((Fr.refl [] w2).drew.trans F3);clear F3;go_wp2_with fail;refine (q1b x.c y1.at_ x.key x.data w3).mono ?_;rintro e w4 ⟨xb,rfl,hxb,X4,F4⟩;have hE:=E.size;replace E:=E.trans F4;clear F4;go_wp2_with fail;refine ql ⟨E,?_⟩;refine qy (k:=21) rfl Le (fun w5 F5=>?_);replace E:=E.trans F5;have X5:=Ob.up X4 F5;have h5:=Ob.up h2 E;have W5:=Ob.up W2 E;have A5:=A2.kept E;have D5:=D2.then E;have HXB:=q9 (qh D2.size (qh hE hxb));have nbx:¬ b=xb:=by have:=Ob.lt h2;omega
  clear h2 W2 A2 D2 E F5 X4 hxb hE;obtain ⟨c0,c1,c2,c3,c4,c5,c6,c7,c8,c9,c10,c11,c12,c13⟩:=zn h5;have z:=h5.frozen;go_wp2_with fail;go_ret;exact ⟨Eq.trans (b:=.returned (.bool x.over)) rfl O1,Ob.other W5 (Ne.symm nbw) _,Rar.set A5 nbp nbq _,.inl ⟨HL0.out,xb,HXB.out,Ob.set h5 _,Ob.other X5 (Ne.symm nbx) _⟩,D5.trans (Fr.setCell _ Lc)⟩
 ·have g0:decide (y1.line=0)=false:=by simpa using hl0
  rw [g0];have HL0:=q9 hl0;clear hl0 g0;obtain ⟨c0,c1,c2,c3,c4,c5,c6,c7,c8,c9,c10,c11,c12,c13⟩:=zn h2;go_wp2_with fail;go_ret;exact ⟨Eq.trans (b:=.returned (.bool x.over)) rfl O1,W2,A2,.inr ⟨HL0.out,h2⟩,D2⟩
def AftX (w w':World) (R:List Nat) (b xb:Nat) (x:Pt) (dv:Value) (wp:Option Nat) (y:Cl) (pl:Bool) (e:Ending):Prop :=
 (y.line≠0/\e = .returned (.bool false)/\Vk w' b { x with placed:=pl } dv wp (some xb) none) \/
 (y.line=0/\0<=y.version/\e = .returned (.bool true)/\Vk w' b { x with placed:=pl,version:=y.version,over:=true } dv wp (some xb) none) \/
 (y.line=0/\y.version<0/\e = .returned (.bool false)/\∃ mb B,Vk w' b { x with placed:=pl } dv wp (some xb) (some mb)/\Sr w' R B mb (Md.new x.c y.chunk x.draws)/\∀ k,k∈B->w.heap.size<=k)
theorem put_x (x:Pt) (hc:x.c.Ok) (cl:Cl) (hcl:cl.c.Ok) (ho:x.over=false) (b xb p q:Nat) (dv:Value) (wp:Option Nat) (R:List Nat) (s:St) (w:World) (h:Vk w b x dv wp (some xb) none) (hX:X0 w xb cl) (hA:Rar w p q s) (hD:Sq fI w dv x.draws) (hdR:∀ k,k∈dv.ownBlock.toList->k∈R) (hR:∀ k,k∈R->k<w.heap.size) (nR:b∉R/\xb∉R/\p∉R/\q∉R) (nbx:¬ b=xb) (nbp:¬ b=p) (nbq:¬ b=q) (nxp:xb≠p) (nxq:xb≠q) :
  Calls Tryz.prog 74 #[.pointer (some ⟨b,0,none⟩),.pointer (some ⟨p,0,none⟩)] w fun e w'=>AftX w w' R b xb x dv wp (cl.step s).1 (decide (cl.i<0) && decide (0<=(cl.step s).1.i)) e/\X0 w' xb (cl.step s).1/\Rar w' p q (cl.step s).2/\Fr [b,xb,p,q] w w':=by
 generalize hy:cl.step s=y;have HY:=q9 hy;clear hy;obtain ⟨y1,y2⟩:=y;simp only;have HD:=q9 (fun W (F:Fr [b,xb,p,q] w W)=>hD.kept F (fun k hk hi=>by simp only [List.mem_cons,List.not_mem_nil,or_false] at hi;rcases hi with rfl | rfl | rfl | rfl;exact nR.1 (hdR _ hk);exact nR.2.1 (hdR _ hk);exact nR.2.2.1 (hdR _ hk);exact nR.2.2.2 (hdR _ hk)));clear hD;generalize hpl:(decide (cl.i<0) && decide (0<=y1.i))=pl;have HPL0:=q9 hpl;clear hpl;obtain ⟨c0,c1,c2,c3,c4,c5,c6,c7,c8,c9,c10,c11,c12,c13⟩:=zn h;rw [ho] at c10;have HO:=q9 ho;clear ho;unfold vg at c8 c9;simp only at c8 c9;obtain ⟨-,-,-,-,u4,-,-,-,u8,-,u10⟩:=zu hX;have z:=h.frozen;by_cases hi0:cl.i<0
 focus
  have gi:decide (cl.i<0)=true:=by simpa using hi0
  by_cases hj0:0<=y1.i
  ·have gj:decide (y1.i≥0)=true:=by simpa using hj0
   have HPL:=q9 (show pl=true by rw [<- HPL0.out];simp [hi0,hj0])
   clear hi0 hj0
   go_enter Tryz.func74,Tryz.ntmps74
   go_wp2_with fail
   have h1:Vk _ b { x with placed:=false } dv wp (some xb) none:=Ob.set h (i:=13) (.bool false)
   have X1:X0 _ xb cl:=Ob.other hX (Ne.symm nbx) (i:=13) (.bool false)
   have A1:=Rar.set hA nbp nbq (i:=13) (.bool false)
   have D1:Fr [b,xb,p,q] w (w.setCell ⟨b,13,none⟩ (.bool false)):=Fr.setCell _ Lc
   clear c0 c1 c2 c3 c4 c5 c6 c7 c8 c9 c10 c11 c12 c13 z h hX hA u4 u8 u10
   generalize (w.setCell ⟨b,13,none⟩ (.bool false))=w1 at *
   refine (Sa cl hcl xb p q s w1 X1 A1 nxp nxq).mono ?_;rintro e w2 ⟨rfl,X2,A2,F2⟩
   have h2:=Ob.kept h1 F2 (by simp;exact ⟨nbx,nbp,nbq⟩)
   have D2:Fr [b,xb,p,q] w w2:=D1.trans (F2.mono)
   rw [HY.out] at X2 A2 ⊢
   simp only at X2 A2 ⊢
   clear h1 X1 A1 D1 F2
   by_cases hl0:y1.line=0
   ·have g0:decide (y1.line=0)=true:=by simpa using hl0
    rw [g0]
    have HL0:=q9 hl0
    clear hl0 g0
    obtain ⟨c0,c1,c2,c3,c4,c5,c6,c7,c8,c9,c10,c11,c12,c13⟩:=zn h2
    unfold vg at c8
    simp only at c8
    obtain ⟨-,-,-,-,u4,-,-,-,u8,-,u10⟩:=zu X2
    have z:=h2.frozen
    by_cases hv0:0<=y1.version
    ·have gv:decide (y1.version≥0)=true:=by simpa using hv0
     have HV0:=q9 hv0
     clear hv0
     go_wp2_with fail
     go_ret
     exact ⟨by rw [HPL.out];exact .inr (.inl ⟨HL0.out,HV0.out,rfl,(Ob.set (Ob.set (Ob.set h2 _) (i:=10) (.bool true)) (i:=13) (.bool true))⟩),Ob.other (Ob.other (Ob.other X2 (Ne.symm nbx) _) (Ne.symm nbx) _) (Ne.symm nbx) _,Rar.set (Rar.set (Rar.set A2 nbp nbq _) nbp nbq (i:=10) (.bool true)) nbp nbq (i:=13) (.bool true),((D2.trans (Fr.setCell _ Lc)).setCell' _ Lc).trans (Fr.setCell _ Lc)⟩
    have gv:decide (y1.version≥0)=false:=by simpa using hv0
    have HV0:=q9 hv0
    clear hv0
    go_wp2_with fail
    clear c0 c1 c2 c3 c4 c5 c6 c7 c8 c9 c10 c11 c12 c13 z u4 u8 u10 gv
    refine qp Le ?_
    refine za [] w2 #[true,true,true,true,true,true,true,true,true,true,true,true,true,true,true,true,true,false,false,false] 17 3 rfl ?_
    refine lpq [true,true,true,true,true,true,true,true,true,true,true,true,true,true,true,true,false,false,false,false] 1 ((Fr.refl _ _).drew) ?_
    apply qg
    refine ⟨fun wf Ff=>?_,?_⟩
    ·obtain ⟨c0,c1,c2,c3,c4,c5,c6,c7,c8,c9,c10,c11,c12,c13⟩:=zn (Ob.up h2 Ff)
     unfold vg at c8
     simp only at c8
     obtain ⟨-,-,-,-,u4,-,-,-,u8,-,u10⟩:=zu (Ob.up X2 Ff)
     have j0:=qb c0
     have j1:=qb c1
     have j2:=qb c2
     have j3:=qb c3
     have j6:=qb c6
     have j8:=qb c8
     have k4:=qb u4
     clear c0 c1 c2 c3 c4 c5 c6 c7 c8 c9 c10 c11 c12 c13 u4 u8 u10
     simp only [sel]
     repeat (go_big_quiet_step (fail))
     exact wpQuiet_nil rfl
    refine loq 16 (fun w3 F3=>?_)
    have E:=((Fr.refl [] w2).drew.trans F3)
    clear F3
    go_wp2_with fail
    refine (Kn x.c hc y1.chunk x.draws dv R w3 (HD.out _ (D2.then E)) hdR (fun k hk=>qj (hR k hk) (qh D2.size E.size))).mono ?_;rintro e w4 ⟨mb,B,rfl,M4,hB,F4⟩
    have hE:=E.size
    replace E:=E.trans F4
    clear F4
    go_wp2_with fail
    refine ql ⟨E,?_⟩
    refine qy (k:=17) rfl Le (fun w5 F5=>?_)
    replace E:=E.trans F5
    have M5:=M4.kept F5 Lc Lc
    have h5:=Ob.up h2 E
    have X5:=Ob.up X2 E
    have A5:=A2.kept E
    have D5:=D2.then E
    have HB:=q9 (fun k hk=>qh D2.size (qh hE (hB k hk)))
    have nbB:b∉B:=fun hi=>by have:=hB b hi;have:=Ob.lt h2;omega
    clear h2 X2 A2 D2 E F5 M4 hB hE
    obtain ⟨c0,c1,c2,c3,c4,c5,c6,c7,c8,c9,c10,c11,c12,c13⟩:=zn h5
    unfold vg at c8
    simp only at c8
    obtain ⟨-,-,-,-,u4,-,-,-,u8,-,u10⟩:=zu X5
    have z:=h5.frozen
    have HM5:=q9 M5
    clear M5
    go_wp2_with fail
    go_ret
    have SF:Fr [b] w5 ((w5.setCell ⟨b,9,none⟩ (.pointer (some ⟨mb,0,none⟩))).setCell ⟨b,13,none⟩ (.bool true)):=(Fr.setCell _ Lc).setCell' _ Lc
    exact ⟨by rw [HPL.out];exact .inr (.inr ⟨HL0.out,by have:=HV0.out;omega,Eq.trans (b:=.returned (.bool x.over)) rfl O1,mb,B,Ob.set (Ob.set h5 _) (i:=13) (.bool true),HM5.out.kept SF (fun k hk hi=>by simp at hi;subst hi;exact nbB hk) (fun k hk hi=>by simp at hi;subst hi;exact nR.1 hk),HB.out⟩),Ob.other (Ob.other X5 (Ne.symm nbx) _) (Ne.symm nbx) _,Rar.set (Rar.set A5 nbp nbq _) nbp nbq (i:=13) (.bool true),D5.trans (SF.mono)⟩
   have g0:decide (y1.line=0)=false:=by simpa using hl0
   rw [g0]
   have HL0:=q9 hl0
   clear hl0 g0
   obtain ⟨c0,c1,c2,c3,c4,c5,c6,c7,c8,c9,c10,c11,c12,c13⟩:=zn h2
   unfold vg at c8
   simp only at c8
   obtain ⟨-,-,-,-,u4,-,-,-,u8,-,u10⟩:=zu X2
   have z:=h2.frozen
   go_wp2_with fail
   go_ret
   exact ⟨by rw [HPL.out];exact .inl ⟨HL0.out,Eq.trans (b:=.returned (.bool x.over)) rfl O1,(Ob.set h2 _)⟩,Ob.other X2 (Ne.symm nbx) _,Rar.set A2 nbp nbq _,D2.trans (Fr.setCell _ Lc)⟩
  have gj:decide (y1.i≥0)=false:=by simpa using hj0
  have HPL:=q9 (show pl=false by rw [<- HPL0.out];simp [hj0])
  clear hi0 hj0
 rotate_left
 focus
  have gi:decide (cl.i<0)=false:=by simpa using hi0
  have HPL:=q9 (show pl=false by rw [<- HPL0.out];simp [hi0])
  clear hi0
 rotate_left
 all_goals
  go_enter Tryz.func74,Tryz.ntmps74
  go_wp2_with fail
  have h1:Vk _ b { x with placed:=false } dv wp (some xb) none:=Ob.set h (i:=13) (.bool false)
  have X1:X0 _ xb cl:=Ob.other hX (Ne.symm nbx) (i:=13) (.bool false)
  have A1:=Rar.set hA nbp nbq (i:=13) (.bool false)
  have D1:Fr [b,xb,p,q] w (w.setCell ⟨b,13,none⟩ (.bool false)):=Fr.setCell _ Lc
  clear c0 c1 c2 c3 c4 c5 c6 c7 c8 c9 c10 c11 c12 c13 z h hX hA u4 u8 u10
  generalize (w.setCell ⟨b,13,none⟩ (.bool false))=w1 at *
  refine (Sa cl hcl xb p q s w1 X1 A1 nxp nxq).mono ?_;rintro e w2 ⟨rfl,X2,A2,F2⟩
  have h2:=Ob.kept h1 F2 (by simp;exact ⟨nbx,nbp,nbq⟩)
  have D2:Fr [b,xb,p,q] w w2:=D1.trans (F2.mono)
  rw [HY.out] at X2 A2 ⊢
  simp only at X2 A2 ⊢
  clear h1 X1 A1 D1 F2
  by_cases hl0:y1.line=0
  ·have g0:decide (y1.line=0)=true:=by simpa using hl0
   rw [g0]
   have HL0:=q9 hl0
   clear hl0 g0
   obtain ⟨c0,c1,c2,c3,c4,c5,c6,c7,c8,c9,c10,c11,c12,c13⟩:=zn h2
   unfold vg at c8
   simp only at c8
   obtain ⟨-,-,-,-,u4,-,-,-,u8,-,u10⟩:=zu X2
   have z:=h2.frozen
   by_cases hv0:0<=y1.version
   ·have gv:decide (y1.version≥0)=true:=by simpa using hv0
    have HV0:=q9 hv0
    clear hv0
    go_wp2_with fail
    go_ret
    exact ⟨by rw [HPL.out];exact .inr (.inl ⟨HL0.out,HV0.out,rfl,(Ob.set (Ob.set (Ob.set h2 _) (i:=10) (.bool true)) (i:=13) (.bool false))⟩),Ob.other (Ob.other (Ob.other X2 (Ne.symm nbx) _) (Ne.symm nbx) _) (Ne.symm nbx) _,Rar.set (Rar.set (Rar.set A2 nbp nbq _) nbp nbq (i:=10) (.bool true)) nbp nbq (i:=13) (.bool false),((D2.trans (Fr.setCell _ Lc)).setCell' _ Lc).trans (Fr.setCell _ Lc)⟩
   have gv:decide (y1.version≥0)=false:=by simpa using hv0
   have HV0:=q9 hv0
   clear hv0
   go_wp2_with fail
   clear c0 c1 c2 c3 c4 c5 c6 c7 c8 c9 c10 c11 c12 c13 z u4 u8 u10 gv
   refine qp Le ?_
   refine za [] w2 #[true,true,true,true,true,true,true,true,true,true,true,true,true,true,true,true,true,false,false,false] 17 3 rfl ?_
   refine lpq [true,true,true,true,true,true,true,true,true,true,true,true,true,true,true,true,false,false,false,false] 1 ((Fr.refl _ _).drew) ?_
   apply qg
   refine ⟨fun wf Ff=>?_,?_⟩
   ·obtain ⟨c0,c1,c2,c3,c4,c5,c6,c7,c8,c9,c10,c11,c12,c13⟩:=zn (Ob.up h2 Ff)
    unfold vg at c8
    simp only at c8
    obtain ⟨-,-,-,-,u4,-,-,-,u8,-,u10⟩:=zu (Ob.up X2 Ff)
    have j0:=qb c0
    have j1:=qb c1
    have j2:=qb c2
    have j3:=qb c3
    have j6:=qb c6
    have j8:=qb c8
    have k4:=qb u4
    clear c0 c1 c2 c3 c4 c5 c6 c7 c8 c9 c10 c11 c12 c13 u4 u8 u10
    simp only [sel]
    repeat (go_big_quiet_step (fail))
    exact wpQuiet_nil rfl
   refine loq 16 (fun w3 F3=>?_)
   have E:=((Fr.refl [] w2).drew.trans F3)
   clear F3
   go_wp2_with fail
   refine (Kn x.c hc y1.chunk x.draws dv R w3 (HD.out _ (D2.then E)) hdR (fun k hk=>qj (hR k hk) (qh D2.size E.size))).mono ?_;rintro e w4 ⟨mb,B,rfl,M4,hB,F4⟩
   have hE:=E.size
   replace E:=E.trans F4
   clear F4
   go_wp2_with fail
   refine ql ⟨E,?_⟩
   refine qy (k:=17) rfl Le (fun w5 F5=>?_)
   replace E:=E.trans F5
   have M5:=M4.kept F5 Lc Lc
   have h5:=Ob.up h2 E
   have X5:=Ob.up X2 E
   have A5:=A2.kept E
   have D5:=D2.then E
   have HB:=q9 (fun k hk=>qh D2.size (qh hE (hB k hk)))
   have nbB:b∉B:=fun hi=>by have:=hB b hi;have:=Ob.lt h2;omega
   clear h2 X2 A2 D2 E F5 M4 hB hE
   obtain ⟨c0,c1,c2,c3,c4,c5,c6,c7,c8,c9,c10,c11,c12,c13⟩:=zn h5
   unfold vg at c8
   simp only at c8
   obtain ⟨-,-,-,-,u4,-,-,-,u8,-,u10⟩:=zu X5
   have z:=h5.frozen
   have HM5:=q9 M5
   clear M5
   go_wp2_with fail
   go_ret
   have SF:Fr [b] w5 ((w5.setCell ⟨b,9,none⟩ (.pointer (some ⟨mb,0,none⟩))).setCell ⟨b,13,none⟩ (.bool false)):=(Fr.setCell _ Lc).setCell' _ Lc
   exact ⟨by rw [HPL.out];exact .inr (.inr ⟨HL0.out,by have:=HV0.out;omega,Eq.trans (b:=.returned (.bool x.over)) rfl O1,mb,B,Ob.set (Ob.set h5 _) (i:=13) (.bool false),HM5.out.kept SF (fun k hk hi=>by simp at hi;subst hi;exact nbB hk) (fun k hk hi=>by simp at hi;subst hi;exact nR.1 hk),HB.out⟩),Ob.other (Ob.other X5 (Ne.symm nbx) _) (Ne.symm nbx) _,Rar.set (Rar.set A5 nbp nbq _) nbp nbq (i:=13) (.bool false),D5.trans (SF.mono)⟩
  have g0:decide (y1.line=0)=false:=by simpa using hl0
  rw [g0]
  have HL0:=q9 hl0
  clear hl0 g0
  obtain ⟨c0,c1,c2,c3,c4,c5,c6,c7,c8,c9,c10,c11,c12,c13⟩:=zn h2
  unfold vg at c8
  simp only at c8
  obtain ⟨-,-,-,-,u4,-,-,-,u8,-,u10⟩:=zu X2
  have z:=h2.frozen
  go_wp2_with fail
  go_ret
  exact ⟨by rw [HPL.out];exact .inl ⟨HL0.out,Eq.trans (b:=.returned (.bool x.over)) rfl O1,(Ob.set h2 _)⟩,Ob.other X2 (Ne.symm nbx) _,Rar.set A2 nbp nbq _,D2.trans (Fr.setCell _ Lc)⟩
def Cm (w4:World) (b mb:Nat) (e:Int) (w':World):Prop:=w'.cell? ⟨b,9,none⟩=some (.pointer (some ⟨mb,0,none⟩))/\w'.cell? ⟨mb,6,none⟩=some (.int .i64 e)/\Fr [b] w4 w'
theorem Cm.up {w4:World} {b mb:Nat} {e:Int}:∀ w w2,Cm w4 b mb e w->Fr [] w w2->Cm w4 b mb e w2:=fun w w2 h f=>⟨f.cell h.1 Lc,f.cell h.2.1 Lc,h.2.2.then f⟩
def AftM (w w':World) (R:List Nat) (b mb:Nat) (x:Pt) (wp xp:Option Nat) (Bm:List Nat) (y:Md) (e:Ending):Prop :=
 (y.f≠[]/\e = .returned (.bool false)/\∃ dv' B',Vk w' b { x with placed:=false } dv' wp xp (some mb)/\Sq fI w' dv' y.draws/\(∀ k,k∈dv'.ownBlock.toList->k∈R)/\Sr w' R B' mb y/\∀ k,k∈B'->k∈Bm\/w.heap.size<=k) \/
 (y.f=[]/\e = .returned (.bool (decide (y.e≠0)))/\∃ dv' wb,Vk w' b { x with placed:=false,e:=y.e,over:=decide (y.e≠0) } dv' (some wb) none none/\Sq fI w' dv' y.draws/\(∀ k,k∈dv'.ownBlock.toList->k∈R)/\w.heap.size<=wb/\Z2 w' wb (Wk.new x.c x.key))
theorem put_m (N:Nat) (hN:N<=5000000) (x:Pt) (mm:Md) (hm:Xg N mm) (hne:mm.f≠[]) (ho:x.over=false) (b mb p q:Nat) (dv:Value) (wp xp:Option Nat) (R Bm:List Nat) (s:St) (w:World) (h:Vk w b x dv wp xp (some mb)) (hM:Sr w R Bm mb mm) (hA:Rar w p q s) (nB:b∉Bm/\p∉Bm/\q∉Bm) (nR:b∉R/\p∉R/\q∉R) (nbp:¬ b=p) (nbq:¬ b=q) (nbm:¬ b=mb) :
  Calls Tryz.prog 74 #[.pointer (some ⟨b,0,none⟩),.pointer (some ⟨p,0,none⟩)] w fun e w'=>AftM w w' R b mb x wp xp Bm (mm.step s).1 e/\Rar w' p q (mm.step s).2/\Fr (b :: p :: q :: Bm) w w':=by
 generalize hy:mm.step s=y;have HY:=q9 hy;clear hy;obtain ⟨y1,y2⟩:=y;simp only;obtain ⟨c0,c1,c2,c3,c4,c5,c6,c7,c8,c9,c10,c11,c12,c13⟩:=zn h;rw [ho] at c10;have HO:=q9 ho;clear ho;unfold vg at c9;simp only at c9;have z:=h.frozen;go_enter Tryz.func74,Tryz.ntmps74;go_wp2_with fail;have h1:Vk _ b { x with placed:=false } dv wp xp (some mb):=Ob.set h (i:=13) (.bool false);have SF:Fr [b] w (w.setCell ⟨b,13,none⟩ (.bool false)):=Fr.setCell _ Lc;have M1:=hM.kept SF (fun k hk hi=>by simp at hi;subst hi;exact nB.1 hk) (fun k hk hi=>by simp at hi;subst hi;exact nR.1 hk);have A1:=Rar.set hA nbp nbq (i:=13) (.bool false);have D1:Fr (b :: p :: q :: Bm) w (w.setCell ⟨b,13,none⟩ (.bool false)):=SF.mono;clear c0 c1 c2 c3 c4 c5 c6 c7 c8 c9 c10 c11 c12 c13 z h hM hA SF;generalize (w.setCell ⟨b,13,none⟩ (.bool false))=w1 at *;refine (qau N hN mm hm hne R Bm mb p q s w1 M1 A1 nB.2.1 nB.2.2 nR.2.1 nR.2.2).mono ?_;rintro e w2 ⟨rfl,⟨B',M2,hB2⟩,A2,F2⟩;have h2:Vk w2 b { x with placed:=false } dv wp xp (some mb):=Ob.kept h1 F2 (by simp;exact ⟨nbp,nbq,nB.1⟩);have D2:Fr (b :: p :: q :: Bm) w w2:=D1.trans (F2.mono Ms);have HB2:=q9 (fun k hk=>(hB2 k hk).imp id (fun e=>qh D1.size e));rw [HY.out] at M2 A2 ⊢;simp only at M2 A2 ⊢;have nB':b∉B':=fun hi=>by rcases hB2 b hi with e | e;exact nB.1 e;have:=Ob.lt h1;omega
 clear h1 M1 A1 D1 F2 hB2;obtain ⟨dv',m4,m6,S2,R2⟩:=q31 M2;obtain ⟨ad,cd,rfl,-,-,-⟩:=id S2;obtain ⟨c0,c1,c2,c3,c4,c5,c6,c7,c8,c9,c10,c11,c12,c13⟩:=zn h2;unfold vg at c9;simp only at c9;have z:=h2.frozen;have HM:=q9 (qc M2 (qc S2 R2));clear M2 S2 R2;have nbd:b∉(Value.slice ad y1.draws.length cd).ownBlock.toList:=fun hi=>nR.1 (HM.out.2.2 b hi)
 by_cases hf0:y1.f=[]
 ·have g0:decide (y1.f=[])=true:=by simpa using hf0
  rw [g0];have HF0:=q9 hf0;clear hf0 g0;go_wp2_with fail;have h3:Vk _ b { x with placed:=false } (.slice ad y1.draws.length cd) wp xp (some mb):=Ob.set h2 (i:=6) (.slice ad y1.draws.length cd);have SF:Fr [b] w2 (w2.setCell ⟨b,6,none⟩ (.slice ad y1.draws.length cd)):=Fr.setCell _ Lc;have HM3:=q9 (qc (HM.out.1.kept SF (fun k hk hi=>by simp at hi;subst hi;exact nB' hk) (fun k hk hi=>by simp at hi;subst hi;exact nR.1 hk)) (HM.out.2.1.kept SF (fun k hk hi=>by simp at hi;subst hi;exact nbd hk)));have A3:=Rar.set A2 nbp nbq (i:=6) (.slice ad y1.draws.length cd);have D3:=D2.trans (SF.mono (T:=b :: p :: q :: Bm) Lc);have m63:=SF.cell m6 Om;clear c0 c1 c2 c3 c4 c5 c6 c7 c8 c9 c10 c11 c12 c13 z h2 A2 D2 SF m4 m6;generalize (w2.setCell ⟨b,6,none⟩ (.slice ad y1.draws.length cd))=w3 at *;have c93:w3.cell? ⟨b,9,none⟩=some (.pointer (some ⟨mb,0,none⟩)):=h3.cell rfl;refine qp Le ?_;refine q1s (Cm w3 b mb y1.e) #[true,true,true,true,true,true,true,true,true,true,true,true,true,true,true,true,true,true,true,true,true,true,true] 23 0 rfl ?_;refine Rk Cm.up [true,true,true,true,true,true,true,true,true,true,true,true,true,true,true,true,true,false,false,false,false,false,false] 6 (n:=184) (listed':=#[true,true,true,true,true,true,true,true,true,true,true,true,true,true,true,true,true,false,false,false,false,false,false]) rfl Le Le Le Le rfl Le (fun _ _ d _ _ h=>by cases d <;> exact h) (Cm.up w3 _ ⟨c93,m63,Fr.refl _ _⟩ ((Fr.refl _ _).drew)) ?_;apply qg;refine ⟨fun wf hf=>?_,?_⟩
  ·have k9:=qb hf.1;have k6:=qb hf.2.1;clear hf;exact Ab
  have E:=(Fr.refl [] w3).drew;have h4:=Ob.up h3 E;have A4:=A3.kept E;have D4:=D3.then E;have H4:=Cm.up w3 _ ⟨c93,m63,Fr.refl [b] w3⟩ E;clear h3 A3 D3 c93 m63 E;generalize w3.drew=w4 at *;refine jl 17 Le rfl rfl (fun w5 F5=>?_);have h5:=Ob.up h4 F5;have A5:=A4.kept F5;have D5:=D4.then F5;have H5:=Cm.up _ _ H4 F5;clear h4 A4 D4 H4 F5;go_wp2_with fail;refine ql ⟨H5,?_⟩;refine jl 18 Le rfl rfl (fun w6 F6=>?_);have h6:=Ob.up h5 F6;have A6:=A5.kept F6;have D6:=D5.then F6;have H6:=Cm.up _ _ H5 F6;clear h5 A5 D5 H5 F6;go_wp2_with fail;refine ql ⟨H6,?_⟩;refine jl 19 Le rfl rfl (fun w7 F7=>?_);have h7z:=Ob.up h6 F7;have A7z:=A6.kept F7;have D7z:=D6.then F7;have H7z:=Cm.up _ _ H6 F7;have z:=h7z.frozen;obtain ⟨c0,c1,c2,c3,c4,c5,c6,c7,c8,c9,c10,c11,c12,c13⟩:=zn h7z;clear h6 A6 D6 H6 F7;go_wp2_with fail;have h8:Vk _ b { x with placed:=false,e:=y1.e } (.slice ad y1.draws.length cd) wp xp (some mb):=Ob.set h7z (i:=12) (.int .i64 y1.e);have SF:Fr [b] w7 (w7.setCell ⟨b,12,none⟩ (.int .i64 y1.e)):=Fr.setCell _ Lc;have A8:=Rar.set A7z nbp nbq (i:=12) (.int .i64 y1.e);have D8:=D7z.trans (SF.mono (T:=b :: p :: q :: Bm) Lc);have H8:Cm w3 b mb y1.e (w7.setCell ⟨b,12,none⟩ (.int .i64 y1.e)):=⟨h8.cell rfl,SF.cell H7z.2.1 Om,H7z.2.2.trans SF⟩;clear c0 c1 c2 c3 c4 c5 c6 c7 c8 c9 c10 c11 c12 c13 z h7z A7z D7z H7z SF;generalize (w7.setCell ⟨b,12,none⟩ (.int .i64 y1.e))=w8 at *;refine ql ⟨H8,?_⟩;refine jl 20 Le rfl rfl (fun w9 F9=>?_);have h9:=Ob.up h8 F9;have A9:=A8.kept F9;have D9:=D8.then F9;have H9:=Cm.up _ _ H8 F9;clear h8 A8 D8 H8 F9;go_wp2_with fail;refine ql ⟨H9,?_⟩;refine jl 21 Le rfl rfl (fun w10 F10=>?_);have h10:=Ob.up h9 F10;have A10:=A9.kept F10;have D10:=D9.then F10;have H10:=Cm.up _ _ H9 F10;clear h9 A9 D9 H9 F10;go_wp2_with fail;refine ql ⟨H10,?_⟩;generalize hob:(y1.e != 0)=ob at *;have HOB:=q9 (show decide (y1.e≠0)=ob by rw [<- hob];by_cases h0:y1.e=0 <;> simp [h0]);clear hob;refine jl 22 Le rfl rfl (fun w11 F11=>?_);have h11z:=Ob.up h10 F11;have A11z:=A10.kept F11;have D11z:=D10.then F11;have H11z:=Cm.up _ _ H10 F11;have z:=h11z.frozen;obtain ⟨c0,c1,c2,c3,c4,c5,c6,c7,c8,c9,c10,c11,c12,c13⟩:=zn h11z;clear h10 A10 D10 H10 F11;go_wp2_with fail;have h12:Vk _ b { x with placed:=false,e:=y1.e,over:=ob } (.slice ad y1.draws.length cd) wp xp (some mb):=Ob.set h11z (i:=10) (.bool ob);have SF:Fr [b] w11 (w11.setCell ⟨b,10,none⟩ (.bool ob)):=Fr.setCell _ Lc;have A12:=Rar.set A11z nbp nbq (i:=10) (.bool ob);have D12:=D11z.trans (SF.mono (T:=b :: p :: q :: Bm) Lc);have H12:Cm w3 b mb y1.e (w11.setCell ⟨b,10,none⟩ (.bool ob)):=⟨h12.cell rfl,SF.cell H11z.2.1 Om,H11z.2.2.trans SF⟩;clear c0 c1 c2 c3 c4 c5 c6 c7 c8 c9 c10 c11 c12 c13 z h11z A11z D11z H11z SF;generalize (w11.setCell ⟨b,10,none⟩ (.bool ob))=w12 at *;refine ql ⟨H12,?_⟩;refine q7k (k:=23) rfl Le (fun w13 F13=>?_);have h13:=Ob.up h12 F13;have A13:=A12.kept F13;have D13:=D12.then F13;have HMS:=q9 (HM3.out.2.kept (H12.2.2.then F13) (fun k hk hi=>by simp at hi;subst hi;exact nbd hk));clear h12 A12 D12 H12 F13;rw [<- HOB.out] at h13;go_wp2_with fail;refine qp Le ?_;refine wm 1 rfl Le Le Le rfl (fun _ _ d _ _ h=>by cases d <;> exact h) ?_;go_frame;refine wm 2 rfl Le Le Le rfl (fun _ _ d _ _ h=>by cases d <;> exact h) ?_;go_frame;refine za [] w13 #[true,true,true,true,true,true,true,true,true,true,true,true,false,false,false,false,false,false,false,false,false] 10 9 rfl ?_;refine ja [true,false,false,true,true,true,true,true,true,true,true,false,false,false,false,false,false,false,false,false,false] 1 (n:=184) (listed':=#[true,true,true,true,true,true,true,true,true,true,true,false,false,false,false,false,false,false,false,false,false]) rfl Le Le Le Le rfl Le (fun _ _ d _ _ h=>by cases d <;> exact h) ((Fr.refl _ _).drew) ?_;apply qg;refine ⟨fun wf Ff=>?_,?_⟩
  ·obtain ⟨c0,c1,c2,c3,c4,c5,c6,c7,c8,c9,c10,c11,c12,c13⟩:=zn (Ob.up h13 Ff);have j0:=qb c0;have j1:=qb c1;have j2:=qb c2;have j3:=qb c3;have j4:=qb c4;clear c0 c1 c2 c3 c4 c5 c6 c7 c8 c9 c10 c11 c12 c13;exact Ab
  refine loq 11 (fun w14 F14=>?_);have E:=((Fr.refl [] w13).drew.trans F14);clear F14;go_wp2_with fail;refine (Zy x.c x.key w14).mono ?_;rintro e w15 ⟨wb,rfl,hwb,W15,F15⟩;have hE:=E.size;replace E:=E.trans F15;clear F15;go_wp2_with fail;refine ql ⟨E,?_⟩;refine qy (k:=12) rfl Le (fun w16 F16=>?_);replace E:=E.trans F16;have W16:=Ob.up W15 F16;have h16:=Ob.up h13 E;have A16:=A13.kept E;have D16:=D13.then E;have HS16:=q9 (HMS.out.up E);have HWB:=q9 (qh D13.size (qh hE hwb));have nbw:¬ b=wb:=by have:=Ob.lt h13;omega
  clear h13 A13 D13 E F16 W15 hwb hE;obtain ⟨c0,c1,c2,c3,c4,c5,c6,c7,c8,c9,c10,c11,c12,c13⟩:=zn h16;have z:=h16.frozen;have HW16:=q9 W16;clear W16;go_wp2_with fail;go_ret;have SF:Fr [b] w16 (((w16.setCell ⟨b,9,none⟩ (.pointer none)).setCell ⟨b,8,none⟩ (.pointer none)).setCell ⟨b,7,none⟩ (.pointer (some ⟨wb,0,none⟩))):=((Fr.setCell _ Lc).setCell' _ Lc).setCell' _ Lc;exact ⟨.inr ⟨HF0.out,Eq.trans (b:=.returned (.bool (!decide (y1.e=0)))) rfl Lc,_,wb,Ob.set (Ob.set (Ob.set h16 _) (i:=8) (.pointer none)) (i:=7) (.pointer (some ⟨wb,0,none⟩)),HS16.out.kept SF (fun k hk hi=>by simp at hi;subst hi;exact nbd hk),HM.out.2.2,HWB.out,HW16.out.kept SF (by simp;exact Ne.symm nbw)⟩,Rar.set (Rar.set (Rar.set A16 nbp nbq _) nbp nbq (i:=8) (.pointer none)) nbp nbq (i:=7) (.pointer (some ⟨wb,0,none⟩)),D16.trans (SF.mono)⟩
 ·have g0:decide (y1.f=[])=false:=by simpa using hf0
  rw [g0];have HF0:=q9 hf0;clear hf0 g0;go_wp2_with fail;go_ret;have SF:Fr [b] w2 (w2.setCell ⟨b,6,none⟩ (.slice ad y1.draws.length cd)):=Fr.setCell _ Lc;exact ⟨.inl ⟨HF0.out,Eq.trans (b:=.returned (.bool x.over)) rfl O1,_,B',Ob.set h2 _,HM.out.2.1.kept SF (fun k hk hi=>by simp at hi;subst hi;exact nbd hk),HM.out.2.2,HM.out.1.kept SF (fun k hk hi=>by simp at hi;subst hi;exact nB' hk) (fun k hk hi=>by simp at hi;subst hi;exact nR.1 hk),HB2.out⟩,Rar.set A2 nbp nbq _,D2.trans (SF.mono)⟩
end Go.Proofs.YtleclbldlladmaaGreat.Mx
