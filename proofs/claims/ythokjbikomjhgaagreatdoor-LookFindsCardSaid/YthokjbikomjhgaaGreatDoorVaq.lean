/- Parts. -/
import Derived.Test.YthokjbikomjhgaaGreatDoorVac
import Derived.Test.YthokjbikomjhgaaGreatDoorVad
import Derived.Test.YthokjbikomjhgaaGreatDoorVam
import Derived.Test.YthokjbikomjhgaaGreatDoorVan
import Derived.Test.YthokjbikomjhgaaGreatDoorVao
import Derived.Test.YthokjbikomjhgaaGreatDoorVap
set_option linter.unusedVariables false
set_option linter.unusedSimpArgs false
set_option maxRecDepth 100000
set_option maxHeartbeats 12800000
namespace Go.Proofs.YthokjbikomjhgaaGreatDoor.Mx
open Go.RowKit Ar Ref
theorem Yx (h:Int):∀ (n:Nat) (l:List It) (out:List (List It)) (cur:List It),(kr h n l out cur).length<=out.length+n+1/\(kr h n l out cur).flatten.length<=out.flatten.length+cur.length+l.length
 | 0,l,out,cur=>by unfold kr;simp
 | n+1,l,out,cur=>by
  unfold kr;cases l with
  | nil=>simp
  | cons x r =>
   simp only
   have e:(r.takeWhile (fun y=>y.k == x.k)).length+(r.dropWhile (fun y=>y.k == x.k)).length=r.length:=by rw [<- List.length_append,List.takeWhile_append_dropWhile]
   split
   ·have:=Yx h n (r.dropWhile (fun y=>y.k == x.k)) (out++[cur]) (x :: r.takeWhile (fun y=>y.k == x.k));simp only [List.length_append,List.length_cons,List.length_nil,List.flatten_append,List.flatten_cons,List.flatten_nil] at this ⊢;omega
   ·have:=Yx h n (r.dropWhile (fun y=>y.k == x.k)) out (cur++(x :: r.takeWhile (fun y=>y.k == x.k)));simp only [List.length_append,List.length_cons] at this ⊢;omega
theorem q3x (l:List It) (cells:Int):(xw l cells).length<=l.length+1/\(xw l cells).flatten.length<=l.length:=by have:=Yx (Xx cells) l.length l [] [];unfold xw;simp at this;simp;omega
structure Zl (x:Bd):Prop where
 c:x.c.Ok
 ln:1<=x.line/\x.line<=8
 v:x.versions.length<=100
 i1:x.line=1->x.i=0
 i4:2<=x.line/\x.line<=4->0<=x.i/\x.i<Q5 x.c x.mate/\(x.l.length:Int)<=x.i
 i5:x.line=5->0<=x.i/\x.i<=40
 l1:x.line=1->x.l=[]
 l:x.l.length<=40
 g:x.groups.length<=41/\x.groups.flatten.length<=40
 w:x.w.length<=100000
 w6:x.line=6->0<=x.i/\x.i<(x.w.length:Int)
 i0:-1<=x.i
theorem Xe {c:Cf} (h:c.Ok) (m:Int):3<=Q5 c m/\Q5 c m<=32:=by have h1:=h.c2;have h2:=h.c16;have h3:=h.t1;unfold Q5;split <;> omega
theorem Zl.ok {x:Bd} (h:Zl x) (hl:x.line<=5):qdl x:=by
 have h1:=h.i1;have h4:=h.i4;have h5:=h.i5;have hL:=h.l;have hv:=h.v;have h0:=h.i0;have hn:=h.ln;have hc:=Xe h.c x.mate;refine ⟨h.c,h0,?_,by omega,hv⟩;rcases (by omega:x.line=1\/(2<=x.line/\x.line<=4)\/x.line=5) with e | e | e
 ·have:=h1 e;omega
 ·have:=h4 e;omega
 ·have:=h5 e;omega
theorem Zl.on {x:Bd} (hc:x.c.Ok) (hv:x.versions.length<=100) (hi:-1<=x.i/\x.i<Q5 x.c x.mate) (hl:(x.l.length:Int)<=x.i+1) (hg:x.groups.length<=41/\x.groups.flatten.length<=40) (hw:x.w.length<=100000):Zl x.on:=by
 have h1:=Xe hc x.mate;unfold Bd.on;split
 ·have h2:=q3x (Yl x.l x.versions) x.c.c;have h3:=Rk x.l x.versions;exact ⟨hc,by simp,hv,by simp,by simp,by simp;omega,by simp,by simp;omega,by simp only;omega,hw,by simp,by simp;omega⟩
 ·exact ⟨hc,by simp,hv,by simp,by simp;omega,by simp,by simp,by simp;omega,hg,hw,by simp,by simp;omega⟩
theorem q4y {ns:List Nk} (h:ns≠[]):0<(yh ns).length:=by
 cases ns with
 | nil=>exact absurd rfl h
 | cons n r=>unfold yh;rw [List.flatMap_cons,List.length_append];unfold Qx;simp;omega
theorem Zl.step {x:Bd} (h:Zl x) (s:St):(x.step s).1.line=0\/Zl (x.step s).1:=by
 obtain ⟨hc,hn,hv,h1,h4,h5,hl1,hl,hg,hw,h6,h0⟩:=h;have hcl:=Xe hc x.mate;rcases (by omega:x.line=1\/x.line=2\/x.line=3\/x.line=4\/x.line=5\/x.line=6\/x.line=7\/x.line=8) with e | e | e | e | e | e | e | e
 ·right;unfold Bd.step;rw [qf e];exact Zl.on (x:={ x with mn:=qw s.l (wrap64 x.chunk),i:=-1 }) hc hv ⟨by simp,by simp only;omega⟩ (by simp only;rw [hl1 e];simp) hg hw
 ·have h4':=h4 Lj;right;unfold Bd.step;rw [qd Lj,qf e];simp only;split
  ·exact Zl.on (x:={ x with x:=⟨0,Vb (qw s.l x.sa),0⟩,line:=3 }) hc hv ⟨by simp only;omega,by simp only;omega⟩ Me hg hw
  ·exact Gu
 ·have h4':=h4 Lj;right;unfold Bd.step;rw [qd Lj,qd Lj,qf e];exact Gu
 ·have h4':=h4 Lj;right;unfold Bd.step;rw [qd Lj,qd Lj,qd Lj,qf e];simp only;exact Zl.on (x:={ x with x:=⟨x.x.k,x.x.v,qw s.l (wrap64 (x.sa+2))⟩,l:=x.l++[⟨x.x.k,x.x.v,qw s.l (wrap64 (x.sa+2))⟩] }) hc hv ⟨by simp only;omega,by simp only;omega⟩ Lu hg hw
 ·have h5':=h5 e;unfold Bd.step;rw [qd Lj,qd Lj,qd Lj,qd Lj,qf e];simp only;unfold Bd.five;simp only;split
  ·left;rfl
  ·rename_i hne;right;obtain ⟨cap,hcap⟩:∃ cap:Nat,x.c.c=(cap:Int):=⟨x.c.c.toNat,by have:=hc.c2;have:=hc.t1;omega⟩;have e1:=Yi (cap:=cap) _ (Ki hcap (wrap64 (qw s.l 2)) x.after x.mn x.groups);have e2:=Ky x.c (wrap64 (qw s.l 2)) x.after x.mn x.groups;have e3:(3+3 * cap) * (yj x.c (wrap64 (qw s.l 2)) x.after x.mn x.groups).length<=51 * 41:=Nat.mul_le_mul (by have:=hc.c16;omega) Lj;have e4:=q4y (ns:=yj x.c (wrap64 (qw s.l 2)) x.after x.mn x.groups) (fun e=>hne (.inr (.inr e)));exact ⟨hc,by simp,hv,by simp,by simp,by simp,by simp,hl,hg,by simp only;omega,fun _=>by simp only;omega,by simp⟩
 ·have h6':=h6 e;right;unfold Bd.step;rw [qd Lj,qd Lj,qd Lj,qd Lj,qd Lj,qf e];by_cases hh:(x.w.length:Int)<=x.i+1
  ·rw [qf hh];exact ⟨hc,by simp,hv,by simp,by simp,by simp,by simp,hl,hg,hw,by simp,by simp only;omega⟩
  ·rw [qd hh];exact ⟨hc,by simp,hv,by simp,by simp,by simp,by simp,hl,hg,hw,by simp only;omega,by simp only;omega⟩
 ·right;unfold Bd.step;rw [qd Lj,qd Lj,qd Lj,qd Lj,qd Lj,qd Lj,qf e];exact ⟨hc,by simp,hv,by simp,by simp,by simp,by simp,hl,hg,hw,by simp,h0⟩
 ·left;unfold Bd.step;rw [qd Lj,qd Lj,qd Lj,qd Lj,qd Lj,qd Lj,qd Lj,qf e]
theorem Zl.new {c:Cf} (hc:c.Ok) (chunk mate after:Int) {vs:List Int} (hv:vs.length<=100):Zl (Bd.new c chunk mate after vs) :=
 ⟨hc,by simp [Bd.new],hv,fun _=>rfl,by simp [Bd.new],by simp [Bd.new],fun _=>rfl,by simp [Bd.new],by simp [Bd.new],by simp [Bd.new],by simp [Bd.new],by simp [Bd.new]⟩
def Qt (vv gv wv:Value) (ss:List Sv):List Nat:=vv.ownBlock.toList++(gv.ownBlock.toList++(ss.flatMap (fun s=>s.v.ownBlock.toList)++wv.ownBlock.toList))
theorem zx {vv gv wv:Value} {ss:List Sv} {k:Nat}:k∈Qt vv gv wv ss↔k∈vv.ownBlock.toList\/k∈gv.ownBlock.toList\/(∃ s,s∈ss/\k∈s.v.ownBlock.toList)\/k∈wv.ownBlock.toList:=by unfold Qt;rw [List.mem_append,List.mem_append,List.mem_append,List.mem_flatMap]
structure BdPt (w:World) (b:Nat) (x:Bd) (vv lv gv wv:Value) (ss:List Sv):Prop where
 o:Q8 w b x vv lv gv wv
 v:Sq fI w vv x.versions
 l:w.ownsRow 0 74 3 lv x.l.length (x.l.flatMap fT)
 g:Sq fS w gv ss
 gs:Gs w ss x.groups
 sw:Sq fQ w wv x.w
 nl:b∉lv.ownBlock.toList
 nr:b∉Qt vv gv wv ss
 lr:∀ k,k∈lv.ownBlock.toList->k∉Qt vv gv wv ss
 lt:∀ k,k∈Qt vv gv wv ss->k<w.heap.size
def Sa (w:World) (B:List Nat) (b:Nat) (x:Bd):Prop:=∃ vv lv gv wv ss,BdPt w b x vv lv gv wv ss/\B=b :: (lv.ownBlock.toList++Qt vv gv wv ss)
theorem Sa.lt {w:World} {B:List Nat} {b:Nat} {x:Bd} (h:Sa w B b x):∀ k,k∈B->k<w.heap.size:=by
 obtain ⟨vv,lv,gv,wv,ss,h,rfl⟩:=h;intro k hk;rcases List.mem_cons.1 hk with rfl | hk
 ·exact Ob.lt h.o
 ·rcases List.mem_append.1 hk with hk | hk
  ·exact Zj h.l k hk
  ·exact h.lt k hk
theorem Sa.kept {S:List Nat} {w w':World} {B:List Nat} {b:Nat} {x:Bd} (h:Sa w B b x) (f:Fr S w w') (hS:∀ k,k∈B->k∉S):Sa w' B b x:=by
 obtain ⟨vv,lv,gv,wv,ss,h,rfl⟩:=h;have hr:∀ k,k∈Qt vv gv wv ss->k∉S:=fun k hk=>hS k Nb
 have hl:∀ k,k∈lv.ownBlock.toList->k∉S:=fun k hk=>hS k (by simp only [List.mem_cons,List.mem_append];exact .inr (.inl hk))
 exact ⟨vv,lv,gv,wv,ss,⟨Ob.kept h.o f (hS b Ll),h.v.kept f (fun k hk=>hr k (zx.2 (.inl hk))),Q4 h.l f (fun g hg=>hl g Ph),h.g.kept f (fun k hk=>hr k (zx.2 (.inr (.inl hk)))),h.gs.kept f (fun s hs k hk=>hr k (zx.2 (.inr (.inr (.inl ⟨s,hs,hk⟩))))),h.sw.kept f (fun k hk=>hr k (zx.2 (.inr (.inr (.inr hk))))),h.nl,h.nr,h.lr,fun k hk=>qj (h.lt k hk) f.size⟩,rfl⟩
theorem Uv {w w':World} {b p q:Nat} {x x':Bd} {vv lv gv wv lv' gv' wv':Value} {ss:List Sv} (h:BdPt w b x vv lv gv wv ss) (hp:p∉b :: (lv.ownBlock.toList++Qt vv gv wv ss)) (hq:q∉b :: (lv.ownBlock.toList++Qt vv gv wv ss)) (F:Fr ([b,p,q]++lv.ownBlock.toList) w w')
  (ho:Q8 w' b x' vv lv' gv' wv') (hv:x'.versions=x.versions) (hl:w'.ownsRow 0 74 3 lv' x'.l.length (x'.l.flatMap fT)) (hl2:∀ k,k∈lv'.ownBlock.toList->k∈lv.ownBlock.toList\/w.heap.size<=k)
  (hg:(x'.groups=x.groups/\gv'=gv)\/∃ ss',Sq fS w' gv' ss'/\Gs w' ss' x'.groups/\(∀ k,k∈gv'.ownBlock.toList->w.heap.size<=k/\k<w'.heap.size)/\(∀ s,s∈ss'->∀ k,k∈s.v.ownBlock.toList->w.heap.size<=k/\k<w'.heap.size)/\(∀ k,k∈lv'.ownBlock.toList->k∉gv'.ownBlock.toList/\∀ s,s∈ss'->k∉s.v.ownBlock.toList))
  (hw:(x'.w=x.w/\wv'=wv)\/(Sq fQ w' wv' x'.w/\(∀ k,k∈wv'.ownBlock.toList->w.heap.size<=k/\k<w'.heap.size)/\∀ k,k∈lv'.ownBlock.toList->k∉wv'.ownBlock.toList)) :
  ∃ B',Sa w' B' b x'/\∀ k,k∈B'->k∈b :: (lv.ownBlock.toList++Qt vv gv wv ss)\/w.heap.size<=k:=by
 have hb:=Ob.lt h.o
 have hS:∀ k,k∈Qt vv gv wv ss->k∉[b,p,q]++lv.ownBlock.toList:=by
  intro k hk hi;simp only [List.mem_append,List.mem_cons,List.not_mem_nil,or_false] at hi;rcases hi with (rfl | rfl | rfl) | hi
  ·exact h.nr hk
  ·exact hp Nb
  ·exact hq Nb
  ·exact h.lr k hi hk
 have hv1:=h.v.kept F (fun k hk=>hS k (zx.2 (.inl hk)));rw [<- hv] at hv1;have nl:b∉lv'.ownBlock.toList:=fun hi=>by rcases hl2 b hi with e | e;exact h.nl e;omega
 have old:∀ k,k∈Qt vv gv wv ss->k<w'.heap.size:=fun k hk=>qj (h.lt k hk) F.size
 have lold:∀ k,k∈lv'.ownBlock.toList->k∉Qt vv gv wv ss:=fun k hk hi=>by rcases hl2 k hk with e | e;exact h.lr k e hi;have:=h.lt k hi;omega
 have G:∃ ss',Sq fS w' gv' ss'/\Gs w' ss' x'.groups/\(∀ k,(k∈gv'.ownBlock.toList\/∃ s,s∈ss'/\k∈s.v.ownBlock.toList)->(k∈Qt vv gv wv ss\/(w.heap.size<=k/\k<w'.heap.size/\k∉lv'.ownBlock.toList))):=by
  rcases hg with ⟨e1,rfl⟩ | ⟨ss',a1,a2,a3,a4,a5⟩
  ·refine ⟨ss,h.g.kept F (fun k hk=>hS k (zx.2 (.inr (.inl hk)))),by rw [e1];exact h.gs.kept F (fun s hs k hk=>hS k (zx.2 (.inr (.inr (.inl ⟨s,hs,hk⟩))))),fun k hk=>.inl ?_⟩;rcases hk with hk | ⟨s,hs,hk⟩
   ·exact zx.2 (.inr (.inl hk))
   ·exact zx.2 (.inr (.inr (.inl ⟨s,hs,hk⟩)))
  ·refine ⟨ss',a1,a2,fun k hk=>.inr ?_⟩;rcases hk with hk | ⟨s,hs,hk⟩
   ·exact ⟨(a3 k hk).1,(a3 k hk).2,fun hi=>(a5 k hi).1 hk⟩
   ·exact ⟨(a4 s hs k hk).1,(a4 s hs k hk).2,fun hi=>(a5 k hi).2 s hs hk⟩
 have W:Sq fQ w' wv' x'.w/\∀ k,k∈wv'.ownBlock.toList->(k∈Qt vv gv wv ss\/(w.heap.size<=k/\k<w'.heap.size/\k∉lv'.ownBlock.toList)):=by
  rcases hw with ⟨e1,rfl⟩ | ⟨a1,a2,a3⟩
  ·exact ⟨by rw [e1];exact h.sw.kept F (fun k hk=>hS k (zx.2 (.inr (.inr (.inr hk))))),fun k hk=>.inl (zx.2 (.inr (.inr (.inr hk))))⟩
  ·exact ⟨a1,fun k hk=>.inr ⟨(a2 k hk).1,(a2 k hk).2,fun hi=>a3 k hi hk⟩⟩
 obtain ⟨ss',g1,g2,g3⟩:=G;obtain ⟨w1,w2⟩:=W
 have all:∀ k,k∈Qt vv gv' wv' ss'->(k∈Qt vv gv wv ss\/(w.heap.size<=k/\k<w'.heap.size/\k∉lv'.ownBlock.toList)):=by
  intro k hk;rcases zx.1 hk with hk | hk | hk | hk
  ·exact .inl (zx.2 (.inl hk))
  ·exact g3 k (.inl hk)
  ·exact g3 k (.inr hk)
  ·exact w2 k hk
 refine ⟨_,⟨vv,lv',gv',wv',ss',⟨ho,hv1,hl,g1,g2,w1,nl,fun hi=>?_,fun k hk hi=>?_,fun k hk=>?_⟩,rfl⟩,fun k hk=>?_⟩
 ·rcases all b hi with e | e
  ·exact h.nr e
  ·omega
 ·rcases all k hi with e | e
  ·exact lold k hk e
  ·exact e.2.2 hk
 ·rcases all k hk with e | e
  ·exact old k e
  ·exact e.2.1
 ·rcases List.mem_cons.1 hk with rfl | hk
  ·exact .inl Ll
  ·rcases List.mem_append.1 hk with hk | hk
   ·exact (hl2 k hk).imp (fun e=>by simp only [List.mem_cons,List.mem_append];exact .inr (.inl e)) id
   ·exact (all k hk).imp (fun e=>by simp only [List.mem_cons,List.mem_append];exact .inr (.inr e)) (fun e=>e.1)
theorem q4m (x:Bd) (hx:Zl x) (B:List Nat) (b p q:Nat) (s:St) (w:World) (h:Sa w B b x) (hA:Rar w p q s) (hp:p∉B) (hq:q∉B) :
  Calls Tryz.prog 214 #[.pointer (some ⟨b,0,none⟩),.pointer (some ⟨p,0,none⟩)] w (Stp w (fun w' B'=>Sa w' B' b (x.step s).1) B p q (x.step s).2 (decide ((x.step s).1.line=0))):=by
 obtain ⟨vv,lv,gv,wv,ss,h,rfl⟩:=h;have hn:=hx.ln;have hbp:b≠p:=fun e=>hp (by simp [e])
 have hbq:b≠q:=fun e=>hq (by simp [e])
 have rp:p∉Qt vv gv wv ss:=fun hi=>hp Nq
 have rq:q∉Qt vv gv wv ss:=fun hi=>hq Nq
 have lp:p∉lv.ownBlock.toList:=fun hi=>hp Nr
 have lq:q∉lv.ownBlock.toList:=fun hi=>hq Nr
 have nV:b∉vv.ownBlock.toList/\p∉vv.ownBlock.toList/\q∉vv.ownBlock.toList:=⟨fun hi=>h.nr (zx.2 (.inl hi)),fun hi=>rp (zx.2 (.inl hi)),fun hi=>rq (zx.2 (.inl hi))⟩;have nG:b∉gv.ownBlock.toList/\p∉gv.ownBlock.toList/\q∉gv.ownBlock.toList:=⟨fun hi=>h.nr (zx.2 (.inr (.inl hi))),fun hi=>rp (zx.2 (.inr (.inl hi))),fun hi=>rq (zx.2 (.inr (.inl hi)))⟩;have nS:∀ s,s∈ss->b∉s.v.ownBlock.toList/\p∉s.v.ownBlock.toList/\q∉s.v.ownBlock.toList:=fun s hs=>⟨fun hi=>h.nr (zx.2 (.inr (.inr (.inl ⟨s,hs,hi⟩)))),fun hi=>rp (zx.2 (.inr (.inr (.inl ⟨s,hs,hi⟩)))),fun hi=>rq (zx.2 (.inr (.inr (.inl ⟨s,hs,hi⟩))))⟩
 have nW:b∉wv.ownBlock.toList/\p∉wv.ownBlock.toList/\q∉wv.ownBlock.toList:=⟨fun hi=>h.nr (zx.2 (.inr (.inr (.inr hi)))),fun hi=>rp (zx.2 (.inr (.inr (.inr hi)))),fun hi=>rq (zx.2 (.inr (.inr (.inr hi))))⟩;have nL:b∉lv.ownBlock.toList/\p∉lv.ownBlock.toList/\q∉lv.ownBlock.toList:=⟨h.nl,lp,lq⟩;have nVL:∀ k,k∈vv.ownBlock.toList->k∉lv.ownBlock.toList:=fun k hk hi=>h.lr k hi (zx.2 (.inl hk))
 have hL:=Sq.own (f:=fT) h.l
 have sub3:∀ k,k∈[b,p,q]++lv.ownBlock.toList->k∈p :: q :: b :: (lv.ownBlock.toList++Qt vv gv wv ss):=by intro k hk;simp only [List.mem_append,List.mem_cons,List.not_mem_nil,or_false] at hk ⊢;rcases hk with (hk | hk | hk) | hk <;> simp [hk]
 have sub1:∀ k,k∈[b,p,q]->k∈[b,p,q]++lv.ownBlock.toList:=fun k hk=>List.mem_append_left _ hk
 have same:∀ (e:Ending) (w':World),(x.step s).1.versions=x.versions->(x.step s).1.l=x.l->(x.step s).1.groups=x.groups->(x.step s).1.w=x.w ->
   (e = .returned (.bool (decide ((x.step s).1.line=0)))/\Q8 w' b (x.step s).1 vv lv gv wv/\Rar w' p q (x.step s).2/\Fr [b,p,q] w w')->Stp w (fun w' B'=>Sa w' B' b (x.step s).1) (b :: (lv.ownBlock.toList++Qt vv gv wv ss)) p q (x.step s).2 (decide ((x.step s).1.line=0)) e w':=by
  rintro e w' e1 e2 e3 e4 ⟨he,ho,hA',F⟩
  have hl':w'.ownsRow 0 74 3 lv (x.step s).1.l.length ((x.step s).1.l.flatMap fT):=by rw [e2];exact Q4 h.l F (fun g hg hi=>by have hk2:g∈lv.ownBlock.toList:=Ph;simp at hi;rcases hi with rfl | rfl | rfl;exact h.nl hk2;exact lp hk2;exact lq hk2)
  obtain ⟨B',h1,h2⟩:=Uv h hp hq (F.mono sub1) ho e1 hl' (fun k hk=>.inl hk) (.inl ⟨e3,rfl⟩) (.inl ⟨e4,rfl⟩)
  exact ⟨he,⟨B',h1,h2⟩,hA',(F.mono sub1).mono sub3⟩
 have on:∀ (e:Ending) (w':World),(x.step s).1.versions=x.versions->(x.step s).1.l=x.l->(x.step s).1.w=x.w ->
   (e = .returned (.bool (decide ((x.step s).1.line=0)))/\(∃ gv',Q8 w' b (x.step s).1 vv lv gv' wv/\(((x.step s).1.groups=x.groups/\gv'=gv)\/∃ ss,Sq fS w' gv' ss/\Gs w' ss (x.step s).1.groups/\(∀ k,k∈gv'.ownBlock.toList->w.heap.size<=k/\k<w'.heap.size)/\(∀ s,s∈ss->∀ k,k∈s.v.ownBlock.toList->w.heap.size<=k/\k<w'.heap.size)))/\Rar w' p q (x.step s).2/\Fr [b,p,q] w w') ->
   Stp w (fun w' B'=>Sa w' B' b (x.step s).1) (b :: (lv.ownBlock.toList++Qt vv gv wv ss)) p q (x.step s).2 (decide ((x.step s).1.line=0)) e w':=by
  rintro e w' e1 e2 e4 ⟨he,⟨gv',ho,hg⟩,hA',F⟩
  have hl':w'.ownsRow 0 74 3 lv (x.step s).1.l.length ((x.step s).1.l.flatMap fT):=by rw [e2];exact Q4 h.l F (fun g hg hi=>by have hk2:g∈lv.ownBlock.toList:=Ph;simp at hi;rcases hi with rfl | rfl | rfl;exact h.nl hk2;exact lp hk2;exact lq hk2)
  obtain ⟨B',h1,h2⟩:=Uv h hp hq (F.mono sub1) ho e1 hl' (fun k hk=>.inl hk) (hg.imp id (fun ⟨ss',a1,a2,a3,a4⟩=>⟨ss',a1,a2,a3,a4,fun k hk=>⟨fun hi=>by have h9:=Zj h.l k hk;have h8:=(a3 k hi).1;omega,fun s hs hi=>by have h9:=Zj h.l k hk;have h8:=(a4 s hs k hi).1;omega⟩⟩)) (.inl ⟨e4,rfl⟩)
  exact ⟨he,⟨B',h1,h2⟩,hA',(F.mono sub1).mono sub3⟩
 have onS:∀ y:Bd,y.on.versions=y.versions/\y.on.l=y.l/\y.on.w=y.w:=fun y=>by unfold Bd.on;split <;> exact ⟨rfl,rfl,rfl⟩
 rcases (by omega:x.line=1\/x.line=2\/x.line=3\/x.line=4\/x.line=5\/x.line=6\/x.line=7\/x.line=8) with e | e | e | e | e | e | e | e
 ·have hs:(x.step s).1=Bd.on { x with mn:=qw s.l (wrap64 x.chunk),i:=-1 }:=by unfold Bd.step;rw [qf e]
  refine (qcd x e (hx.ok Lj) b p q s w vv lv gv wv h.o hA hbp hbq h.v hL nV nL).mono (fun e' w' hh=>on e' w' ?_ ?_ ?_ hh)
  ·rw [hs,(onS _).1]
  ·rw [hs,(onS _).2.1]
  ·rw [hs,(onS _).2.2]
 ·refine (qcb x e (hx.ok Lj) b p q s w vv lv gv wv h.o hA hbp hbq h.v hL nV nL).mono (fun e' w' hh=>on e' w' ?_ ?_ ?_ hh) <;> (unfold Bd.step;rw [qd Lj,qf e];simp only;split) <;> first | rfl | (rw [(onS _).1]) | (rw [(onS _).2.1]) | (rw [(onS _).2.2])
 ·refine (qbt x e hx.c b p q s w vv lv gv wv h.o hA hbp hbq).mono (fun e' w' hh=>same e' w' ?_ ?_ ?_ ?_ hh) <;> (unfold Bd.step;rw [qd Lj,qd Lj,qf e])
 ·refine (qc2 x e (hx.ok Lj) b p q s w vv lv gv wv h.o hA hbp hbq h.v h.l nV nL nVL).mono ?_;rintro e' w' ⟨he,⟨lv',gv',ho,hl',hl2,hg⟩,hA',F⟩;have hs:(x.step s).1=Bd.on { x with x:=⟨x.x.k,x.x.v,qw s.l (wrap64 (x.sa+2))⟩,l:=x.l++[⟨x.x.k,x.x.v,qw s.l (wrap64 (x.sa+2))⟩] }:=by unfold Bd.step;rw [qd Lj,qd Lj,qd Lj,qf e]
  obtain ⟨B',h1,h2⟩:=Uv h hp hq F ho (by rw [hs,(onS _).1]) hl' hl2 hg (.inl ⟨by rw [hs,(onS _).2.2],rfl⟩);exact ⟨he,⟨B',h1,h2⟩,hA',F.mono sub3⟩
 ·have hg9:=hx.g;refine (qc3 x e (hx.ok Lj) Lj Lj b p q s w vv lv gv wv h.o hA hbp hbq ss h.g h.gs nG nS).mono ?_;rintro e' w' ⟨he,⟨wv',ho,hw⟩,hA',F⟩
  have hs:(x.step s).1.versions=x.versions/\(x.step s).1.l=x.l/\(x.step s).1.groups=x.groups:=by unfold Bd.step;rw [qd Lj,qd Lj,qd Lj,qd Lj,qf e];simp only;unfold Bd.five;simp only;exact I8
  have hl':w'.ownsRow 0 74 3 lv (x.step s).1.l.length ((x.step s).1.l.flatMap fT):=by rw [hs.2.1];exact Q4 h.l F (fun g hg hi=>by have hk2:g∈lv.ownBlock.toList:=Ph;simp at hi;rcases hi with rfl | rfl | rfl;exact h.nl hk2;exact lp hk2;exact lq hk2)
  obtain ⟨B',h1,h2⟩:=Uv h hp hq (F.mono sub1) ho hs.1 hl' (fun k hk=>.inl hk) (.inl ⟨hs.2.2,rfl⟩) (hw.imp id (fun ⟨a1,a2⟩=>⟨a1,a2,fun k hk hi=>by have h9:=Zj h.l k hk;have h8:=(a2 k hi).1;omega⟩));exact ⟨he,⟨B',h1,h2⟩,hA',(F.mono sub1).mono sub3⟩
 ·refine (qci x e hx.c (hx.w6 e) hx.w b p q s w vv lv gv wv h.o hA hbp hbq h.sw nW).mono (fun e' w' hh=>same e' w' ?_ ?_ ?_ ?_ hh) <;> (unfold Bd.step;rw [qd Lj,qd Lj,qd Lj,qd Lj,qd Lj,qf e])
 ·refine (qbv x e hx.c b p q s w vv lv gv wv h.o hA hbp hbq).mono (fun e' w' hh=>same e' w' ?_ ?_ ?_ ?_ hh) <;> (unfold Bd.step;rw [qd Lj,qd Lj,qd Lj,qd Lj,qd Lj,qd Lj,qf e])
 ·refine (qb5 x e hx.c b p q s w vv lv gv wv h.o hA hbp hbq).mono (fun e' w' hh=>same e' w' ?_ ?_ ?_ ?_ hh) <;> (unfold Bd.step;rw [qd Lj,qd Lj,qd Lj,qd Lj,qd Lj,qd Lj,qd Lj,qf e])
theorem Qr (x:Ld) (b:Nat) (w:World) (h:yf w b x):Calls Tryz.prog 209 #[.pointer (some ⟨b,0,none⟩)] w fun e w'=>e = .returned (.tuple #[.int .i64 x.three.1,.int .i64 x.three.2.1,.int .i64 x.three.2.2])/\Fr [] w w':=by
 obtain ⟨c0,c1,c2,c3,c4,c5,c6,c7,c8,c9,c10,c11,c12,c13⟩:=ze h;by_cases hl:x.line=0
 ·rw [hl] at c7;cases ha:x.alone
  ·have e3:x.three=(x.l,x.n,x.after):=by unfold Ld.three;simp [hl,ha]
   rw [e3];rw [ha] at c12;go_enter Tryz.func209,Tryz.ntmps209;go_wp2_with fail;have k8:=qb c8;have k9:=qb c9;exact Cn
  have e3:x.three=(x.l,0,x.after):=by unfold Ld.three;simp [hl,ha]
  rw [e3];rw [ha] at c12;go_enter Tryz.func209,Tryz.ntmps209;go_wp2_with fail;have k8:=qb c8;exact Cn
 ·have e3:x.three=(0,0,0):=by unfold Ld.three;simp [hl]
  rw [e3];have g:(x.line != 0)=true:=by simpa using hl
  go_enter Tryz.func209,Tryz.ntmps209;go_wp2_with fail;go_ret3;exact ⟨rfl,Fr.refl _ _⟩
def FmC (f:Fm) (lb:Nat) (sp np bp pp:Option Nat):Array Value:=#[.int .i64 f.chunk,.int .i64 f.part,.pointer (some ⟨lb,0,none⟩),xz sp,xz np,.bool false,xz bp,xz pp,.int .i64 f.repl]
def Zz (w:World) (b:Nat) (f:Fm) (lb:Nat) (sp np bp pp:Option Nat):Prop:=Ob w b 273 (FmC f lb sp np bp pp)
theorem zr {w:World} {b lb:Nat} {f:Fm} {sp np bp pp:Option Nat} (h:Zz w b f lb sp np bp pp):w.cell? ⟨b,0,none⟩=some (.int .i64 f.chunk)/\w.cell? ⟨b,1,none⟩=some (.int .i64 f.part)/\w.cell? ⟨b,2,none⟩=some (.pointer (some ⟨lb,0,none⟩))/\w.cell? ⟨b,3,none⟩=some (xz sp)/\w.cell? ⟨b,4,none⟩=some (xz np)/\w.cell? ⟨b,5,none⟩=some (.bool false)/\w.cell? ⟨b,6,none⟩=some (xz bp)/\w.cell? ⟨b,7,none⟩=some (xz pp)/\w.cell? ⟨b,8,none⟩=some (.int .i64 f.repl) :=
 ⟨h.cell rfl,h.cell rfl,h.cell rfl,h.cell rfl,h.cell rfl,h.cell rfl,h.cell rfl,h.cell rfl,h.cell rfl⟩
theorem Xi (f:Fm) (c:Cf) (hc:c.Ok) (repl:Int) (b lb:Nat) (sp np bp pp:Option Nat) (w:World) (h:Zz w b f lb sp np bp pp) (hl:yf w lb f.l) :
  Calls Tryz.prog 212 #[.pointer (some ⟨b,0,none⟩),c.val,.int .i64 repl] w fun e w'=>e = .returned (.tuple #[])/\(∃ pb,w.heap.size<=pb/\Zz w' b (f.splice c repl) lb sp np bp (some pb)/\Zp w' pb (Sp.new c f.l.three.1 f.l.three.2.1 repl))/\Fr [b] w w':=by
 unfold Cf.val;have F0:=(Fr.refl [] w).alloc (.cells #[.int .i64 c.t,.int .i64 c.c,.int .i64 c.wd,.int .i64 c.v] 23);have o0:=Ob.new w 23 #[.int .i64 c.t,.int .i64 c.c,.int .i64 c.wd,.int .i64 c.v];have h0:=Ob.up h F0;have l0:=Ob.up hl F0;obtain ⟨c0,c1,c2,c3,c4,c5,c6,c7,c8⟩:=zr h0;have z:=h0.frozen;have hbn:=Ob.lt h;have hbe:¬ b=w.heap.size:=by omega
 clear h hl;go_enter Tryz.func212,Tryz.ntmps212;go_wp2_with fail;generalize (w.alloc (.cells #[.int .i64 c.t,.int .i64 c.c,.int .i64 c.wd,.int .i64 c.v] 23))=w0 at *;generalize hq:w.heap.size=q at *;have HQ:=q9 hq;clear c0 c1 c2 c3 c4 c5 c6 c7 c8 z hq;refine (Qr f.l lb w0 l0).mono ?_;rintro e w1 ⟨rfl,F1⟩;have h1:=Ob.up h0 F1;have o1:=Ob.up o0 F1;have D1:=F0.trans F1;obtain ⟨c0,c1,c2,c3,c4,c5,c6,c7,c8⟩:=zr h1;have z:=h1.frozen;obtain ⟨d0,d1,d2,d3⟩:=Pl.yp o1;clear h0 o0 l0 F0 F1;go_wp2_with fail;clear c0 c1 c2 c3 c4 c5 c6 c7 c8 z d0 d1 d2 d3;refine (Uy c f.l.three.1 f.l.three.2.1 repl _).mono ?_;rintro e w2 ⟨pb,rfl,hpb,p2,F2⟩;have h2:=Ob.up h1 F2;have D2:=D1.trans F2;have HPB:=q9 (qh D1.size hpb);obtain ⟨c0,c1,c2,c3,c4,c5,c6,c7,c8⟩:=zr h2;have z:=h2.frozen;have hne:¬ b=pb:=by have:=Ob.lt h1;omega
 clear h1 o1 D1 F2 hpb;go_wp2_with fail;go_end0;refine ⟨rfl,⟨pb,?_,Ob.set (Ob.set (Ob.set h2 (i:=8) _) (i:=1) _) (i:=7) _,Ob.other (Ob.other (Ob.other p2 (Ne.symm hne) _) (Ne.symm hne) _) (Ne.symm hne) _⟩,(((D2.mono).trans (Fr.setCell _ Ll)).setCell' _ Ll).setCell' _ Ll⟩;exact HPB.out
theorem Rz (x:Nd) (hl:x.line=0) (b:Nat) (w:World) (h:Va w b x):Calls Tryz.prog 240 #[.pointer (some ⟨b,0,none⟩)] w fun e w'=>e = .returned x.lv/\w'=w:=by obtain ⟨c0,c1,c2,c3,c4,c5,c6,c7,c8⟩:=xh h;rw [hl] at c5;go_enter Tryz.func240,Tryz.ntmps240;exact C0
theorem Sk (c:Cf) (chunk mate after:Int) (vs:List Int) (vv:Value) (w:World) (hV:Sq fI w vv vs) (hlt:∀ k,k∈vv.ownBlock.toList->k<w.heap.size) :
  Calls Tryz.prog 239 #[c.val,.int .i64 chunk,.int .i64 mate,.int .i64 after,vv] w fun e w'=>∃ b B,e = .returned (.pointer (some ⟨b,0,none⟩))/\w.heap.size<=b/\Sa w' B b (Bd.new c chunk mate after vs)/\(∀ k,k∈B->k∈vv.ownBlock.toList\/w.heap.size<=k)/\Fr [] w w':=by
 obtain ⟨av,cv,rfl,hcv,hmv,-⟩:=id hV;unfold Cf.val;have F0:=(Fr.refl [] w).alloc (.cells #[.int .i64 c.t,.int .i64 c.c,.int .i64 c.wd,.int .i64 c.v] 23);obtain ⟨c0,c1,c2,c3⟩:=Pl.yp (Go.heap_alloc_new w (.cells #[.int .i64 c.t,.int .i64 c.c,.int .i64 c.wd,.int .i64 c.v] 23));go_enter Tryz.func239,Tryz.ntmps239;go_wp2;go_ret;have ho:Q8 _ (w.heap.size+1) (Bd.new c chunk mate after vs) (.slice av vs.length cv) (.slice none 0 0) (.slice none 0 0) (.slice none 0 0):=Ob.newAt (Yg w (.cells #[.int .i64 c.t,.int .i64 c.c,.int .i64 c.wd,.int .i64 c.v] 23)) _ _;have F1:=F0.alloc (.cells ((Bd.new c chunk mate after vs).cells (.slice av vs.length cv) (.slice none 0 0) (.slice none 0 0) (.slice none 0 0)) 284)
 have hr:∀ k,k∈Qt (.slice av vs.length cv) (.slice none 0 0) (.slice none 0 0) []->k∈(Value.slice av vs.length cv).ownBlock.toList:=by
  intro k hk;rcases zx.1 hk with hk | hk | ⟨s,hs,hk⟩ | hk
  ·exact hk
  ·simp [Value.ownBlock] at hk
  ·simp at hs
  ·simp [Value.ownBlock] at hk
 refine ⟨_,_,rfl,by omega,⟨_,_,_,_,[],⟨ho,hV.up F1,⟨rfl,.inl ⟨rfl,rfl⟩⟩,Sq.nil _,⟨rfl,fun i s g e=>by simp at e⟩,Sq.nil _,by simp [Value.ownBlock],fun hi=>?_,fun k hk=>by simp [Value.ownBlock] at hk,fun k hk=>?_⟩,rfl⟩,fun k hk=>?_,F1⟩
 ·have:=hlt _ (hr _ hi);omega
 ·exact qj (hlt _ (hr _ hk)) F1.size
 ·rcases List.mem_cons.1 hk with rfl | hk
  ·exact .inr Lj
  rcases List.mem_append.1 hk with hk | hk
  ·simp [Value.ownBlock] at hk
  exact .inl (hr k hk)
def fP (b:Nat):List Value:=[.pointer (some ⟨b,0,none⟩)]
theorem V8:Lays fP 1:=⟨fun _=>rfl,fun x u hu=>by rw [List.mem_singleton.1 hu];rfl,by decide⟩
theorem fpI:(Tryz.prog.info? 266).map (fun i=>(i.zero,i.size,i.bytes))=some (some (.pointer none),1,8):=by kernel_rfl
def MdC (m:Md) (dv fv:Value):Array Value:=#[.int .i64 m.c.t,.int .i64 m.c.c,.int .i64 m.c.wd,.int .i64 m.c.v,dv,fv,.int .i64 m.e]
def Zd (w:World) (b:Nat) (m:Md) (dv fv:Value):Prop:=Ob w b 239 (MdC m dv fv)
theorem zk {w:World} {b:Nat} {m:Md} {dv fv:Value} (h:Zd w b m dv fv):w.cell? ⟨b,0,none⟩=some (.int .i64 m.c.t)/\w.cell? ⟨b,1,none⟩=some (.int .i64 m.c.c)/\w.cell? ⟨b,2,none⟩=some (.int .i64 m.c.wd)/\w.cell? ⟨b,3,none⟩=some (.int .i64 m.c.v)/\w.cell? ⟨b,4,none⟩=some dv/\w.cell? ⟨b,5,none⟩=some fv/\w.cell? ⟨b,6,none⟩=some (.int .i64 m.e) :=
 ⟨h.cell rfl,h.cell rfl,h.cell rfl,h.cell rfl,h.cell rfl,h.cell rfl,h.cell rfl⟩
theorem q5q {ds:List Int} (h:ds.length=0):Jb ds=false:=by rw [List.eq_nil_of_length_eq_zero h];rfl
theorem q9y {ds:List Int} {d:Int} (h:ds[0]? = some d):Jb ds=decide (bits .and .i64 d 1=1):=by
 cases ds with
 | nil=>simp at h
 | cons a r=>simp at h;rw [h];rfl
theorem Wo (m:Md) (hc:m.c.Ok) (chunk:Int) (b:Nat) (dv fv:Value) (fbs:List Nat) (w:World) (h:Zd w b m dv fv) (hD:Sq fI w dv m.draws) (hF:Sq fP w fv fbs) (hlen:fbs.length<=100000) :
  Calls Tryz.prog 216 #[.pointer (some ⟨b,0,none⟩),.int .i64 chunk] w fun e w'=>e = .returned (.tuple #[])/\(∃ fv' fb lb,Zd w' b m dv fv'/\Sq fP w' fv' (fbs++[fb])/\Zz w' fb (Fm.new m.c chunk (Jb m.draws)) lb none none none none/\yf w' lb (Ld.new m.c chunk (Jb m.draws))/\w.heap.size<=fb/\w.heap.size<=lb/\fb≠lb/\(∀ k,k∈fv'.ownBlock.toList->w.heap.size<=k/\k<w'.heap.size/\k≠fb/\k≠lb))/\Fr [b] w w':=by
 obtain ⟨ad,cd,rfl,hcd,hmd,-⟩:=id hD;obtain ⟨af,cf,rfl,hcf,hmf,-⟩:=id hF;generalize hdr:Jb m.draws=dr;have HDR:=q9 hdr;clear hdr;have HH:=q9 (qc hD hF);clear hD hF;obtain ⟨c0,c1,c2,c3,c4,c5,c6⟩:=zk h;by_cases hz:m.draws.length=0
 ·have hd2:dr=false:=by rw [<- HDR.out];exact q5q hz
  have hzz:((m.draws.length:Nat):Int)=0:=by omega
  clear hz;subst hd2;go_enter Tryz.func216,Tryz.ntmps216;go_wp2_with fail;clear hzz;clear c0 c1 c2 c3 c4 c5 c6;refine qp Lm ?_;refine za [] w #[true,true,true,true,true,true,true,true,true,true,true,true,true,true,true,true,true,true,false,false,false] 18 3 rfl ?_;refine lpq [true,true,true,true,true,false,true,true,true,true,true,true,true,false,false,false,false,false,false,false,false] 6 ((Fr.refl _ _).drew) ?_;apply qg;refine ⟨fun wf Ff=>?_,?_⟩
  ·obtain ⟨c0,c1,c2,c3,-,c5,-⟩:=zk (Ob.up h Ff);have j0:=qb c0;have j1:=qb c1;have j2:=qb c2;have j3:=qb c3;have j5:=qb c5;clear c0 c1 c2 c3 c5;exact Ab
  refine loq 5 (fun w1 F1=>?_);have G:=((Fr.refl [] w).drew).trans F1;clear F1;go_wp2_with (at_builtin;go_loud (refine qq V8 rfl _ _ 237 rfl Tryz.underlying237 fpI rfl (B:=w.heap.size) (.slice none 0 0) [] rfl ⟨rfl,.inl ⟨rfl,rfl⟩⟩ _ fbs rfl (HH.out.2.up G) Lu Lr G.size ?_);intro a2 k2 w2 r2 F2);replace G:=G.trans (F2.mono Lt);rw [List.nil_append] at r2;clear F2;refine ql ⟨G,?_⟩;refine loq 13 (fun w3 F3=>?_);have r3:=qo r2 F3;replace G:=G.trans F3;clear F3 r2;go_wp2_with fail;refine (Vg m.c chunk false w3).mono ?_;rintro e w4 ⟨lb,rfl,hlb,l4,F4⟩;have r4:=qo r3 F4;have HLB:=q9 (qh G.size hlb);replace G:=G.trans F4;clear F4 r3 hlb;go_wp2_with fail;refine ql ⟨G,?_⟩;refine loq 14 (fun w5 F5=>?_);have r5:=qo r4 F5;have l5:=Ob.up l4 F5;replace G:=G.trans F5;clear F5 r4 l4;go_wp2_with fail;refine ql ⟨G,?_⟩;refine loq 15 (fun w6 F6=>?_);have r6:=qo r5 F6;have l6:=Ob.up l5 F6;replace G:=G.trans F6;clear F6 r5 l5;go_wp2_with fail;have F7:=(Fr.refl [] w6).alloc (.cells #[.int .i64 chunk,.int .i64 1,.pointer (some ⟨lb,0,none⟩),.pointer none,.pointer none,.bool false,.pointer none,.pointer none,.int .i64 0] 273);have o7:=Ob.new w6 273 #[.int .i64 chunk,.int .i64 1,.pointer (some ⟨lb,0,none⟩),.pointer none,.pointer none,.bool false,.pointer none,.pointer none,.int .i64 0];have r7:=qo r6 F7;have l7:=Ob.up l6 F7;have HLF:=q9 (qc (Ob.lt l6) (qc G.size (Zj r6)));replace G:=G.trans F7;generalize (w6.alloc (.cells #[.int .i64 chunk,.int .i64 1,.pointer (some ⟨lb,0,none⟩),.pointer none,.pointer none,.bool false,.pointer none,.pointer none,.int .i64 0] 273))=w7 at *;generalize w6.heap.size=fb at *;clear F7 r6 l6;refine ql ⟨G,?_⟩;refine loq 16 (fun w8 F8=>?_);have r8:=qo r7 F8;have l8:=Ob.up l7 F8;have o8:=Ob.up o7 F8;replace G:=G.trans F8;clear F8 r7 l7 o7;go_wp2_with fail;have F9:=(Fr.refl [] w8).alloc (.cells #[.pointer (some ⟨fb,0,none⟩)] 266);have B9:=Go.heap_alloc_new w8 (.cells #[.pointer (some ⟨fb,0,none⟩)] 266);have r9:=qo r8 F9;have l9:=Ob.up l8 F9;have o9:=Ob.up o8 F9;replace G:=G.trans F9;clear F9 r8 l8 o8;refine ql ⟨G,?_⟩;refine loq 17 (fun w10 F10=>?_);have r10:=qo r9 F10;have l10:=Ob.up l9 F10;have o10:=Ob.up o9 F10;have B10:=F10.heap B9 Ll;replace G:=G.trans F10;clear F10 r9 l9 o9 B9;go_wp2_with (at_builtin;go_loud (refine qq V8 rfl _ _ 237 rfl Tryz.underlying237 fpI rfl (B:=w.heap.size) _ fbs rfl r10 _ [fb] rfl (Sq.block B10 rfl rfl (Nat.le_refl _) Ly) Lu Lr G.size ?_);intro a11 k11 w11 r11 F11;generalize hT:fbs++[fb]=T at r11 ⊢);have HT:=q9 hT;have l11:=Ob.kept l10 F11 (ji r10 l10 Lr);have o11:=Ob.kept o10 F11 (ji r10 o10 Lr);replace G:=G.own F11 (z8 r10);clear F11 r10 l10 o10 B10 hT;refine ql ⟨G,?_⟩;refine qy (k:=18) rfl Lm (fun w12 F12=>?_);have r12:=qo r11 F12;have l12:=Ob.up l11 F12;have o12:=Ob.up o11 F12;replace G:=G.trans F12;have h12:=Ob.up h G;have hbw:=Ob.lt h;clear F12 r11 l11 o11 h;have z:=h12.frozen;obtain ⟨c0,c1,c2,c3,c4,c5,c6⟩:=zk h12;have nb1:=ji r12 h12 Lr;have nb2:=ji r12 l12 Lr;have nb3:=ji r12 o12 Lr;have HR:=q9 (qc r12 (qc l12 (qc o12 (qc h12 G))));have hbf:¬ b=fb/\¬ b=lb:=by have:=HLB.out;have:=HLF.out.2.1;omega
  clear r12 l12 o12 h12 G;go_wp2_with fail;go_end0;have SF:Fr [b] w12 (w12.setCell ⟨b,5,none⟩ (.slice a11 T.length k11)):=Fr.setCell _ Ll;refine ⟨rfl,⟨_,fb,lb,Ob.set HR.out.2.2.2.1 (i:=5) (.slice a11 T.length k11),by rw [HT.out];exact (Sq.own (f:=fP) HR.out.1).kept SF (fun k hk hi=>by simp at hi;subst hi;exact nb1 hk),Ob.other HR.out.2.2.1 (Ne.symm hbf.1) _,Ob.other HR.out.2.1 (Ne.symm hbf.2) _,HLF.out.2.1,HLB.out,by have:=HLF.out.1;omega,fun k hk=>⟨z8 HR.out.1 k Ms,qj (Zj HR.out.1 k Ms) SF.size,fun e=>nb3 O4,fun e=>nb2 O4⟩⟩,(HR.out.2.2.2.2.mono Ll).trans SF⟩
 ·obtain ⟨d,hd⟩:∃ d,m.draws[0]? = some d:=⟨m.draws[0]'(by omega),List.getElem?_eq_getElem _⟩;obtain ⟨gd,od,rfl,d0⟩:=X0 HH.out.1 hd;have hd2:dr=decide (bits .and .i64 d 1=1):=by rw [<- HDR.out];exact q9y hd
  have HD2:=q9 hd2;have hz0:(0:Int)<(m.draws.length:Int):=by omega
  replace d0:w.cell? ⟨gd,od,none⟩=some (.int .i64 d):=by simpa using d0
  clear hd2 hz hd;by_cases hbit:bits .and .i64 d 1=1
  focus
   have g9:(bits .and .i64 d 1 == 1)=true:=by simpa using hbit
   have HD3:dr=true:=by rw [HD2.out];simpa using hbit
   subst HD3
   clear hbit
   go_enter Tryz.func216,Tryz.ntmps216
   go_wp2_with fail
   clear hz0 d0 g9
   clear c0 c1 c2 c3 c4 c5 c6
   refine qp Lm ?_
   refine za [] w #[true,true,true,true,true,true,true,true,true,true,true,true,true,true,true,true,true,true,false,false,false] 18 3 rfl ?_
   refine lpq [true,true,true,true,true,false,true,true,true,true,true,true,true,false,false,false,false,false,false,false,false] 6 ((Fr.refl _ _).drew) ?_
   apply qg
   refine ⟨fun wf Ff=>?_,?_⟩
   ·obtain ⟨c0,c1,c2,c3,-,c5,-⟩:=zk (Ob.up h Ff)
    have j0:=qb c0
    have j1:=qb c1
    have j2:=qb c2
    have j3:=qb c3
    have j5:=qb c5
    clear c0 c1 c2 c3 c5
    simp only [sel]
    repeat (go_big_quiet_step (fail))
    exact wpQuiet_nil rfl
   refine loq 5 (fun w1 F1=>?_)
   have G:=((Fr.refl [] w).drew).trans F1
   clear F1
   go_wp2_with (at_builtin;go_loud (refine qq V8 rfl _ _ 237 rfl Tryz.underlying237 fpI rfl (B:=w.heap.size) (.slice none 0 0) [] rfl ⟨rfl,.inl ⟨rfl,rfl⟩⟩ _ fbs rfl (HH.out.2.up G) Lu Lr G.size ?_);intro a2 k2 w2 r2 F2)
   replace G:=G.trans (F2.mono Lt)
   rw [List.nil_append] at r2
   clear F2
   refine ql ⟨G,?_⟩
   refine loq 13 (fun w3 F3=>?_)
   have r3:=qo r2 F3
   replace G:=G.trans F3
   clear F3 r2
   go_wp2_with fail
   refine (Vg m.c chunk true w3).mono ?_;rintro e w4 ⟨lb,rfl,hlb,l4,F4⟩
  rotate_left
  focus
   have g9:(bits .and .i64 d 1 == 1)=false:=by simpa using hbit
   have HD3:dr=false:=by rw [HD2.out];simpa using hbit
   subst HD3
   clear hbit
   go_enter Tryz.func216,Tryz.ntmps216
   go_wp2_with fail
   clear hz0 d0 g9
   clear c0 c1 c2 c3 c4 c5 c6
   refine qp Lm ?_
   refine za [] w #[true,true,true,true,true,true,true,true,true,true,true,true,true,true,true,true,true,true,false,false,false] 18 3 rfl ?_
   refine lpq [true,true,true,true,true,false,true,true,true,true,true,true,true,false,false,false,false,false,false,false,false] 6 ((Fr.refl _ _).drew) ?_
   apply qg
   refine ⟨fun wf Ff=>?_,?_⟩
   ·obtain ⟨c0,c1,c2,c3,-,c5,-⟩:=zk (Ob.up h Ff)
    have j0:=qb c0
    have j1:=qb c1
    have j2:=qb c2
    have j3:=qb c3
    have j5:=qb c5
    clear c0 c1 c2 c3 c5
    simp only [sel]
    repeat (go_big_quiet_step (fail))
    exact wpQuiet_nil rfl
   refine loq 5 (fun w1 F1=>?_)
   have G:=((Fr.refl [] w).drew).trans F1
   clear F1
   go_wp2_with (at_builtin;go_loud (refine qq V8 rfl _ _ 237 rfl Tryz.underlying237 fpI rfl (B:=w.heap.size) (.slice none 0 0) [] rfl ⟨rfl,.inl ⟨rfl,rfl⟩⟩ _ fbs rfl (HH.out.2.up G) Lu Lr G.size ?_);intro a2 k2 w2 r2 F2)
   replace G:=G.trans (F2.mono Lt)
   rw [List.nil_append] at r2
   clear F2
   refine ql ⟨G,?_⟩
   refine loq 13 (fun w3 F3=>?_)
   have r3:=qo r2 F3
   replace G:=G.trans F3
   clear F3 r2
   go_wp2_with fail
   refine (Vg m.c chunk false w3).mono ?_;rintro e w4 ⟨lb,rfl,hlb,l4,F4⟩
  rotate_left
  all_goals
   have r4:=qo r3 F4
   have HLB:=q9 (qh G.size hlb)
   replace G:=G.trans F4
   clear F4 r3 hlb
   go_wp2_with fail
   refine ql ⟨G,?_⟩
   refine loq 14 (fun w5 F5=>?_)
   have r5:=qo r4 F5
   have l5:=Ob.up l4 F5
   replace G:=G.trans F5
   clear F5 r4 l4
   go_wp2_with fail
   refine ql ⟨G,?_⟩
   refine loq 15 (fun w6 F6=>?_)
   have r6:=qo r5 F6
   have l6:=Ob.up l5 F6
   replace G:=G.trans F6
   clear F6 r5 l5
   go_wp2_with fail
   have F7:=(Fr.refl [] w6).alloc (.cells #[.int .i64 chunk,.int .i64 1,.pointer (some ⟨lb,0,none⟩),.pointer none,.pointer none,.bool false,.pointer none,.pointer none,.int .i64 0] 273)
   have o7:=Ob.new w6 273 #[.int .i64 chunk,.int .i64 1,.pointer (some ⟨lb,0,none⟩),.pointer none,.pointer none,.bool false,.pointer none,.pointer none,.int .i64 0]
   have r7:=qo r6 F7
   have l7:=Ob.up l6 F7
   have HLF:=q9 (qc (Ob.lt l6) (qc G.size (Zj r6)))
   replace G:=G.trans F7
   generalize (w6.alloc (.cells #[.int .i64 chunk,.int .i64 1,.pointer (some ⟨lb,0,none⟩),.pointer none,.pointer none,.bool false,.pointer none,.pointer none,.int .i64 0] 273))=w7 at *
   generalize w6.heap.size=fb at *
   clear F7 r6 l6
   refine ql ⟨G,?_⟩
   refine loq 16 (fun w8 F8=>?_)
   have r8:=qo r7 F8
   have l8:=Ob.up l7 F8
   have o8:=Ob.up o7 F8
   replace G:=G.trans F8
   clear F8 r7 l7 o7
   go_wp2_with fail
   have F9:=(Fr.refl [] w8).alloc (.cells #[.pointer (some ⟨fb,0,none⟩)] 266)
   have B9:=Go.heap_alloc_new w8 (.cells #[.pointer (some ⟨fb,0,none⟩)] 266)
   have r9:=qo r8 F9
   have l9:=Ob.up l8 F9
   have o9:=Ob.up o8 F9
   replace G:=G.trans F9
   clear F9 r8 l8 o8
   refine ql ⟨G,?_⟩
   refine loq 17 (fun w10 F10=>?_)
   have r10:=qo r9 F10
   have l10:=Ob.up l9 F10
   have o10:=Ob.up o9 F10
   have B10:=F10.heap B9 Ll
   replace G:=G.trans F10
   clear F10 r9 l9 o9 B9
   go_wp2_with (at_builtin;go_loud (refine qq V8 rfl _ _ 237 rfl Tryz.underlying237 fpI rfl (B:=w.heap.size) _ fbs rfl r10 _ [fb] rfl (Sq.block B10 rfl rfl (Nat.le_refl _) Ly) Lu Lr G.size ?_);intro a11 k11 w11 r11 F11;generalize hT:fbs++[fb]=T at r11 ⊢)
   have HT:=q9 hT
   have l11:=Ob.kept l10 F11 (ji r10 l10 Lr)
   have o11:=Ob.kept o10 F11 (ji r10 o10 Lr)
   replace G:=G.own F11 (z8 r10)
   clear F11 r10 l10 o10 B10 hT
   refine ql ⟨G,?_⟩
   refine qy (k:=18) rfl Lm (fun w12 F12=>?_)
   have r12:=qo r11 F12
   have l12:=Ob.up l11 F12
   have o12:=Ob.up o11 F12
   replace G:=G.trans F12
   have h12:=Ob.up h G
   have hbw:=Ob.lt h
   clear F12 r11 l11 o11 h
   have z:=h12.frozen
   obtain ⟨c0,c1,c2,c3,c4,c5,c6⟩:=zk h12
   have nb1:=ji r12 h12 Lr
   have nb2:=ji r12 l12 Lr
   have nb3:=ji r12 o12 Lr
   have HR:=q9 (qc r12 (qc l12 (qc o12 (qc h12 G))))
   have hbf:¬ b=fb/\¬ b=lb:=by have:=HLB.out;have:=HLF.out.2.1;omega
   clear r12 l12 o12 h12 G
   go_wp2_with fail
   go_end0
   have SF:Fr [b] w12 (w12.setCell ⟨b,5,none⟩ (.slice a11 T.length k11)):=Fr.setCell _ Ll
   refine ⟨rfl,⟨_,fb,lb,Ob.set HR.out.2.2.2.1 (i:=5) (.slice a11 T.length k11),by rw [HT.out];exact (Sq.own (f:=fP) HR.out.1).kept SF (fun k hk hi=>by simp at hi;subst hi;exact nb1 hk),Ob.other HR.out.2.2.1 (Ne.symm hbf.1) _,Ob.other HR.out.2.1 (Ne.symm hbf.2) _,HLF.out.2.1,HLB.out,by have:=HLF.out.1;omega,fun k hk=>⟨z8 HR.out.1 k Ms,qj (Zj HR.out.1 k Ms) SF.size,fun e=>nb3 O4,fun e=>nb2 O4⟩⟩,(HR.out.2.2.2.2.mono Ll).trans SF⟩
end Go.Proofs.YthokjbikomjhgaaGreatDoor.Mx
namespace Go.Proofs.YthokjbikomjhgaaGreatDoor.Ro
open Go.RowKit Go.Maps Ar Og
def LenAt (w:World) (rs:List (List O)) (x:Value) (wr:World):Prop:=∃ n:Nat,n<=rs.length/\x = .int .i64 n/\wr=w/\∀ i,i<n->long (Jc rs i)=false
def qdm (w:World) (b:Nat) (Z:Array Value) (rs:List (List O)) (x:Value) (wr:World):Prop:=∃ n:Nat,n<=rs.length/\x = .int .i64 n/\wr.heap[b]? = some (.cells Z 27 (0,0))/\Fr [] w wr/\∀ i,i<n->qdn (Jc rs i)=true
def qdd (w:World) (b:Nat) (Z:Array Value) (os:List O) (x:Value) (wr:World):Prop:=∃ n:Nat,n<=os.length/\x = .int .i64 n/\wr.heap[b]? = some (.cells Z 27 (0,0))/\Fr [] w wr/\∀ i,i<n->qaq (q30 os i)=true
theorem q9q {rs:List (List O)} (h:∀ i,i<rs.length->long (Jc rs i)=false):rs.any long=false:=by rw [List.any_eq_false];intro y hy;obtain ⟨i,hi,rfl⟩:=List.getElem_of_mem hy;exact Gm
theorem J5 (t c wd v:Int) (rs:List (List O)) (ps ds:List Int) (s:Value) (w:World) (h:Scr w s t c wd v rs ps ds) :
  Calls Tryz.prog 73 #[s] w fun e w'=>e = .returned (.int .i64 (Zm t c wd v rs ps))/\Fr [] w w':=by
 obtain ⟨vo,vp,vd,rfl,hr,hp,hd⟩:=h;obtain ⟨a,cap,x,rfl,hl,hc,hrow⟩:=hr;obtain ⟨a2,cap2,rfl,hl2,-,-⟩:=hp;have HC:=q9 hc;have HR:=q9 hrow;clear hc hrow hd;unfold maxLen at hl hl2;go_enter Tryz.func73,Tryz.ntmps73;go_wp2_with fail;refine (Ref.U6 t c wd v _).mono ?_;rintro e w1 ⟨rfl,F1⟩;have hb:=F1.heap (Go.heap_alloc_new w (.cells #[.int .i64 t,.int .i64 c,.int .i64 wd,.int .i64 v,.slice a rs.length cap,.slice a2 ps.length cap2,vd] 27)) Ll;have G1:=((Fr.refl [] w).alloc (.cells #[.int .i64 t,.int .i64 c,.int .i64 wd,.int .i64 v,.slice a rs.length cap,.slice a2 ps.length cap2,vd] 27)).trans F1;clear F1;generalize w.heap.size=bs at *;by_cases hcp:Pl.code t c wd v=0
 ·have hsc:Zm t c wd v rs ps=if large t rs ps=true then 12 else if rs.all qdn=true then 0 else 10:=by rw [Zm,qf hcp]
  rw [hcp];clear hcp;obtain ⟨c0,c1,c2,c3,c4,c5,c6⟩:=q23 hb;by_cases h1:t<rs.length
  ·have g:decide ((rs.length:Int)>t)=true:=by simpa using h1
   have e:large t rs ps=true:=by unfold large;simp [h1]
   exact Gl
  have g:decide ((rs.length:Int)>t)=false:=by simpa using h1
  by_cases h2:20000<ps.length
  ·have g2:decide ((ps.length:Int)>20000)=true:=by simp;omega
   have e:large t rs ps=true:=by unfold large;simp [h2]
   exact Gl
  have g2:decide ((ps.length:Int)>20000)=false:=by simp;omega
  have hlg:large t rs ps=rs.any long:=by unfold large;simp [h1,h2]
  rw [hlg] at hsc;have HB:=q9 hb;have HS:=q9 hsc;clear hsc hlg hb h1 h2;go_wp2_with fail;go_loopw [4] (LenAt w1 rs) (fun x _=>rs.length - (intOf x).toNat);case atStart=>exact ⟨0,Nat.zero_le _,rfl,rfl,by omega⟩
  case round =>
   obtain ⟨n,hn,rfl,rfl,hi⟩:=hrel;by_cases hlt:n<rs.length
   ·rcases HC.out with hz | ⟨b,off,rfl,hbb,hcell⟩
    ·omega
    have d0:=Zt G1 (hcell n hlt);obtain ⟨a3,cap3,hxe,hl3,-,-⟩:=HR.out n hlt;rw [hxe] at d0;clear hcell hxe;cases hg:long (Jc rs n) with
    | true =>
     have g3:decide (((Jc rs n).length:Int)>1000)=true:=by unfold long at hg;simp at hg ⊢;omega
     have hany:rs.any long=true:=List.any_eq_true.2 ⟨_,Tj hlt,hg⟩;clear hg HC HB;go_wp2;go_ret;exact ⟨by rw [HS.out,hany];rfl,G1⟩
    | false =>
     have g3:decide (((Jc rs n).length:Int)>1000)=false:=by unfold long at hg;simp at hg ⊢;omega
     have HG:=q9 hg;clear hg;go_wp2;go_roundw
     case rel =>
      refine ⟨n+1,by omega,by go_num,rfl,fun i hi'=>?_⟩;by_cases hin:i=n
      ·rw [hin];exact HG.out
      ·exact hi i Lj
     case measure=>simp [intOf];omega
   ·obtain rfl:n=rs.length:=by omega
    have hany:rs.any long=false:=q9q hi;have HA:=q9 hany;clear hi hany hn;go_wp2_with fail;clear c0 c1 c2 c3 c4 c5 c6 g g2;go_loopw [5] (qdm wr bs #[.int .i64 t,.int .i64 c,.int .i64 wd,.int .i64 v,.slice a rs.length cap,.slice a2 ps.length cap2,vd] rs) (fun x _=>rs.length - (intOf x).toNat);case atStart=>exact ⟨0,Nat.zero_le _,rfl,HB.out,Fr.refl _ _,by omega⟩
    case round =>
     obtain ⟨n,hn,rfl,hb,Fq,hi⟩:=hrel;obtain ⟨c0,c1,c2,c3,c4,c5,c6⟩:=q23 hb;by_cases hlt:n<rs.length
     ·rcases HC.out with hz | ⟨b,off,rfl,hbb,hcell⟩
      ·omega
      go_wp2_with fail;go_loopw [6] (qdd wr bs #[.int .i64 t,.int .i64 c,.int .i64 wd,.int .i64 v,.slice (some ⟨b,off,none⟩) rs.length cap,.slice a2 ps.length cap2,vd] (Jc rs n)) (fun x _=>(Jc rs n).length - (intOf x).toNat);case atStart=>exact ⟨0,Nat.zero_le _,rfl,hb,Fr.refl _ _,by omega⟩
      case round =>
       obtain ⟨m,hm,rfl,hb2,Fz,hj⟩:=hrel;clear c0 c1 c2 c3 c4 c5 c6 hb;have G2:=(G1.trans Fq).trans Fz;obtain ⟨c0,c1,c2,c3,c4,c5,c6⟩:=q23 hb2;have d0:=Zt G2 (hcell n hlt);obtain ⟨a3,cap3,hxe,hl3,-,hc3⟩:=(HR.out n hlt).up G2;rw [hxe] at d0;unfold maxLen at hl3;by_cases hlt2:m<(Jc rs n).length
       ·rcases hc3 with hz | ⟨b2,off2,rfl,hbb2,hcell2⟩
        ·omega
        obtain ⟨d1,d2,d3,d4⟩:=hcell2 m hlt2;clear hcell2 hxe;go_wp2_with fail;refine (q8a _ _ _ _ _).mono ?_;rintro e wy ⟨rfl,Fy⟩;have hb3:=qb0 Fy hb2;clear c0 c1 c2 c3 c4 c5 c6 d0 d1 d2 d3 d4 hb2;cases hg:qaq (q30 (Jc rs n) m) with
        | false =>
         have hg':=hg;unfold qaq at hg';rw [hg'];go_wp2;go_ret;exact ⟨by rw [HS.out,HA.out,q5i (Tj hlt) (q5i (q9k hlt2) hg)];rfl,G2.trans Fy⟩
        | true =>
         have hg':=hg;unfold qaq at hg';rw [hg'];go_wp2;go_roundw
         case rel =>
          refine ⟨m+1,by omega,by go_num,hb3,Fz.trans Fy,fun i hi'=>?_⟩;by_cases hin:i=m
          ·rw [hin];exact hg
          ·exact hj i Lj
         case measure=>simp [intOf];omega
       ·obtain rfl:m=(Jc rs n).length:=by omega
        clear hc3 hxe;go_wp2;go_roundw
        case rel =>
         refine ⟨n+1,by omega,by go_num,hb2,Fq.trans Fz,fun i hi'=>?_⟩;by_cases hin:i=n
         ·rw [hin];exact q9e hj
         ·exact hi i Lj
        case measure=>simp [intOf];omega
     ·obtain rfl:n=rs.length:=by omega
      go_wp2;go_ret;exact ⟨by rw [HS.out,HA.out,q9b hi];rfl,G1.trans Fq⟩
 ·have hsc:Zm t c wd v rs ps=Pl.code t c wd v:=by rw [Zm,qd hcp]
  have g:(Pl.code t c wd v != 0)=true:=by simp [hcp]
  clear hb;generalize Pl.code t c wd v=q at *;clear hcp;go_wp2;go_ret;exact ⟨by rw [hsc];rfl,G1⟩
end Go.Proofs.YthokjbikomjhgaaGreatDoor.Ro
namespace Go.Proofs.YthokjbikomjhgaaGreatDoor.Wd
open Go.RowKit Ar Ref Og Mx
def Uj (t c wd v:Int) (rs:List (List O)) (ps ds:List Int) (k:Int):Bool:=decide (k<ps.length) || decide (10<rs.length) || decide (50<ds.length) || decide (8000<wd) || rs.any (fun r=>decide (60<r.length)) || decide (Zm t c wd v rs ps≠0)
theorem qbz {t c wd v:Int} {rs:List (List O)} {ps ds:List Int} {k:Int} (h:Uj t c wd v rs ps ds k=false):(ps.length:Int)<=k/\rs.length<=10/\ds.length<=50/\wd<=8000/\(∀ r,r∈rs->r.length<=60)/\Zm t c wd v rs ps=0:=by unfold Uj at h;simp only [Bool.or_eq_false_iff,decide_eq_false_iff_not] at h;obtain ⟨⟨⟨⟨⟨h1,h2⟩,h3⟩,h4⟩,h5⟩,h6⟩:=h;exact ⟨by omega,by omega,by omega,by omega,fun r hr=>by have:=List.any_eq_false.1 h5 r hr;simpa using this,by omega⟩
def WdAt (w:World) (rs:List (List O)) (x:Value) (wr:World):Prop:=∃ n:Nat,n<=rs.length/\x = .int .i64 n/\wr=w/\∀ i,i<n->¬ 60<(Jc rs i).length
theorem wide_any (t c wd v:Int) (rs:List (List O)) (ps ds:List Int) (s:Value) (k:Int) (w:World) (h:Scr w s t c wd v rs ps ds) :
  Calls Tryz.prog 13 #[s,.int .i64 k] w fun e w'=>e = .returned (.bool (Uj t c wd v rs ps ds k))/\Fr [] w w':=by
 have H:=q9 h;obtain ⟨vo,vp,vd,rfl,hr,hp,hd⟩:=h;obtain ⟨a,cap,x,rfl,hl,hc,hrow⟩:=hr;obtain ⟨a2,cap2,rfl,hl2,-,-⟩:=hp;obtain ⟨a3,cap3,rfl,hl3,-,-⟩:=hd;have HC:=q9 hc;have HR:=q9 hrow;clear hc hrow;unfold maxLen at hl hl2 hl3;generalize hX:Uj t c wd v rs ps ds k=X;have HX:=q9 hX;clear hX;have F0:=(Fr.refl [] w).alloc (.cells #[.int .i64 t,.int .i64 c,.int .i64 wd,.int .i64 v,.slice a rs.length cap,.slice a2 ps.length cap2,.slice a3 ds.length cap3] 27);have hb:=Go.heap_alloc_new w (.cells #[.int .i64 t,.int .i64 c,.int .i64 wd,.int .i64 v,.slice a rs.length cap,.slice a2 ps.length cap2,.slice a3 ds.length cap3] 27);obtain ⟨c0,c1,c2,c3,c4,c5,c6⟩:=q23 hb;by_cases h1:k<ps.length
 ·have g:decide ((ps.length:Int)>k)=true:=by simpa using h1
  have e:X=true:=by rw [<- HX.out];unfold Uj;simp [h1]
  clear h1;exact Dk
 have g1:decide ((ps.length:Int)>k)=false:=by simpa using h1
 by_cases h2:10<rs.length
 ·have g:decide ((rs.length:Int)>10)=true:=by simp;omega
  have e:X=true:=by rw [<- HX.out];unfold Uj;simp [h2]
  clear h1 h2;exact Dk
 have g2:decide ((rs.length:Int)>10)=false:=by simp;omega
 by_cases h3:50<ds.length
 ·have g:decide ((ds.length:Int)>50)=true:=by simp;omega
  have e:X=true:=by rw [<- HX.out];unfold Uj;simp [h3]
  clear h1 h2 h3;exact Dk
 have g3:decide ((ds.length:Int)>50)=false:=by simp;omega
 by_cases h4:8000<wd
 ·have g:decide (wd>8000)=true:=by simpa using h4
  have e:X=true:=by rw [<- HX.out];unfold Uj;simp [h4]
  clear h1 h2 h3 h4;exact Dk
 have g4:decide (wd>8000)=false:=by simpa using h4
 have HXX:=q9 (show X=(rs.any (fun r=>decide (60<r.length)) || decide (Zm t c wd v rs ps≠0)) by rw [<- HX.out];unfold Uj;simp [h1,h2,h3,h4]);have hrl:rs.length<=10:=by omega
 have HB:=q9 hb;have HF0:=q9 F0;clear h1 h2 h3 h4 HX hb F0;go_enter Tryz.func13,Tryz.ntmps13;go_wp2_with fail;generalize hw1:World.alloc w _=w1 at *;generalize w.heap.size=bs at *;go_loopw [5] (fun x wr=>WdAt w1 rs x wr) (fun x _=>rs.length - (intOf x).toNat);case atStart=>exact ⟨0,Nat.zero_le _,rfl,rfl,by omega⟩
 case round =>
  obtain ⟨n,hn,rfl,rfl,hi⟩:=hrel;by_cases hlt:n<rs.length
  ·rcases HC.out with hz | ⟨b,off,rfl,hbb,hcell⟩
   ·omega
   have d0:=Zt HF0.out (hcell n hlt);obtain ⟨ar,capr,hxe,hlr,-,-⟩:=HR.out n hlt;rw [hxe] at d0;have HI2:=q9 (show n+1<=rs.length/\rs.length - (n+1)<rs.length - n by omega);have hltz:(n:Int)<(rs.length:Int):=by omega
   clear hcell hxe;unfold maxLen at hlr;by_cases hg:60<(Jc rs n).length
   ·have g5:decide (((Jc rs n).length:Int)>60)=true:=by simp;omega
    have e:X=true:=by rw [HXX.out];simp only [Bool.or_eq_true];exact .inl (List.any_eq_true.2 ⟨_,Tj hlt,by simpa using hg⟩)
    clear hg hi;go_wp2;go_ret;exact ⟨by rw [e];rfl,HF0.out⟩
   ·have g5:decide (((Jc rs n).length:Int)>60)=false:=by simp;omega
    have HG:=q9 (qc hg hi);clear hg hi;go_wp2_with fail;go_roundw
    case rel =>
     refine ⟨n+1,HI2.out.1,by go_num,rfl,fun i hi'=>?_⟩;by_cases hin:i=n
     ·rw [hin];exact HG.out.1
     ·exact HG.out.2 i Lj
    case measure=>exact meas rfl HI2.out.2
  ·obtain rfl:n=rs.length:=by omega
   have hany:rs.any (fun r=>decide (60<r.length))=false:=by rw [List.any_eq_false];intro y hy;obtain ⟨i,hi',rfl⟩:=List.getElem_of_mem hy;have:=hi i hi';unfold Jc at this;rw [List.getD_eq_getElem?_getD,List.getElem?_eq_getElem hi'] at this;simpa using this
   have HXY:=q9 (show X=decide (Zm t c wd v rs ps≠0) by rw [HXX.out,hany];rfl);clear hi hany;go_wp2_with fail;refine (Ro.J5 t c wd v rs ps ds _ wr (H.out.up HF0.out)).mono ?_;rintro e w2 ⟨rfl,F2⟩;clear c0 c1 c2 c3 c4 c5 c6;by_cases hs:Zm t c wd v rs ps=0
   ·rw [hs];have HS:=q9 hs;clear hs;go_wp2_with fail;go_ret;exact ⟨by rw [HXY.out,HS.out];rfl,HF0.out.trans F2⟩
   ·have g6:(Zm t c wd v rs ps != 0)=true:=by simpa using hs
    have HS:=q9 hs;clear hs;generalize Zm t c wd v rs ps=sc at *;go_wp2_with fail;go_ret;exact ⟨by rw [HXY.out];simp [HS.out],HF0.out.trans F2⟩
def Ja (l:List Int) (s:St):Nat->St
 | 0=>s
 | n+1=>(Ja l s n).yl n (nth l n)
theorem Vr (l:List Int) (s:St):∀ n,(Ja l s n).l.length=s.l.length
 | 0=>rfl
 | n+1=>by unfold Ja St.yl;simp only [x7];exact Vr l s n
theorem Wu (l:List Int) (s:St):∀ n,(Ja l s n).n=s.n/\(Ja l s n).a=s.a
 | 0=>⟨rfl,rfl⟩
 | n+1=>Wu l s n
theorem R3 (l:List Int) (s:St):∀ n,n<=s.l.length->∀ i,nth (Ja l s n).l i=if i<n then nth l i else nth s.l i
 | 0,_,i=>by simp [Ja]
 | n+1,h,i=>by
  unfold Ja St.yl;simp only;rw [Ul _ (by rw [Vr];omega)];have ih:=R3 l s n Lj i;unfold nth at ih ⊢;rw [List.getD_eq_getElem?_getD];by_cases hi:i=n
  ·subst hi;rw [List.getElem?_set_self (by rw [Vr];omega),qf Lj];rfl
  ·rw [List.getElem?_set_ne (fun e=>hi e.symm),<- List.getD_eq_getElem?_getD,ih];by_cases h2:i<n
   ·rw [qf h2,qf Lj]
   ·rw [qd h2,qd Lj]
def q2h (l:List Int):St:=⟨l,0,⟨0,0,0,0,false⟩⟩
theorem q7g (l:List Int):Ja l (St.fresh l.length) l.length=q2h l:=by
 have h1:=Vr l (St.fresh l.length) l.length;have h2:=Wu l (St.fresh l.length) l.length;have h3:=R3 l (St.fresh l.length) l.length (by unfold St.fresh;simp);have hl:(St.fresh l.length).l.length=l.length:=by unfold St.fresh;simp
 have e:(Ja l (St.fresh l.length) l.length).l=l:=by
  apply List.ext_getElem?;intro i;by_cases hi:i<l.length
  ·have:=h3 i;rw [qf hi] at this;unfold nth at this;rw [List.getD_eq_getElem?_getD,List.getD_eq_getElem?_getD,List.getElem?_eq_getElem Lj,List.getElem?_eq_getElem hi] at this;rw [List.getElem?_eq_getElem Lj,List.getElem?_eq_getElem hi];simpa using this
  ·rw [List.getElem?_eq_none Lj,List.getElem?_eq_none Lj]
 generalize Ja l (St.fresh l.length) l.length=u at *;obtain ⟨ul,un,ua⟩:=u;unfold St.fresh at h2;simp only at e h2;rw [e,h2.1,h2.2];rfl
def AnAt (w:World) (s:St) (p q:Nat) (u:Value) (wr:World):Prop:=∃ i,i<=s.l.length/\u = .int .i64 (i:Nat)/\Ar wr p q (Ja s.l (St.fresh s.l.length) i)
theorem arena_any (p q:Nat) (s:St) (w:World) (h:Rar w p q s) :
  Calls Tryz.prog 16 #[.pointer (some ⟨p,0,none⟩)] w (Made w (q2h s.l)):=by
 obtain ⟨cap,hcap,r0,-,-,-,-,-,-,rq⟩:=Qk h;have hlen:1<=s.l.length/\s.l.length<=20000:=⟨h.lo,h.hi⟩;go_enter Tryz.func16,Tryz.ntmps16;go_wp2_with fail;refine (Ar.Wz s.l.length s.l.length hlen.1 hlen.2 Lj w).mono ?_;rintro e w1 ⟨pa,qa,rfl,hpa,hqa,A,F⟩;have HP:=q9 (qc hpa hqa);have HH:=q9 (h.kept F Ll Ll);have HA:=q9 A;have HF:=q9 F;have hpl:=h.lt;clear h A F hpa hqa r0 rq;go_wp2_with fail;go_loopw [4] (fun u wr=>AnAt w1 s pa qa u wr/\Rar wr p q s/\Fr [] w wr) (fun u _=>s.l.length - (intOf u).toNat);case atStart=>exact ⟨⟨0,Nat.zero_le _,rfl,HA.out⟩,HH.out,HF.out⟩
 case round =>
  obtain ⟨⟨i,hi,rfl,A⟩,R,G⟩:=hrel;obtain ⟨cap2,hcap2,r0,-,-,-,-,-,-,rq⟩:=Qk R;by_cases hlt:i<s.l.length
  ·have d0:=rq i hlt;have HI2:=q9 (show i+1<=s.l.length/\s.l.length - (i+1)<s.l.length - i by omega);have hltz:(i:Int)<(s.l.length:Int):=by omega
   have HG:=q9 (qc R G);clear rq R G hlt;go_wp2_with fail;refine (Ar.kg wr pa qa _ i (nth s.l i) A).mono ?_;rintro e w3 ⟨rfl,A3,F3⟩;have h1:=HP.out;have HA3:=q9 (qc A3 (qc (HG.out.1.kept F3 Lu Lu) (HG.out.2.own F3 Lu)));clear A A3 F3 r0 d0;go_wp2_with fail;go_roundw;case rel=>exact ⟨⟨i+1,HI2.out.1,by simp,HA3.out.1⟩,HA3.out.2.1,HA3.out.2.2⟩
   case measure=>exact meas rfl HI2.out.2
  ·obtain rfl:i=s.l.length:=by omega
   have HA2:=q9 (qc A G);clear rq A G R;go_wp2_with fail;go_ret;have hA:=HA2.out.1;rw [q7g] at hA;exact ⟨pa,qa,rfl,HP.out.1,HP.out.2,hA,HA2.out.2⟩
theorem q02 {xs:List Int} {i:Nat} (h:i<xs.length):(xs.flatMap fI)[i]? = some (.int .i64 (nth xs i)):=by have e:=vq.at (xs:=xs) (i:=i) (j:=0) (List.getElem?_eq_getElem h) Lr;rw [Nat.mul_one,Nat.add_zero] at e;rw [e];unfold nth;rw [List.getD_eq_getElem?_getD,List.getElem?_eq_getElem h];rfl
theorem qb2 {w:World} {B n c:Nat} {a:Option Addr} {xs:List Int} (h:w.ownsRow B 3 1 (.slice a n c) n (xs.flatMap fI)) (hn:n=xs.length) (h1:1<=n):∃ g cur,a=some ⟨g,0,none⟩/\B<=g/\g<w.heap.size/\w.heap[g]? = some (.cells cur 3 (0,0))/\cur.size=c/\n<=c/\c<=maxLen/\∀ i,i<n->cur[i]? = some (.int .i64 (nth xs i)):=by
 obtain ⟨e1,h2⟩:=h;rcases h2 with ⟨e,-⟩ | ⟨g,cap,cur,e,hB,hh,hc1,hc2,hs,ht⟩
 ·simp only [Value.slice.injEq] at e;omega
 ·simp only [Value.slice.injEq] at e;obtain ⟨rfl,-,rfl⟩:=e;refine ⟨g,cur,rfl,hB,(Array.getElem?_eq_some_iff.1 hh).1,hh,by simpa using hs,hc1,hc2,fun i hi=>?_⟩;have e2:=q02 (xs:=xs) (i:=i) Lj;rw [<- ht,List.getElem?_take_of_lt Lj] at e2;simpa using e2
theorem fresh_any (p q:Nat) (s:St) (w:World) (h:Rar w p q s) :
  Calls Tryz.prog 17 #[.pointer (some ⟨p,0,none⟩)] w (q4e w (q2h s.l)):=by
 obtain ⟨cap,hcap,r0,-,-,-,-,-,-,rq⟩:=Qk h
 have hcm:cap<=maxLen:=by
  obtain ⟨cap',c',hp,-,hm,-⟩:=h.mem;have:w.cell? ⟨p,0,none⟩=some (.slice (some ⟨q,0,none⟩) s.l.length cap'):=by rw [cell_of_row _ _ _ _ _ _ hp];rfl
  rw [r0] at this;simp only [Option.some.injEq,Value.slice.injEq,true_and] at this;omega
 have hS:Sq fI w (.slice (some ⟨q,0,none⟩) s.l.length cap) s.l:=⟨_,cap,rfl,hcap,hcm,.inr ⟨q,0,rfl,h.lt.2,fun j u hu=>by
  have hj:=(List.getElem?_eq_some_iff.1 hu).1
  rw [vq.flat,Nat.mul_one] at hj
  rw [q02 hj] at hu
  rw [Nat.zero_add,rq j hj,<- hu]⟩⟩
 have hlen:1<=s.l.length/\s.l.length<=20000:=⟨h.lo,h.hi⟩;clear rq h;go_enter Tryz.func17,Tryz.ntmps17;go_wp2_with (at_builtin;refine jo vq rfl _ _ 25 rfl Tryz.underlying25 Kw rfl (B:=w.heap.size) (.slice none 0 0) [] rfl ⟨rfl,.inl ⟨rfl,rfl⟩⟩ _ s.l rfl hS Lu Lr (Nat.le_refl _) ?_;intro a1 c1 w1 r1 f1 n1;rw [List.nil_append] at r1;have HR:=q9 (qc r1 (f1.mono (T:=[]) Lt));clear r1 f1 n1);go_ret;obtain ⟨r1,f1⟩:=HR.out;obtain ⟨g,cur,rfl,hB,hg,hh,hs,hc1,hc2,hall⟩:=qb2 r1 rfl hlen.1;have FA:=f1.alloc (.cells (Uo (q2h s.l) g c1) 50);refine ⟨w1.heap.size,g,rfl,f1.size,hB,⟨by omega,hlen.1,hlen.2,c1,cur,Go.heap_alloc_new w1 _,hc1,hc2,?_,hs,hall⟩,FA⟩;rw [heap_alloc_old _ _ hg];exact hh
end Go.Proofs.YthokjbikomjhgaaGreatDoor.Wd
