/- Parts. -/
import Derived.Test.YtbddhncgemeohaaGreatDoorYaq
import Derived.Test.YtbddhncgemeohaaGreatDoorYas
set_option linter.unusedVariables false
set_option linter.unusedSimpArgs false
set_option maxRecDepth 100000
set_option maxHeartbeats 12800000
namespace Go.Proofs.YtbddhncgemeohaaGreatDoor.Mx
open Go.RowKit Ar Ref
theorem Yi (h:Int):∀ (n:Nat) (l:List It) (out:List (List It)) (cur:List It),(Qk h n l out cur).length<=out.length+n+1/\(Qk h n l out cur).flatten.length<=out.flatten.length+cur.length+l.length
 | 0,l,out,cur=>by unfold Qk;simp
 | n+1,l,out,cur=>by
  unfold Qk;cases l with
  | nil=>simp
  | cons x r =>
   simp only
   have e:(r.takeWhile (fun y=>y.k == x.k)).length+(r.dropWhile (fun y=>y.k == x.k)).length=r.length:=by rw [<- List.length_append,List.takeWhile_append_dropWhile]
   split
   ·have:=Yi h n (r.dropWhile (fun y=>y.k == x.k)) (out++[cur]) (x :: r.takeWhile (fun y=>y.k == x.k));simp only [List.length_append,List.length_cons,List.length_nil,List.flatten_append,List.flatten_cons,List.flatten_nil] at this ⊢;omega
   ·have:=Yi h n (r.dropWhile (fun y=>y.k == x.k)) out (cur++(x :: r.takeWhile (fun y=>y.k == x.k)));simp only [List.length_append,List.length_cons] at this ⊢;omega
theorem q3c (l:List It) (cells:Int):(vu l cells).length<=l.length+1/\(vu l cells).flatten.length<=l.length:=by have:=Yi (Xz cells) l.length l [] [];unfold vu;simp at this;simp;omega
structure Zq (x:Bd):Prop where
 c:x.c.Ok
 ln:1<=x.line/\x.line<=8
 v:x.versions.length<=100
 i1:x.line=1->x.i=0
 i4:2<=x.line/\x.line<=4->0<=x.i/\x.i<Q8 x.c x.mate/\(x.l.length:Int)<=x.i
 i5:x.line=5->0<=x.i/\x.i<=40
 l1:x.line=1->x.l=[]
 l:x.l.length<=40
 g:x.groups.length<=41/\x.groups.flatten.length<=40
 w:x.w.length<=100000
 w6:x.line=6->0<=x.i/\x.i<(x.w.length:Int)
 i0:-1<=x.i
theorem X9 {c:Cf} (h:c.Ok) (m:Int):3<=Q8 c m/\Q8 c m<=32:=by have h1:=h.c2;have h2:=h.c16;have h3:=h.t1;unfold Q8;split <;> omega
theorem Zq.ok {x:Bd} (h:Zq x) (hl:x.line<=5):qdt x:=by
 have h1:=h.i1;have h4:=h.i4;have h5:=h.i5;have hL:=h.l;have hv:=h.v;have h0:=h.i0;have hn:=h.ln;have hc:=X9 h.c x.mate;refine ⟨h.c,h0,?_,by omega,hv⟩;rcases (by omega:x.line=1\/(2<=x.line/\x.line<=4)\/x.line=5) with e | e | e
 ·have:=h1 e;omega
 ·have:=h4 e;omega
 ·have:=h5 e;omega
theorem Zq.on {x:Bd} (hc:x.c.Ok) (hv:x.versions.length<=100) (hi:-1<=x.i/\x.i<Q8 x.c x.mate) (hl:(x.l.length:Int)<=x.i+1) (hg:x.groups.length<=41/\x.groups.flatten.length<=40) (hw:x.w.length<=100000):Zq x.on:=by
 have h1:=X9 hc x.mate;unfold Bd.on;split
 ·have h2:=q3c (J6 x.l x.versions) x.c.c;have h3:=Ri x.l x.versions;exact ⟨hc,by simp,hv,by simp,by simp,by simp;omega,by simp,by simp;omega,by simp only;omega,hw,by simp,by simp;omega⟩
 ·exact ⟨hc,by simp,hv,by simp,by simp;omega,by simp,by simp,by simp;omega,hg,hw,by simp,by simp;omega⟩
theorem q54 {ns:List Nk} (h:ns≠[]):0<(je ns).length:=by
 cases ns with
 | nil=>exact absurd rfl h
 | cons n r=>unfold je;rw [List.flatMap_cons,List.length_append];unfold Zg;simp;omega
theorem Zq.step {x:Bd} (h:Zq x) (s:St):(x.step s).1.line=0\/Zq (x.step s).1:=by
 obtain ⟨hc,hn,hv,h1,h4,h5,hl1,hl,hg,hw,h6,h0⟩:=h;have hcl:=X9 hc x.mate;rcases (by omega:x.line=1\/x.line=2\/x.line=3\/x.line=4\/x.line=5\/x.line=6\/x.line=7\/x.line=8) with e | e | e | e | e | e | e | e
 ·right;unfold Bd.step;rw [qg e];exact Zq.on (x:={ x with mn:=qx s.l (wrap64 x.chunk),i:=-1 }) hc hv ⟨by simp,by simp only;omega⟩ (by simp only;rw [hl1 e];simp) hg hw
 ·have h4':=h4 Ly;right;unfold Bd.step;rw [qf Ly,qg e];simp only;split
  ·exact Zq.on (x:={ x with x:=⟨0,Vg (qx s.l x.sa),0⟩,line:=3 }) hc hv ⟨by simp only;omega,by simp only;omega⟩ Mr hg hw
  ·exact Gu
 ·have h4':=h4 Ly;right;unfold Bd.step;rw [qf Ly,qf Ly,qg e];exact Gu
 ·have h4':=h4 Ly;right;unfold Bd.step;rw [qf Ly,qf Ly,qf Ly,qg e];simp only;exact Zq.on (x:={ x with x:=⟨x.x.k,x.x.v,qx s.l (wrap64 (x.sa+2))⟩,l:=x.l++[⟨x.x.k,x.x.v,qx s.l (wrap64 (x.sa+2))⟩] }) hc hv ⟨by simp only;omega,by simp only;omega⟩ Ml hg hw
 ·have h5':=h5 e;unfold Bd.step;rw [qf Ly,qf Ly,qf Ly,qf Ly,qg e];simp only;unfold Bd.five;simp only;split
  ·left;rfl
  ·rename_i hne;right;obtain ⟨cap,hcap⟩:∃ cap:Nat,x.c.c=(cap:Int):=⟨x.c.c.toNat,by have:=hc.c2;have:=hc.t1;omega⟩;have e1:=Yp (cap:=cap) _ (Ko hcap (wrap64 (qx s.l 2)) x.after x.mn x.groups);have e2:=Kj x.c (wrap64 (qx s.l 2)) x.after x.mn x.groups;have e3:(3+3 * cap) * (yt x.c (wrap64 (qx s.l 2)) x.after x.mn x.groups).length<=51 * 41:=Nat.mul_le_mul (by have:=hc.c16;omega) Ly;have e4:=q54 (ns:=yt x.c (wrap64 (qx s.l 2)) x.after x.mn x.groups) (fun e=>hne (.inr (.inr e)));exact ⟨hc,by simp,hv,by simp,by simp,by simp,by simp,hl,hg,by simp only;omega,fun _=>by simp only;omega,by simp⟩
 ·have h6':=h6 e;right;unfold Bd.step;rw [qf Ly,qf Ly,qf Ly,qf Ly,qf Ly,qg e];by_cases hh:(x.w.length:Int)<=x.i+1
  ·rw [qg hh];exact ⟨hc,by simp,hv,by simp,by simp,by simp,by simp,hl,hg,hw,by simp,by simp only;omega⟩
  ·rw [qf hh];exact ⟨hc,by simp,hv,by simp,by simp,by simp,by simp,hl,hg,hw,by simp only;omega,by simp only;omega⟩
 ·right;unfold Bd.step;rw [qf Ly,qf Ly,qf Ly,qf Ly,qf Ly,qf Ly,qg e];exact ⟨hc,by simp,hv,by simp,by simp,by simp,by simp,hl,hg,hw,by simp,h0⟩
 ·left;unfold Bd.step;rw [qf Ly,qf Ly,qf Ly,qf Ly,qf Ly,qf Ly,qf Ly,qg e]
theorem Zq.new {c:Cf} (hc:c.Ok) (chunk mate after:Int) {vs:List Int} (hv:vs.length<=100):Zq (Bd.new c chunk mate after vs) :=
 ⟨hc,by simp [Bd.new],hv,fun _=>rfl,by simp [Bd.new],by simp [Bd.new],fun _=>rfl,by simp [Bd.new],by simp [Bd.new],by simp [Bd.new],by simp [Bd.new],by simp [Bd.new]⟩
def Qr (vv gv wv:Value) (ss:List Sv):List Nat:=vv.ownBlock.toList++(gv.ownBlock.toList++(ss.flatMap (fun s=>s.v.ownBlock.toList)++wv.ownBlock.toList))
theorem x7 {vv gv wv:Value} {ss:List Sv} {k:Nat}:k∈Qr vv gv wv ss↔k∈vv.ownBlock.toList\/k∈gv.ownBlock.toList\/(∃ s,s∈ss/\k∈s.v.ownBlock.toList)\/k∈wv.ownBlock.toList:=by unfold Qr;rw [List.mem_append,List.mem_append,List.mem_append,List.mem_flatMap]
structure BdPt (w:World) (b:Nat) (x:Bd) (vv lv gv wv:Value) (ss:List Sv):Prop where
 o:Q9 w b x vv lv gv wv
 v:Sq fI w vv x.versions
 l:w.ownsRow 0 144 3 lv x.l.length (x.l.flatMap fT)
 g:Sq fS w gv ss
 gs:Gs w ss x.groups
 sw:Sq fQ w wv x.w
 nl:b∉lv.ownBlock.toList
 nr:b∉Qr vv gv wv ss
 lr:∀ k,k∈lv.ownBlock.toList->k∉Qr vv gv wv ss
 lt:∀ k,k∈Qr vv gv wv ss->k<w.heap.size
def Rv (w:World) (B:List Nat) (b:Nat) (x:Bd):Prop:=∃ vv lv gv wv ss,BdPt w b x vv lv gv wv ss/\B=b :: (lv.ownBlock.toList++Qr vv gv wv ss)
theorem Rv.lt {w:World} {B:List Nat} {b:Nat} {x:Bd} (h:Rv w B b x):∀ k,k∈B->k<w.heap.size:=by
 obtain ⟨vv,lv,gv,wv,ss,h,rfl⟩:=h;intro k hk;rcases List.mem_cons.1 hk with rfl | hk
 ·exact Ob.lt h.o
 ·rcases List.mem_append.1 hk with hk | hk
  ·exact Zp h.l k hk
  ·exact h.lt k hk
theorem Rv.kept {S:List Nat} {w w':World} {B:List Nat} {b:Nat} {x:Bd} (h:Rv w B b x) (f:Fr S w w') (hS:∀ k,k∈B->k∉S):Rv w' B b x:=by
 obtain ⟨vv,lv,gv,wv,ss,h,rfl⟩:=h;have hr:∀ k,k∈Qr vv gv wv ss->k∉S:=fun k hk=>hS k Nr
 have hl:∀ k,k∈lv.ownBlock.toList->k∉S:=fun k hk=>hS k (by simp only [List.mem_cons,List.mem_append];exact .inr (.inl hk))
 exact ⟨vv,lv,gv,wv,ss,⟨Ob.kept h.o f (hS b Ma),h.v.kept f (fun k hk=>hr k (x7.2 (.inl hk))),Q7 h.l f (fun g hg=>hl g A00),h.g.kept f (fun k hk=>hr k (x7.2 (.inr (.inl hk)))),h.gs.kept f (fun s hs k hk=>hr k (x7.2 (.inr (.inr (.inl ⟨s,hs,hk⟩))))),h.sw.kept f (fun k hk=>hr k (x7.2 (.inr (.inr (.inr hk))))),h.nl,h.nr,h.lr,fun k hk=>ql (h.lt k hk) f.size⟩,rfl⟩
theorem U9 {w w':World} {b p q:Nat} {x x':Bd} {vv lv gv wv lv' gv' wv':Value} {ss:List Sv} (h:BdPt w b x vv lv gv wv ss) (hp:p∉b :: (lv.ownBlock.toList++Qr vv gv wv ss)) (hq:q∉b :: (lv.ownBlock.toList++Qr vv gv wv ss)) (F:Fr ([b,p,q]++lv.ownBlock.toList) w w')
  (ho:Q9 w' b x' vv lv' gv' wv') (hv:x'.versions=x.versions) (hl:w'.ownsRow 0 144 3 lv' x'.l.length (x'.l.flatMap fT)) (hl2:∀ k,k∈lv'.ownBlock.toList->k∈lv.ownBlock.toList\/w.heap.size<=k)
  (hg:(x'.groups=x.groups/\gv'=gv)\/∃ ss',Sq fS w' gv' ss'/\Gs w' ss' x'.groups/\(∀ k,k∈gv'.ownBlock.toList->w.heap.size<=k/\k<w'.heap.size)/\(∀ s,s∈ss'->∀ k,k∈s.v.ownBlock.toList->w.heap.size<=k/\k<w'.heap.size)/\(∀ k,k∈lv'.ownBlock.toList->k∉gv'.ownBlock.toList/\∀ s,s∈ss'->k∉s.v.ownBlock.toList))
  (hw:(x'.w=x.w/\wv'=wv)\/(Sq fQ w' wv' x'.w/\(∀ k,k∈wv'.ownBlock.toList->w.heap.size<=k/\k<w'.heap.size)/\∀ k,k∈lv'.ownBlock.toList->k∉wv'.ownBlock.toList)) :
  ∃ B',Rv w' B' b x'/\∀ k,k∈B'->k∈b :: (lv.ownBlock.toList++Qr vv gv wv ss)\/w.heap.size<=k:=by
 have hb:=Ob.lt h.o
 have hS:∀ k,k∈Qr vv gv wv ss->k∉[b,p,q]++lv.ownBlock.toList:=by
  intro k hk hi;simp only [List.mem_append,List.mem_cons,List.not_mem_nil,or_false] at hi;rcases hi with (rfl | rfl | rfl) | hi
  ·exact h.nr hk
  ·exact hp Nr
  ·exact hq Nr
  ·exact h.lr k hi hk
 have hv1:=h.v.kept F (fun k hk=>hS k (x7.2 (.inl hk)));rw [<- hv] at hv1;have nl:b∉lv'.ownBlock.toList:=fun hi=>by rcases hl2 b hi with e | e;exact h.nl e;omega
 have old:∀ k,k∈Qr vv gv wv ss->k<w'.heap.size:=fun k hk=>ql (h.lt k hk) F.size
 have lold:∀ k,k∈lv'.ownBlock.toList->k∉Qr vv gv wv ss:=fun k hk hi=>by rcases hl2 k hk with e | e;exact h.lr k e hi;have:=h.lt k hi;omega
 have G:∃ ss',Sq fS w' gv' ss'/\Gs w' ss' x'.groups/\(∀ k,(k∈gv'.ownBlock.toList\/∃ s,s∈ss'/\k∈s.v.ownBlock.toList)->(k∈Qr vv gv wv ss\/(w.heap.size<=k/\k<w'.heap.size/\k∉lv'.ownBlock.toList))):=by
  rcases hg with ⟨e1,rfl⟩ | ⟨ss',a1,a2,a3,a4,a5⟩
  ·refine ⟨ss,h.g.kept F (fun k hk=>hS k (x7.2 (.inr (.inl hk)))),by rw [e1];exact h.gs.kept F (fun s hs k hk=>hS k (x7.2 (.inr (.inr (.inl ⟨s,hs,hk⟩))))),fun k hk=>.inl ?_⟩;rcases hk with hk | ⟨s,hs,hk⟩
   ·exact x7.2 (.inr (.inl hk))
   ·exact x7.2 (.inr (.inr (.inl ⟨s,hs,hk⟩)))
  ·refine ⟨ss',a1,a2,fun k hk=>.inr ?_⟩;rcases hk with hk | ⟨s,hs,hk⟩
   ·exact ⟨(a3 k hk).1,(a3 k hk).2,fun hi=>(a5 k hi).1 hk⟩
   ·exact ⟨(a4 s hs k hk).1,(a4 s hs k hk).2,fun hi=>(a5 k hi).2 s hs hk⟩
 have W:Sq fQ w' wv' x'.w/\∀ k,k∈wv'.ownBlock.toList->(k∈Qr vv gv wv ss\/(w.heap.size<=k/\k<w'.heap.size/\k∉lv'.ownBlock.toList)):=by
  rcases hw with ⟨e1,rfl⟩ | ⟨a1,a2,a3⟩
  ·exact ⟨by rw [e1];exact h.sw.kept F (fun k hk=>hS k (x7.2 (.inr (.inr (.inr hk))))),fun k hk=>.inl (x7.2 (.inr (.inr (.inr hk))))⟩
  ·exact ⟨a1,fun k hk=>.inr ⟨(a2 k hk).1,(a2 k hk).2,fun hi=>a3 k hi hk⟩⟩
 obtain ⟨ss',g1,g2,g3⟩:=G;obtain ⟨w1,w2⟩:=W
 have all:∀ k,k∈Qr vv gv' wv' ss'->(k∈Qr vv gv wv ss\/(w.heap.size<=k/\k<w'.heap.size/\k∉lv'.ownBlock.toList)):=by
  intro k hk;rcases x7.1 hk with hk | hk | hk | hk
  ·exact .inl (x7.2 (.inl hk))
  ·exact g3 k (.inl hk)
  ·exact g3 k (.inr hk)
  ·exact w2 k hk
 refine ⟨_,⟨vv,lv',gv',wv',ss',⟨ho,hv1,hl,g1,g2,w1,nl,fun hi=>?_,fun k hk hi=>?_,fun k hk=>?_⟩,rfl⟩,fun k hk=>?_⟩
 ·rcases all b hi with e | e
  ·exact h.nr e
  ·omega
 ·rcases all k hi with e | e
  ·exact lold k hk e
  ·exact e.2.2 hk
 ·rcases all k hk with e | e
  ·exact old k e
  ·exact e.2.1
 ·rcases List.mem_cons.1 hk with rfl | hk
  ·exact .inl Ma
  ·rcases List.mem_append.1 hk with hk | hk
   ·exact (hl2 k hk).imp (fun e=>by simp only [List.mem_cons,List.mem_append];exact .inr (.inl e)) id
   ·exact (all k hk).imp (fun e=>by simp only [List.mem_cons,List.mem_append];exact .inr (.inr e)) (fun e=>e.1)
theorem q3j (x:Bd) (hx:Zq x) (B:List Nat) (b p q:Nat) (s:St) (w:World) (h:Rv w B b x) (hA:Rar w p q s) (hp:p∉B) (hq:q∉B) :
  Calls Tryz.prog 103 #[.pointer (some ⟨b,0,none⟩),.pointer (some ⟨p,0,none⟩)] w (Stp w (fun w' B'=>Rv w' B' b (x.step s).1) B p q (x.step s).2 (decide ((x.step s).1.line=0))):=by
 obtain ⟨vv,lv,gv,wv,ss,h,rfl⟩:=h;have hn:=hx.ln;have hbp:b≠p:=fun e=>hp (by simp [e])
 have hbq:b≠q:=fun e=>hq (by simp [e])
 have rp:p∉Qr vv gv wv ss:=fun hi=>hp O4
 have rq:q∉Qr vv gv wv ss:=fun hi=>hq O4
 have lp:p∉lv.ownBlock.toList:=fun hi=>hp O5
 have lq:q∉lv.ownBlock.toList:=fun hi=>hq O5
 have nV:b∉vv.ownBlock.toList/\p∉vv.ownBlock.toList/\q∉vv.ownBlock.toList:=⟨fun hi=>h.nr (x7.2 (.inl hi)),fun hi=>rp (x7.2 (.inl hi)),fun hi=>rq (x7.2 (.inl hi))⟩;have nG:b∉gv.ownBlock.toList/\p∉gv.ownBlock.toList/\q∉gv.ownBlock.toList:=⟨fun hi=>h.nr (x7.2 (.inr (.inl hi))),fun hi=>rp (x7.2 (.inr (.inl hi))),fun hi=>rq (x7.2 (.inr (.inl hi)))⟩;have nS:∀ s,s∈ss->b∉s.v.ownBlock.toList/\p∉s.v.ownBlock.toList/\q∉s.v.ownBlock.toList:=fun s hs=>⟨fun hi=>h.nr (x7.2 (.inr (.inr (.inl ⟨s,hs,hi⟩)))),fun hi=>rp (x7.2 (.inr (.inr (.inl ⟨s,hs,hi⟩)))),fun hi=>rq (x7.2 (.inr (.inr (.inl ⟨s,hs,hi⟩))))⟩
 have nW:b∉wv.ownBlock.toList/\p∉wv.ownBlock.toList/\q∉wv.ownBlock.toList:=⟨fun hi=>h.nr (x7.2 (.inr (.inr (.inr hi)))),fun hi=>rp (x7.2 (.inr (.inr (.inr hi)))),fun hi=>rq (x7.2 (.inr (.inr (.inr hi))))⟩;have nL:b∉lv.ownBlock.toList/\p∉lv.ownBlock.toList/\q∉lv.ownBlock.toList:=⟨h.nl,lp,lq⟩;have nVL:∀ k,k∈vv.ownBlock.toList->k∉lv.ownBlock.toList:=fun k hk hi=>h.lr k hi (x7.2 (.inl hk))
 have hL:=Sq.own (f:=fT) h.l
 have sub3:∀ k,k∈[b,p,q]++lv.ownBlock.toList->k∈p :: q :: b :: (lv.ownBlock.toList++Qr vv gv wv ss):=by intro k hk;simp only [List.mem_append,List.mem_cons,List.not_mem_nil,or_false] at hk ⊢;rcases hk with (hk | hk | hk) | hk <;> simp [hk]
 have sub1:∀ k,k∈[b,p,q]->k∈[b,p,q]++lv.ownBlock.toList:=fun k hk=>List.mem_append_left _ hk
 have same:∀ (e:Ending) (w':World),(x.step s).1.versions=x.versions->(x.step s).1.l=x.l->(x.step s).1.groups=x.groups->(x.step s).1.w=x.w ->
   (e = .returned (.bool (decide ((x.step s).1.line=0)))/\Q9 w' b (x.step s).1 vv lv gv wv/\Rar w' p q (x.step s).2/\Fr [b,p,q] w w')->Stp w (fun w' B'=>Rv w' B' b (x.step s).1) (b :: (lv.ownBlock.toList++Qr vv gv wv ss)) p q (x.step s).2 (decide ((x.step s).1.line=0)) e w':=by
  rintro e w' e1 e2 e3 e4 ⟨he,ho,hA',F⟩
  have hl':w'.ownsRow 0 144 3 lv (x.step s).1.l.length ((x.step s).1.l.flatMap fT):=by rw [e2];exact Q7 h.l F (fun g hg hi=>by have hk2:g∈lv.ownBlock.toList:=A00;simp at hi;rcases hi with rfl | rfl | rfl;exact h.nl hk2;exact lp hk2;exact lq hk2)
  obtain ⟨B',h1,h2⟩:=U9 h hp hq (F.mono sub1) ho e1 hl' (fun k hk=>.inl hk) (.inl ⟨e3,rfl⟩) (.inl ⟨e4,rfl⟩)
  exact ⟨he,⟨B',h1,h2⟩,hA',(F.mono sub1).mono sub3⟩
 have on:∀ (e:Ending) (w':World),(x.step s).1.versions=x.versions->(x.step s).1.l=x.l->(x.step s).1.w=x.w ->
   (e = .returned (.bool (decide ((x.step s).1.line=0)))/\(∃ gv',Q9 w' b (x.step s).1 vv lv gv' wv/\(((x.step s).1.groups=x.groups/\gv'=gv)\/∃ ss,Sq fS w' gv' ss/\Gs w' ss (x.step s).1.groups/\(∀ k,k∈gv'.ownBlock.toList->w.heap.size<=k/\k<w'.heap.size)/\(∀ s,s∈ss->∀ k,k∈s.v.ownBlock.toList->w.heap.size<=k/\k<w'.heap.size)))/\Rar w' p q (x.step s).2/\Fr [b,p,q] w w') ->
   Stp w (fun w' B'=>Rv w' B' b (x.step s).1) (b :: (lv.ownBlock.toList++Qr vv gv wv ss)) p q (x.step s).2 (decide ((x.step s).1.line=0)) e w':=by
  rintro e w' e1 e2 e4 ⟨he,⟨gv',ho,hg⟩,hA',F⟩
  have hl':w'.ownsRow 0 144 3 lv (x.step s).1.l.length ((x.step s).1.l.flatMap fT):=by rw [e2];exact Q7 h.l F (fun g hg hi=>by have hk2:g∈lv.ownBlock.toList:=A00;simp at hi;rcases hi with rfl | rfl | rfl;exact h.nl hk2;exact lp hk2;exact lq hk2)
  obtain ⟨B',h1,h2⟩:=U9 h hp hq (F.mono sub1) ho e1 hl' (fun k hk=>.inl hk) (hg.imp id (fun ⟨ss',a1,a2,a3,a4⟩=>⟨ss',a1,a2,a3,a4,fun k hk=>⟨fun hi=>by have h9:=Zp h.l k hk;have h8:=(a3 k hi).1;omega,fun s hs hi=>by have h9:=Zp h.l k hk;have h8:=(a4 s hs k hi).1;omega⟩⟩)) (.inl ⟨e4,rfl⟩)
  exact ⟨he,⟨B',h1,h2⟩,hA',(F.mono sub1).mono sub3⟩
 have onS:∀ y:Bd,y.on.versions=y.versions/\y.on.l=y.l/\y.on.w=y.w:=fun y=>by unfold Bd.on;split <;> exact ⟨rfl,rfl,rfl⟩
 rcases (by omega:x.line=1\/x.line=2\/x.line=3\/x.line=4\/x.line=5\/x.line=6\/x.line=7\/x.line=8) with e | e | e | e | e | e | e | e
 ·have hs:(x.step s).1=Bd.on { x with mn:=qx s.l (wrap64 x.chunk),i:=-1 }:=by unfold Bd.step;rw [qg e]
  refine (qbu x e (hx.ok Ly) b p q s w vv lv gv wv h.o hA hbp hbq h.v hL nV nL).mono (fun e' w' hh=>on e' w' ?_ ?_ ?_ hh)
  ·rw [hs,(onS _).1]
  ·rw [hs,(onS _).2.1]
  ·rw [hs,(onS _).2.2]
 ·refine (qbb x e (hx.ok Ly) b p q s w vv lv gv wv h.o hA hbp hbq h.v hL nV nL).mono (fun e' w' hh=>on e' w' ?_ ?_ ?_ hh) <;> (unfold Bd.step;rw [qf Ly,qg e];simp only;split) <;> first | rfl | (rw [(onS _).1]) | (rw [(onS _).2.1]) | (rw [(onS _).2.2])
 ·refine (qbl x e hx.c b p q s w vv lv gv wv h.o hA hbp hbq).mono (fun e' w' hh=>same e' w' ?_ ?_ ?_ ?_ hh) <;> (unfold Bd.step;rw [qf Ly,qf Ly,qg e])
 ·refine (qau x e (hx.ok Ly) b p q s w vv lv gv wv h.o hA hbp hbq h.v h.l nV nL nVL).mono ?_;rintro e' w' ⟨he,⟨lv',gv',ho,hl',hl2,hg⟩,hA',F⟩;have hs:(x.step s).1=Bd.on { x with x:=⟨x.x.k,x.x.v,qx s.l (wrap64 (x.sa+2))⟩,l:=x.l++[⟨x.x.k,x.x.v,qx s.l (wrap64 (x.sa+2))⟩] }:=by unfold Bd.step;rw [qf Ly,qf Ly,qf Ly,qg e]
  obtain ⟨B',h1,h2⟩:=U9 h hp hq F ho (by rw [hs,(onS _).1]) hl' hl2 hg (.inl ⟨by rw [hs,(onS _).2.2],rfl⟩);exact ⟨he,⟨B',h1,h2⟩,hA',F.mono sub3⟩
 ·have hg9:=hx.g;refine (qc0 x e (hx.ok Ly) Ly Ly b p q s w vv lv gv wv h.o hA hbp hbq ss h.g h.gs nG nS).mono ?_;rintro e' w' ⟨he,⟨wv',ho,hw⟩,hA',F⟩
  have hs:(x.step s).1.versions=x.versions/\(x.step s).1.l=x.l/\(x.step s).1.groups=x.groups:=by unfold Bd.step;rw [qf Ly,qf Ly,qf Ly,qf Ly,qg e];simp only;unfold Bd.five;simp only;exact Ii
  have hl':w'.ownsRow 0 144 3 lv (x.step s).1.l.length ((x.step s).1.l.flatMap fT):=by rw [hs.2.1];exact Q7 h.l F (fun g hg hi=>by have hk2:g∈lv.ownBlock.toList:=A00;simp at hi;rcases hi with rfl | rfl | rfl;exact h.nl hk2;exact lp hk2;exact lq hk2)
  obtain ⟨B',h1,h2⟩:=U9 h hp hq (F.mono sub1) ho hs.1 hl' (fun k hk=>.inl hk) (.inl ⟨hs.2.2,rfl⟩) (hw.imp id (fun ⟨a1,a2⟩=>⟨a1,a2,fun k hk hi=>by have h9:=Zp h.l k hk;have h8:=(a2 k hi).1;omega⟩));exact ⟨he,⟨B',h1,h2⟩,hA',(F.mono sub1).mono sub3⟩
 ·refine (qbx x e hx.c (hx.w6 e) hx.w b p q s w vv lv gv wv h.o hA hbp hbq h.sw nW).mono (fun e' w' hh=>same e' w' ?_ ?_ ?_ ?_ hh) <;> (unfold Bd.step;rw [qf Ly,qf Ly,qf Ly,qf Ly,qf Ly,qg e])
 ·refine (qc2 x e hx.c b p q s w vv lv gv wv h.o hA hbp hbq).mono (fun e' w' hh=>same e' w' ?_ ?_ ?_ ?_ hh) <;> (unfold Bd.step;rw [qf Ly,qf Ly,qf Ly,qf Ly,qf Ly,qf Ly,qg e])
 ·refine (qcg x e hx.c b p q s w vv lv gv wv h.o hA hbp hbq).mono (fun e' w' hh=>same e' w' ?_ ?_ ?_ ?_ hh) <;> (unfold Bd.step;rw [qf Ly,qf Ly,qf Ly,qf Ly,qf Ly,qf Ly,qf Ly,qg e])
theorem Qp (x:Ld) (b:Nat) (w:World) (h:yd w b x):Calls Tryz.prog 98 #[.pointer (some ⟨b,0,none⟩)] w fun e w'=>e = .returned (.tuple #[.int .i64 x.three.1,.int .i64 x.three.2.1,.int .i64 x.three.2.2])/\Fr [] w w':=by
 obtain ⟨c0,c1,c2,c3,c4,c5,c6,c7,c8,c9,c10,c11,c12,c13⟩:=zi h;by_cases hl:x.line=0
 ·rw [hl] at c7;cases ha:x.alone
  ·have e3:x.three=(x.l,x.n,x.after):=by unfold Ld.three;simp [hl,ha]
   rw [e3];rw [ha] at c12;go_enter Tryz.func98,Tryz.ntmps98;go_wp2_with fail;have k8:=qc c8;have k9:=qc c9;exact Cb
  have e3:x.three=(x.l,0,x.after):=by unfold Ld.three;simp [hl,ha]
  rw [e3];rw [ha] at c12;go_enter Tryz.func98,Tryz.ntmps98;go_wp2_with fail;have k8:=qc c8;exact Cb
 ·have e3:x.three=(0,0,0):=by unfold Ld.three;simp [hl]
  rw [e3];have g:(x.line != 0)=true:=by simpa using hl
  go_enter Tryz.func98,Tryz.ntmps98;go_wp2_with fail;go_ret3;exact ⟨rfl,Fr.refl _ _⟩
def FmC (f:Fm) (lb:Nat) (sp np bp pp:Option Nat):Array Value:=#[.int .i64 f.chunk,.int .i64 f.part,.pointer (some ⟨lb,0,none⟩),vh sp,vh np,.bool false,vh bp,vh pp,.int .i64 f.repl]
def Zw (w:World) (b:Nat) (f:Fm) (lb:Nat) (sp np bp pp:Option Nat):Prop:=Ob w b 155 (FmC f lb sp np bp pp)
theorem zx {w:World} {b lb:Nat} {f:Fm} {sp np bp pp:Option Nat} (h:Zw w b f lb sp np bp pp):w.cell? ⟨b,0,none⟩=some (.int .i64 f.chunk)/\w.cell? ⟨b,1,none⟩=some (.int .i64 f.part)/\w.cell? ⟨b,2,none⟩=some (.pointer (some ⟨lb,0,none⟩))/\w.cell? ⟨b,3,none⟩=some (vh sp)/\w.cell? ⟨b,4,none⟩=some (vh np)/\w.cell? ⟨b,5,none⟩=some (.bool false)/\w.cell? ⟨b,6,none⟩=some (vh bp)/\w.cell? ⟨b,7,none⟩=some (vh pp)/\w.cell? ⟨b,8,none⟩=some (.int .i64 f.repl) :=
 ⟨h.cell rfl,h.cell rfl,h.cell rfl,h.cell rfl,h.cell rfl,h.cell rfl,h.cell rfl,h.cell rfl,h.cell rfl⟩
theorem Xc (f:Fm) (c:Cf) (hc:c.Ok) (repl:Int) (b lb:Nat) (sp np bp pp:Option Nat) (w:World) (h:Zw w b f lb sp np bp pp) (hl:yd w lb f.l) :
  Calls Tryz.prog 101 #[.pointer (some ⟨b,0,none⟩),c.val,.int .i64 repl] w fun e w'=>e = .returned (.tuple #[])/\(∃ pb,w.heap.size<=pb/\Zw w' b (f.splice c repl) lb sp np bp (some pb)/\Zr w' pb (Sp.new c f.l.three.1 f.l.three.2.1 repl))/\Fr [b] w w':=by
 unfold Cf.val;have F0:=(Fr.refl [] w).alloc (.cells #[.int .i64 c.t,.int .i64 c.c,.int .i64 c.wd,.int .i64 c.v] 23);have o0:=Ob.new w 23 #[.int .i64 c.t,.int .i64 c.c,.int .i64 c.wd,.int .i64 c.v];have h0:=Ob.up h F0;have l0:=Ob.up hl F0;obtain ⟨c0,c1,c2,c3,c4,c5,c6,c7,c8⟩:=zx h0;have z:=h0.frozen;have hbn:=Ob.lt h;have hbe:¬ b=w.heap.size:=by omega
 clear h hl;go_enter Tryz.func101,Tryz.ntmps101;go_wp2_with fail;generalize (w.alloc (.cells #[.int .i64 c.t,.int .i64 c.c,.int .i64 c.wd,.int .i64 c.v] 23))=w0 at *;generalize hq:w.heap.size=q at *;have HQ:=qb hq;clear c0 c1 c2 c3 c4 c5 c6 c7 c8 z hq;refine (Qp f.l lb w0 l0).mono ?_;rintro e w1 ⟨rfl,F1⟩;have h1:=Ob.up h0 F1;have o1:=Ob.up o0 F1;have D1:=F0.trans F1;obtain ⟨c0,c1,c2,c3,c4,c5,c6,c7,c8⟩:=zx h1;have z:=h1.frozen;obtain ⟨d0,d1,d2,d3⟩:=Pl.xj o1;clear h0 o0 l0 F0 F1;go_wp2_with fail;clear c0 c1 c2 c3 c4 c5 c6 c7 c8 z d0 d1 d2 d3;refine (Us c f.l.three.1 f.l.three.2.1 repl _).mono ?_;rintro e w2 ⟨pb,rfl,hpb,p2,F2⟩;have h2:=Ob.up h1 F2;have D2:=D1.trans F2;have HPB:=qb (qi D1.size hpb);obtain ⟨c0,c1,c2,c3,c4,c5,c6,c7,c8⟩:=zx h2;have z:=h2.frozen;have hne:¬ b=pb:=by have:=Ob.lt h1;omega
 clear h1 o1 D1 F2 hpb;go_wp2_with fail;go_end0;refine ⟨rfl,⟨pb,?_,Ob.set (Ob.set (Ob.set h2 (i:=8) _) (i:=1) _) (i:=7) _,Ob.other (Ob.other (Ob.other p2 (Ne.symm hne) _) (Ne.symm hne) _) (Ne.symm hne) _⟩,(((D2.mono).trans (Fr.setCell _ Ma)).setCell' _ Ma).setCell' _ Ma⟩;exact HPB.out
theorem Rk (x:Nd) (hl:x.line=0) (b:Nat) (w:World) (h:Vd w b x):Calls Tryz.prog 126 #[.pointer (some ⟨b,0,none⟩)] w fun e w'=>e = .returned x.lv/\w'=w:=by obtain ⟨c0,c1,c2,c3,c4,c5,c6,c7,c8⟩:=xu h;rw [hl] at c5;go_enter Tryz.func126,Tryz.ntmps126;exact Bu
theorem Tz (c:Cf) (chunk mate after:Int) (vs:List Int) (vv:Value) (w:World) (hV:Sq fI w vv vs) (hlt:∀ k,k∈vv.ownBlock.toList->k<w.heap.size) :
  Calls Tryz.prog 125 #[c.val,.int .i64 chunk,.int .i64 mate,.int .i64 after,vv] w fun e w'=>∃ b B,e = .returned (.pointer (some ⟨b,0,none⟩))/\w.heap.size<=b/\Rv w' B b (Bd.new c chunk mate after vs)/\(∀ k,k∈B->k∈vv.ownBlock.toList\/w.heap.size<=k)/\Fr [] w w':=by
 obtain ⟨av,cv,rfl,hcv,hmv,-⟩:=id hV;unfold Cf.val;have F0:=(Fr.refl [] w).alloc (.cells #[.int .i64 c.t,.int .i64 c.c,.int .i64 c.wd,.int .i64 c.v] 23);obtain ⟨c0,c1,c2,c3⟩:=Pl.xj (Go.heap_alloc_new w (.cells #[.int .i64 c.t,.int .i64 c.c,.int .i64 c.wd,.int .i64 c.v] 23));go_enter Tryz.func125,Tryz.ntmps125;go_wp2;go_ret;have ho:Q9 _ (w.heap.size+1) (Bd.new c chunk mate after vs) (.slice av vs.length cv) (.slice none 0 0) (.slice none 0 0) (.slice none 0 0):=Ob.newAt (Vz w (.cells #[.int .i64 c.t,.int .i64 c.c,.int .i64 c.wd,.int .i64 c.v] 23)) _ _;have F1:=F0.alloc (.cells ((Bd.new c chunk mate after vs).cells (.slice av vs.length cv) (.slice none 0 0) (.slice none 0 0) (.slice none 0 0)) 166)
 have hr:∀ k,k∈Qr (.slice av vs.length cv) (.slice none 0 0) (.slice none 0 0) []->k∈(Value.slice av vs.length cv).ownBlock.toList:=by
  intro k hk;rcases x7.1 hk with hk | hk | ⟨s,hs,hk⟩ | hk
  ·exact hk
  ·simp [Value.ownBlock] at hk
  ·simp at hs
  ·simp [Value.ownBlock] at hk
 refine ⟨_,_,rfl,by omega,⟨_,_,_,_,[],⟨ho,hV.up F1,⟨rfl,.inl ⟨rfl,rfl⟩⟩,Sq.nil _,⟨rfl,fun i s g e=>by simp at e⟩,Sq.nil _,by simp [Value.ownBlock],fun hi=>?_,fun k hk=>by simp [Value.ownBlock] at hk,fun k hk=>?_⟩,rfl⟩,fun k hk=>?_,F1⟩
 ·have:=hlt _ (hr _ hi);omega
 ·exact ql (hlt _ (hr _ hk)) F1.size
 ·rcases List.mem_cons.1 hk with rfl | hk
  ·exact .inr Ly
  rcases List.mem_append.1 hk with hk | hk
  ·simp [Value.ownBlock] at hk
  exact .inl (hr k hk)
def fP (b:Nat):List Value:=[.pointer (some ⟨b,0,none⟩)]
theorem Vb:Lays fP 1:=⟨fun _=>rfl,fun x u hu=>by rw [List.mem_singleton.1 hu];rfl,by decide⟩
theorem fpI:(Tryz.prog.info? 148).map (fun i=>(i.zero,i.size,i.bytes))=some (some (.pointer none),1,8):=by kernel_rfl
def MdC (m:Md) (dv fv:Value):Array Value:=#[.int .i64 m.c.t,.int .i64 m.c.c,.int .i64 m.c.wd,.int .i64 m.c.v,dv,fv,.int .i64 m.e]
def Zb (w:World) (b:Nat) (m:Md) (dv fv:Value):Prop:=Ob w b 130 (MdC m dv fv)
theorem zn {w:World} {b:Nat} {m:Md} {dv fv:Value} (h:Zb w b m dv fv):w.cell? ⟨b,0,none⟩=some (.int .i64 m.c.t)/\w.cell? ⟨b,1,none⟩=some (.int .i64 m.c.c)/\w.cell? ⟨b,2,none⟩=some (.int .i64 m.c.wd)/\w.cell? ⟨b,3,none⟩=some (.int .i64 m.c.v)/\w.cell? ⟨b,4,none⟩=some dv/\w.cell? ⟨b,5,none⟩=some fv/\w.cell? ⟨b,6,none⟩=some (.int .i64 m.e) :=
 ⟨h.cell rfl,h.cell rfl,h.cell rfl,h.cell rfl,h.cell rfl,h.cell rfl,h.cell rfl⟩
theorem q6h {ds:List Int} (h:ds.length=0):J4 ds=false:=by rw [List.eq_nil_of_length_eq_zero h];rfl
theorem q90 {ds:List Int} {d:Int} (h:ds[0]? = some d):J4 ds=decide (bits .and .i64 d 1=1):=by
 cases ds with
 | nil=>simp at h
 | cons a r=>simp at h;rw [h];rfl
theorem Wu (m:Md) (hc:m.c.Ok) (chunk:Int) (b:Nat) (dv fv:Value) (fbs:List Nat) (w:World) (h:Zb w b m dv fv) (hD:Sq fI w dv m.draws) (hF:Sq fP w fv fbs) (hlen:fbs.length<=100000) :
  Calls Tryz.prog 109 #[.pointer (some ⟨b,0,none⟩),.int .i64 chunk] w fun e w'=>e = .returned (.tuple #[])/\(∃ fv' fb lb,Zb w' b m dv fv'/\Sq fP w' fv' (fbs++[fb])/\Zw w' fb (Fm.new m.c chunk (J4 m.draws)) lb none none none none/\yd w' lb (Ld.new m.c chunk (J4 m.draws))/\w.heap.size<=fb/\w.heap.size<=lb/\fb≠lb/\(∀ k,k∈fv'.ownBlock.toList->w.heap.size<=k/\k<w'.heap.size/\k≠fb/\k≠lb))/\Fr [b] w w':=by
 obtain ⟨ad,cd,rfl,hcd,hmd,-⟩:=id hD;obtain ⟨af,cf,rfl,hcf,hmf,-⟩:=id hF;generalize hdr:J4 m.draws=dr;have HDR:=qb hdr;clear hdr;have HH:=qb (qd hD hF);clear hD hF;obtain ⟨c0,c1,c2,c3,c4,c5,c6⟩:=zn h;by_cases hz:m.draws.length=0
 ·have hd2:dr=false:=by rw [<- HDR.out];exact q6h hz
  have hzz:((m.draws.length:Nat):Int)=0:=by omega
  clear hz;subst hd2;go_enter Tryz.func109,Tryz.ntmps109;go_wp2_with fail;clear hzz;clear c0 c1 c2 c3 c4 c5 c6;refine qq Me ?_;refine za [] w #[true,true,true,true,true,true,true,true,true,true,true,true,true,true,true,true,true,true,false,false,false] 18 3 rfl ?_;refine lpq [true,true,true,true,true,false,true,true,true,true,true,true,true,false,false,false,false,false,false,false,false] 6 ((Fr.refl _ _).drew) ?_;apply qh;refine ⟨fun wf Ff=>?_,?_⟩
  ·obtain ⟨c0,c1,c2,c3,-,c5,-⟩:=zn (Ob.up h Ff);have j0:=qc c0;have j1:=qc c1;have j2:=qc c2;have j3:=qc c3;have j5:=qc c5;clear c0 c1 c2 c3 c5;exact Ac
  refine loq 5 (fun w1 F1=>?_);have G:=((Fr.refl [] w).drew).trans F1;clear F1;go_wp2_with (at_builtin;go_loud (refine qw Vb rfl _ _ 128 rfl Tryz.underlying128 fpI rfl (B:=w.heap.size) (.slice none 0 0) [] rfl ⟨rfl,.inl ⟨rfl,rfl⟩⟩ _ fbs rfl (HH.out.2.up G) Ml Mg G.size ?_);intro a2 k2 w2 r2 F2);replace G:=G.trans (F2.mono Mo);rw [List.nil_append] at r2;clear F2;refine qo ⟨G,?_⟩;refine loq 13 (fun w3 F3=>?_);have r3:=qp r2 F3;replace G:=G.trans F3;clear F3 r2;go_wp2_with fail;refine (V9 m.c chunk false w3).mono ?_;rintro e w4 ⟨lb,rfl,hlb,l4,F4⟩;have r4:=qp r3 F4;have HLB:=qb (qi G.size hlb);replace G:=G.trans F4;clear F4 r3 hlb;go_wp2_with fail;refine qo ⟨G,?_⟩;refine loq 14 (fun w5 F5=>?_);have r5:=qp r4 F5;have l5:=Ob.up l4 F5;replace G:=G.trans F5;clear F5 r4 l4;go_wp2_with fail;refine qo ⟨G,?_⟩;refine loq 15 (fun w6 F6=>?_);have r6:=qp r5 F6;have l6:=Ob.up l5 F6;replace G:=G.trans F6;clear F6 r5 l5;go_wp2_with fail;have F7:=(Fr.refl [] w6).alloc (.cells #[.int .i64 chunk,.int .i64 1,.pointer (some ⟨lb,0,none⟩),.pointer none,.pointer none,.bool false,.pointer none,.pointer none,.int .i64 0] 155);have o7:=Ob.new w6 155 #[.int .i64 chunk,.int .i64 1,.pointer (some ⟨lb,0,none⟩),.pointer none,.pointer none,.bool false,.pointer none,.pointer none,.int .i64 0];have r7:=qp r6 F7;have l7:=Ob.up l6 F7;have HLF:=qb (qd (Ob.lt l6) (qd G.size (Zp r6)));replace G:=G.trans F7;generalize (w6.alloc (.cells #[.int .i64 chunk,.int .i64 1,.pointer (some ⟨lb,0,none⟩),.pointer none,.pointer none,.bool false,.pointer none,.pointer none,.int .i64 0] 155))=w7 at *;generalize w6.heap.size=fb at *;clear F7 r6 l6;refine qo ⟨G,?_⟩;refine loq 16 (fun w8 F8=>?_);have r8:=qp r7 F8;have l8:=Ob.up l7 F8;have o8:=Ob.up o7 F8;replace G:=G.trans F8;clear F8 r7 l7 o7;go_wp2_with fail;have F9:=(Fr.refl [] w8).alloc (.cells #[.pointer (some ⟨fb,0,none⟩)] 148);have B9:=Go.heap_alloc_new w8 (.cells #[.pointer (some ⟨fb,0,none⟩)] 148);have r9:=qp r8 F9;have l9:=Ob.up l8 F9;have o9:=Ob.up o8 F9;replace G:=G.trans F9;clear F9 r8 l8 o8;refine qo ⟨G,?_⟩;refine loq 17 (fun w10 F10=>?_);have r10:=qp r9 F10;have l10:=Ob.up l9 F10;have o10:=Ob.up o9 F10;have B10:=F10.heap B9 Ma;replace G:=G.trans F10;clear F10 r9 l9 o9 B9;go_wp2_with (at_builtin;go_loud (refine qw Vb rfl _ _ 128 rfl Tryz.underlying128 fpI rfl (B:=w.heap.size) _ fbs rfl r10 _ [fb] rfl (Sq.block B10 rfl rfl (Nat.le_refl _) Mm) Ml Mg G.size ?_);intro a11 k11 w11 r11 F11;generalize hT:fbs++[fb]=T at r11 ⊢);have HT:=qb hT;have l11:=Ob.kept l10 F11 (jl r10 l10 Mg);have o11:=Ob.kept o10 F11 (jl r10 o10 Mg);replace G:=G.own F11 (zh r10);clear F11 r10 l10 o10 B10 hT;refine qo ⟨G,?_⟩;refine qy (k:=18) rfl Me (fun w12 F12=>?_);have r12:=qp r11 F12;have l12:=Ob.up l11 F12;have o12:=Ob.up o11 F12;replace G:=G.trans F12;have h12:=Ob.up h G;have hbw:=Ob.lt h;clear F12 r11 l11 o11 h;have z:=h12.frozen;obtain ⟨c0,c1,c2,c3,c4,c5,c6⟩:=zn h12;have nb1:=jl r12 h12 Mg;have nb2:=jl r12 l12 Mg;have nb3:=jl r12 o12 Mg;have HR:=qb (qd r12 (qd l12 (qd o12 (qd h12 G))));have hbf:¬ b=fb/\¬ b=lb:=by have:=HLB.out;have:=HLF.out.2.1;omega
  clear r12 l12 o12 h12 G;go_wp2_with fail;go_end0;have SF:Fr [b] w12 (w12.setCell ⟨b,5,none⟩ (.slice a11 T.length k11)):=Fr.setCell _ Ma;refine ⟨rfl,⟨_,fb,lb,Ob.set HR.out.2.2.2.1 (i:=5) (.slice a11 T.length k11),by rw [HT.out];exact (Sq.own (f:=fP) HR.out.1).kept SF (fun k hk hi=>by simp at hi;subst hi;exact nb1 hk),Ob.other HR.out.2.2.1 (Ne.symm hbf.1) _,Ob.other HR.out.2.1 (Ne.symm hbf.2) _,HLF.out.2.1,HLB.out,by have:=HLF.out.1;omega,fun k hk=>⟨zh HR.out.1 k Nh,ql (Zp HR.out.1 k Nh) SF.size,fun e=>nb3 Oo,fun e=>nb2 Oo⟩⟩,(HR.out.2.2.2.2.mono Ma).trans SF⟩
 ·obtain ⟨d,hd⟩:∃ d,m.draws[0]? = some d:=⟨m.draws[0]'(by omega),List.getElem?_eq_getElem _⟩;obtain ⟨gd,od,rfl,d0⟩:=Zv HH.out.1 hd;have hd2:dr=decide (bits .and .i64 d 1=1):=by rw [<- HDR.out];exact q90 hd
  have HD2:=qb hd2;have hz0:(0:Int)<(m.draws.length:Int):=by omega
  replace d0:w.cell? ⟨gd,od,none⟩=some (.int .i64 d):=by simpa using d0
  clear hd2 hz hd;by_cases hbit:bits .and .i64 d 1=1
  focus
   have g9:(bits .and .i64 d 1 == 1)=true:=by simpa using hbit
   have HD3:dr=true:=by rw [HD2.out];simpa using hbit
   subst HD3
   clear hbit
   go_enter Tryz.func109,Tryz.ntmps109
   go_wp2_with fail
   clear hz0 d0 g9
   clear c0 c1 c2 c3 c4 c5 c6
   refine qq Me ?_
   refine za [] w #[true,true,true,true,true,true,true,true,true,true,true,true,true,true,true,true,true,true,false,false,false] 18 3 rfl ?_
   refine lpq [true,true,true,true,true,false,true,true,true,true,true,true,true,false,false,false,false,false,false,false,false] 6 ((Fr.refl _ _).drew) ?_
   apply qh
   refine ⟨fun wf Ff=>?_,?_⟩
   ·obtain ⟨c0,c1,c2,c3,-,c5,-⟩:=zn (Ob.up h Ff)
    have j0:=qc c0
    have j1:=qc c1
    have j2:=qc c2
    have j3:=qc c3
    have j5:=qc c5
    clear c0 c1 c2 c3 c5
    simp only [sel]
    repeat (go_big_quiet_step (fail))
    exact wpQuiet_nil rfl
   refine loq 5 (fun w1 F1=>?_)
   have G:=((Fr.refl [] w).drew).trans F1
   clear F1
   go_wp2_with (at_builtin;go_loud (refine qw Vb rfl _ _ 128 rfl Tryz.underlying128 fpI rfl (B:=w.heap.size) (.slice none 0 0) [] rfl ⟨rfl,.inl ⟨rfl,rfl⟩⟩ _ fbs rfl (HH.out.2.up G) Ml Mg G.size ?_);intro a2 k2 w2 r2 F2)
   replace G:=G.trans (F2.mono Mo)
   rw [List.nil_append] at r2
   clear F2
   refine qo ⟨G,?_⟩
   refine loq 13 (fun w3 F3=>?_)
   have r3:=qp r2 F3
   replace G:=G.trans F3
   clear F3 r2
   go_wp2_with fail
   refine (V9 m.c chunk true w3).mono ?_;rintro e w4 ⟨lb,rfl,hlb,l4,F4⟩
  rotate_left
  focus
   have g9:(bits .and .i64 d 1 == 1)=false:=by simpa using hbit
   have HD3:dr=false:=by rw [HD2.out];simpa using hbit
   subst HD3
   clear hbit
   go_enter Tryz.func109,Tryz.ntmps109
   go_wp2_with fail
   clear hz0 d0 g9
   clear c0 c1 c2 c3 c4 c5 c6
   refine qq Me ?_
   refine za [] w #[true,true,true,true,true,true,true,true,true,true,true,true,true,true,true,true,true,true,false,false,false] 18 3 rfl ?_
   refine lpq [true,true,true,true,true,false,true,true,true,true,true,true,true,false,false,false,false,false,false,false,false] 6 ((Fr.refl _ _).drew) ?_
   apply qh
   refine ⟨fun wf Ff=>?_,?_⟩
   ·obtain ⟨c0,c1,c2,c3,-,c5,-⟩:=zn (Ob.up h Ff)
    have j0:=qc c0
    have j1:=qc c1
    have j2:=qc c2
    have j3:=qc c3
    have j5:=qc c5
    clear c0 c1 c2 c3 c5
    simp only [sel]
    repeat (go_big_quiet_step (fail))
    exact wpQuiet_nil rfl
   refine loq 5 (fun w1 F1=>?_)
   have G:=((Fr.refl [] w).drew).trans F1
   clear F1
   go_wp2_with (at_builtin;go_loud (refine qw Vb rfl _ _ 128 rfl Tryz.underlying128 fpI rfl (B:=w.heap.size) (.slice none 0 0) [] rfl ⟨rfl,.inl ⟨rfl,rfl⟩⟩ _ fbs rfl (HH.out.2.up G) Ml Mg G.size ?_);intro a2 k2 w2 r2 F2)
   replace G:=G.trans (F2.mono Mo)
   rw [List.nil_append] at r2
   clear F2
   refine qo ⟨G,?_⟩
   refine loq 13 (fun w3 F3=>?_)
   have r3:=qp r2 F3
   replace G:=G.trans F3
   clear F3 r2
   go_wp2_with fail
   refine (V9 m.c chunk false w3).mono ?_;rintro e w4 ⟨lb,rfl,hlb,l4,F4⟩
  rotate_left
  all_goals
   have r4:=qp r3 F4
   have HLB:=qb (qi G.size hlb)
   replace G:=G.trans F4
   clear F4 r3 hlb
   go_wp2_with fail
   refine qo ⟨G,?_⟩
   refine loq 14 (fun w5 F5=>?_)
   have r5:=qp r4 F5
   have l5:=Ob.up l4 F5
   replace G:=G.trans F5
   clear F5 r4 l4
   go_wp2_with fail
   refine qo ⟨G,?_⟩
   refine loq 15 (fun w6 F6=>?_)
   have r6:=qp r5 F6
   have l6:=Ob.up l5 F6
   replace G:=G.trans F6
   clear F6 r5 l5
   go_wp2_with fail
   have F7:=(Fr.refl [] w6).alloc (.cells #[.int .i64 chunk,.int .i64 1,.pointer (some ⟨lb,0,none⟩),.pointer none,.pointer none,.bool false,.pointer none,.pointer none,.int .i64 0] 155)
   have o7:=Ob.new w6 155 #[.int .i64 chunk,.int .i64 1,.pointer (some ⟨lb,0,none⟩),.pointer none,.pointer none,.bool false,.pointer none,.pointer none,.int .i64 0]
   have r7:=qp r6 F7
   have l7:=Ob.up l6 F7
   have HLF:=qb (qd (Ob.lt l6) (qd G.size (Zp r6)))
   replace G:=G.trans F7
   generalize (w6.alloc (.cells #[.int .i64 chunk,.int .i64 1,.pointer (some ⟨lb,0,none⟩),.pointer none,.pointer none,.bool false,.pointer none,.pointer none,.int .i64 0] 155))=w7 at *
   generalize w6.heap.size=fb at *
   clear F7 r6 l6
   refine qo ⟨G,?_⟩
   refine loq 16 (fun w8 F8=>?_)
   have r8:=qp r7 F8
   have l8:=Ob.up l7 F8
   have o8:=Ob.up o7 F8
   replace G:=G.trans F8
   clear F8 r7 l7 o7
   go_wp2_with fail
   have F9:=(Fr.refl [] w8).alloc (.cells #[.pointer (some ⟨fb,0,none⟩)] 148)
   have B9:=Go.heap_alloc_new w8 (.cells #[.pointer (some ⟨fb,0,none⟩)] 148)
   have r9:=qp r8 F9
   have l9:=Ob.up l8 F9
   have o9:=Ob.up o8 F9
   replace G:=G.trans F9
   clear F9 r8 l8 o8
   refine qo ⟨G,?_⟩
   refine loq 17 (fun w10 F10=>?_)
   have r10:=qp r9 F10
   have l10:=Ob.up l9 F10
   have o10:=Ob.up o9 F10
   have B10:=F10.heap B9 Ma
   replace G:=G.trans F10
   clear F10 r9 l9 o9 B9
   go_wp2_with (at_builtin;go_loud (refine qw Vb rfl _ _ 128 rfl Tryz.underlying128 fpI rfl (B:=w.heap.size) _ fbs rfl r10 _ [fb] rfl (Sq.block B10 rfl rfl (Nat.le_refl _) Mm) Ml Mg G.size ?_);intro a11 k11 w11 r11 F11;generalize hT:fbs++[fb]=T at r11 ⊢)
   have HT:=qb hT
   have l11:=Ob.kept l10 F11 (jl r10 l10 Mg)
   have o11:=Ob.kept o10 F11 (jl r10 o10 Mg)
   replace G:=G.own F11 (zh r10)
   clear F11 r10 l10 o10 B10 hT
   refine qo ⟨G,?_⟩
   refine qy (k:=18) rfl Me (fun w12 F12=>?_)
   have r12:=qp r11 F12
   have l12:=Ob.up l11 F12
   have o12:=Ob.up o11 F12
   replace G:=G.trans F12
   have h12:=Ob.up h G
   have hbw:=Ob.lt h
   clear F12 r11 l11 o11 h
   have z:=h12.frozen
   obtain ⟨c0,c1,c2,c3,c4,c5,c6⟩:=zn h12
   have nb1:=jl r12 h12 Mg
   have nb2:=jl r12 l12 Mg
   have nb3:=jl r12 o12 Mg
   have HR:=qb (qd r12 (qd l12 (qd o12 (qd h12 G))))
   have hbf:¬ b=fb/\¬ b=lb:=by have:=HLB.out;have:=HLF.out.2.1;omega
   clear r12 l12 o12 h12 G
   go_wp2_with fail
   go_end0
   have SF:Fr [b] w12 (w12.setCell ⟨b,5,none⟩ (.slice a11 T.length k11)):=Fr.setCell _ Ma
   refine ⟨rfl,⟨_,fb,lb,Ob.set HR.out.2.2.2.1 (i:=5) (.slice a11 T.length k11),by rw [HT.out];exact (Sq.own (f:=fP) HR.out.1).kept SF (fun k hk hi=>by simp at hi;subst hi;exact nb1 hk),Ob.other HR.out.2.2.1 (Ne.symm hbf.1) _,Ob.other HR.out.2.1 (Ne.symm hbf.2) _,HLF.out.2.1,HLB.out,by have:=HLF.out.1;omega,fun k hk=>⟨zh HR.out.1 k Nh,ql (Zp HR.out.1 k Nh) SF.size,fun e=>nb3 Oo,fun e=>nb2 Oo⟩⟩,(HR.out.2.2.2.2.mono Ma).trans SF⟩
end Go.Proofs.YtbddhncgemeohaaGreatDoor.Mx
