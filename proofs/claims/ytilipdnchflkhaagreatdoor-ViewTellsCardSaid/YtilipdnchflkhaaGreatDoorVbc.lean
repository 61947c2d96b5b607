/- Texts that this proof leans on, one behind the other: Build3, Mend1, Rf6e, Both6, Laws6b. -/
import Derived.Test.YtilipdnchflkhaaGreatDoorVad
import Derived.Test.YtilipdnchflkhaaGreatDoorVaf
import Derived.Test.YtilipdnchflkhaaGreatDoorVap
import Derived.Test.YtilipdnchflkhaaGreatDoorVay
import Derived.Test.YtilipdnchflkhaaGreatDoorVba
import Derived.Test.YtilipdnchflkhaaGreatDoorVbb
set_option linter.unusedVariables false
set_option linter.unusedSimpArgs false
set_option maxRecDepth 100000
set_option maxHeartbeats 12800000
namespace Go.Proofs.YtilipdnchflkhaaGreatDoor.Mx
open Go.RowKit Go.Proofs.YtilipdnchflkhaaGreatDoor.Ar Go.Proofs.YtilipdnchflkhaaGreatDoor.Ref
theorem splitF_len (h:Int):∀ (n:Nat) (l:List It) (out:List (List It)) (cur:List It),(splitF h n l out cur).length≤out.length+n+1∧(splitF h n l out cur).flatten.length≤out.flatten.length+cur.length+l.length
 | 0,l,out,cur=>by unfold splitF;simp
 | n+1,l,out,cur=>by
  unfold splitF
  cases l with
  | nil=>simp
  | cons x r =>
   simp only
   have e:(r.takeWhile (fun y=>y.k == x.k)).length+(r.dropWhile (fun y=>y.k == x.k)).length=r.length:=by
    rw [← List.length_append,List.takeWhile_append_dropWhile]
   split
   ·have:=splitF_len h n (r.dropWhile (fun y=>y.k == x.k)) (out++[cur]) (x :: r.takeWhile (fun y=>y.k == x.k))
    simp only [List.length_append,List.length_cons,List.length_nil,List.flatten_append,List.flatten_cons,List.flatten_nil] at this ⊢
    omega
   ·have:=splitF_len h n (r.dropWhile (fun y=>y.k == x.k)) out (cur++(x :: r.takeWhile (fun y=>y.k == x.k)))
    simp only [List.length_append,List.length_cons] at this ⊢
    omega
theorem splitT_len (l:List It) (cells:Int):(splitT l cells).length≤l.length+1∧(splitT l cells).flatten.length≤l.length:=by
 have:=splitF_len (halfOf cells) l.length l [] []
 unfold splitT
 simp at this
 simp;omega
structure BdInv (x:Bd):Prop where
 c:x.c.Ok
 ln:1≤x.line∧x.line≤8
 v:x.versions.length≤100
 i1:x.line=1→x.i=0
 i4:2≤x.line∧x.line≤4→0≤x.i∧x.i<cellsP x.c x.mate∧(x.l.length:Int)≤x.i
 i5:x.line=5→0≤x.i∧x.i≤40
 l1:x.line=1→x.l=[]
 l:x.l.length≤40
 g:x.groups.length≤41∧x.groups.flatten.length≤40
 w:x.w.length≤100000
 w6:x.line=6→0≤x.i∧x.i<(x.w.length:Int)
 i0:-1≤x.i
theorem cellsP_le {c:Cf} (h:c.Ok) (m:Int):3≤cellsP c m∧cellsP c m≤32:=by
 have h1:=h.c2;have h2:=h.c16;have h3:=h.t1
 unfold cellsP
 split <;> omega
theorem BdInv.ok {x:Bd} (h:BdInv x) (hl:x.line≤5):BdOk x:=by
 have h1:=h.i1;have h4:=h.i4;have h5:=h.i5;have hL:=h.l;have hv:=h.v;have h0:=h.i0;have hn:=h.ln
 have hc:=cellsP_le h.c x.mate
 refine ⟨h.c,h0,?_,by omega,hv⟩
 rcases (by omega:x.line=1∨(2≤x.line∧x.line≤4)∨x.line=5) with e | e | e
 ·have:=h1 e;omega
 ·have:=h4 e;omega
 ·have:=h5 e;omega
theorem BdInv.on {x:Bd} (hc:x.c.Ok) (hv:x.versions.length≤100) (hi:-1≤x.i∧x.i<cellsP x.c x.mate) (hl:(x.l.length:Int)≤x.i+1) (hg:x.groups.length≤41∧x.groups.flatten.length≤40) (hw:x.w.length≤100000):BdInv x.on:=by
 have h1:=cellsP_le hc x.mate
 unfold Bd.on
 split
 ·have h2:=splitT_len (keepT x.l x.versions) x.c.c
  have h3:=keepT_len x.l x.versions
  exact ⟨hc,by simp,hv,by simp,by simp,by simp;omega,by simp,by simp;omega,by simp only;omega,hw,by simp,by simp;omega⟩
 ·exact ⟨hc,by simp,hv,by simp,by simp;omega,by simp,by simp,by simp;omega,hg,hw,by simp,by simp;omega⟩
theorem wordsT_pos {ns:List Nk} (h:ns≠[]):0<(wordsT ns).length:=by
 cases ns with
 | nil=>exact absurd rfl h
 | cons n r=>unfold wordsT;rw [List.flatMap_cons,List.length_append];unfold nkWords;simp;omega
theorem BdInv.step {x:Bd} (h:BdInv x) (s:St):(x.step s).1.line=0∨BdInv (x.step s).1:=by
 obtain ⟨hc,hn,hv,h1,h4,h5,hl1,hl,hg,hw,h6,h0⟩:=h
 have hcl:=cellsP_le hc x.mate
 rcases (by omega:x.line=1∨x.line=2∨x.line=3∨x.line=4∨x.line=5∨x.line=6∨x.line=7∨x.line=8) with e | e | e | e | e | e | e | e
 ·right;unfold Bd.step;rw [if_pos e]
  exact BdInv.on (x:={ x with mn:=peek s.l (wrap64 x.chunk),i:=-1 }) hc hv ⟨by simp,by simp only;omega⟩ (by simp only;rw [hl1 e];simp) hg hw
 ·have h4':=h4 (by omega)
  right;unfold Bd.step;rw [if_neg (by omega),if_pos e];simp only
  split
  ·exact BdInv.on (x:={ x with x:=⟨0,verW (peek s.l x.sa),0⟩,line:=3 }) hc hv ⟨by simp only;omega,by simp only;omega⟩ (by simp only;omega) hg hw
  ·exact ⟨hc,by simp,hv,by simp,fun _=>h4',by simp,by simp,hl,hg,hw,by simp,h0⟩
 ·have h4':=h4 (by omega)
  right;unfold Bd.step;rw [if_neg (by omega),if_neg (by omega),if_pos e]
  exact ⟨hc,by simp,hv,by simp,fun _=>h4',by simp,by simp,hl,hg,hw,by simp,h0⟩
 ·have h4':=h4 (by omega)
  right;unfold Bd.step;rw [if_neg (by omega),if_neg (by omega),if_neg (by omega),if_pos e];simp only
  exact BdInv.on (x:={ x with x:=⟨x.x.k,x.x.v,peek s.l (wrap64 (x.sa+2))⟩,l:=x.l++[⟨x.x.k,x.x.v,peek s.l (wrap64 (x.sa+2))⟩] }) hc hv ⟨by simp only;omega,by simp only;omega⟩ (by simp;omega) hg hw
 ·have h5':=h5 e
  unfold Bd.step;rw [if_neg (by omega),if_neg (by omega),if_neg (by omega),if_neg (by omega),if_pos e];simp only
  unfold Bd.five;simp only
  split
  ·left;rfl
  ·rename_i hne
   right
   obtain ⟨cap,hcap⟩:∃ cap:Nat,x.c.c=(cap:Int):=⟨x.c.c.toNat,by have:=hc.c2;have:=hc.t1;omega⟩
   have e1:=wordsT_len (cap:=cap) _ (chunksT_its hcap (wrap64 (peek s.l 2)) x.after x.mn x.groups)
   have e2:=chunksT_len x.c (wrap64 (peek s.l 2)) x.after x.mn x.groups
   have e3:(3+3 * cap) * (chunksT x.c (wrap64 (peek s.l 2)) x.after x.mn x.groups).length≤51 * 41:=Nat.mul_le_mul (by have:=hc.c16;omega) (by omega)
   have e4:=wordsT_pos (ns:=chunksT x.c (wrap64 (peek s.l 2)) x.after x.mn x.groups) (fun e=>hne (.inr (.inr e)))
   exact ⟨hc,by simp,hv,by simp,by simp,by simp,by simp,hl,hg,by simp only;omega,fun _=>by simp only;omega,by simp⟩
 ·have h6':=h6 e
  right;unfold Bd.step;rw [if_neg (by omega),if_neg (by omega),if_neg (by omega),if_neg (by omega),if_neg (by omega),if_pos e]
  by_cases hh:(x.w.length:Int)≤x.i+1
  ·rw [if_pos hh];exact ⟨hc,by simp,hv,by simp,by simp,by simp,by simp,hl,hg,hw,by simp,by simp only;omega⟩
  ·rw [if_neg hh];exact ⟨hc,by simp,hv,by simp,by simp,by simp,by simp,hl,hg,hw,by simp only;omega,by simp only;omega⟩
 ·right;unfold Bd.step;rw [if_neg (by omega),if_neg (by omega),if_neg (by omega),if_neg (by omega),if_neg (by omega),if_neg (by omega),if_pos e]
  exact ⟨hc,by simp,hv,by simp,by simp,by simp,by simp,hl,hg,hw,by simp,h0⟩
 ·left;unfold Bd.step;rw [if_neg (by omega),if_neg (by omega),if_neg (by omega),if_neg (by omega),if_neg (by omega),if_neg (by omega),if_neg (by omega),if_pos e]
theorem BdInv.new {c:Cf} (hc:c.Ok) (chunk mate after:Int) {vs:List Int} (hv:vs.length≤100):BdInv (Bd.new c chunk mate after vs) :=
 ⟨hc,by simp [Bd.new],hv,fun _=>rfl,by simp [Bd.new],by simp [Bd.new],fun _=>rfl,by simp [Bd.new],by simp [Bd.new],by simp [Bd.new],by simp [Bd.new],by simp [Bd.new]⟩
def rowsB (vv gv wv:Value) (ss:List Sv):List Nat:=vv.ownBlock.toList++(gv.ownBlock.toList++(ss.flatMap (fun s=>s.v.ownBlock.toList)++wv.ownBlock.toList))
theorem mem_rowsB {vv gv wv:Value} {ss:List Sv} {k:Nat}:k∈rowsB vv gv wv ss↔k∈vv.ownBlock.toList∨k∈gv.ownBlock.toList∨(∃ s,s∈ss∧k∈s.v.ownBlock.toList)∨k∈wv.ownBlock.toList:=by
 unfold rowsB;rw [List.mem_append,List.mem_append,List.mem_append,List.mem_flatMap]
structure BdPt (w:World) (b:Nat) (x:Bd) (vv lv gv wv:Value) (ss:List Sv):Prop where
 o:BdOb w b x vv lv gv wv
 v:Sq fI w vv x.versions
 l:w.ownsRow 0 60 3 lv x.l.length (x.l.flatMap fT)
 g:Sq fS w gv ss
 gs:Gs w ss x.groups
 sw:Sq fQ w wv x.w
 nl:b∉lv.ownBlock.toList
 nr:b∉rowsB vv gv wv ss
 lr:∀ k,k∈lv.ownBlock.toList→k∉rowsB vv gv wv ss
 lt:∀ k,k∈rowsB vv gv wv ss→k<w.heap.size
def BdIn (w:World) (B:List Nat) (b:Nat) (x:Bd):Prop:=∃ vv lv gv wv ss,BdPt w b x vv lv gv wv ss∧B=b :: (lv.ownBlock.toList++rowsB vv gv wv ss)
theorem BdIn.lt {w:World} {B:List Nat} {b:Nat} {x:Bd} (h:BdIn w B b x):∀ k,k∈B→k<w.heap.size:=by
 obtain ⟨vv,lv,gv,wv,ss,h,rfl⟩:=h
 intro k hk
 rcases List.mem_cons.1 hk with rfl | hk
 ·exact Ob.lt h.o
 ·rcases List.mem_append.1 hk with hk | hk
  ·exact row_lt h.l k hk
  ·exact h.lt k hk
theorem BdIn.kept {S:List Nat} {w w':World} {B:List Nat} {b:Nat} {x:Bd} (h:BdIn w B b x) (f:Fr S w w') (hS:∀ k,k∈B→k∉S):BdIn w' B b x:=by
 obtain ⟨vv,lv,gv,wv,ss,h,rfl⟩:=h
 have hr:∀ k,k∈rowsB vv gv wv ss→k∉S:=fun k hk=>hS k (by simp only [List.mem_cons,List.mem_append];exact .inr (.inr hk))
 have hl:∀ k,k∈lv.ownBlock.toList→k∉S:=fun k hk=>hS k (by simp only [List.mem_cons,List.mem_append];exact .inr (.inl hk))
 exact ⟨vv,lv,gv,wv,ss,⟨Ob.kept h.o f (hS b (by simp)),h.v.kept f (fun k hk=>hr k (mem_rowsB.2 (.inl hk))),row_fr h.l f (fun g hg=>hl g (by rw [hg];simp)),h.g.kept f (fun k hk=>hr k (mem_rowsB.2 (.inr (.inl hk)))),h.gs.kept f (fun s hs k hk=>hr k (mem_rowsB.2 (.inr (.inr (.inl ⟨s,hs,hk⟩))))),h.sw.kept f (fun k hk=>hr k (mem_rowsB.2 (.inr (.inr (.inr hk))))),h.nl,h.nr,h.lr,fun k hk=>Nat.lt_of_lt_of_le (h.lt k hk) f.size⟩,rfl⟩
theorem bd_join {w w':World} {b p q:Nat} {x x':Bd} {vv lv gv wv lv' gv' wv':Value} {ss:List Sv} (h:BdPt w b x vv lv gv wv ss) (hp:p∉b :: (lv.ownBlock.toList++rowsB vv gv wv ss)) (hq:q∉b :: (lv.ownBlock.toList++rowsB vv gv wv ss)) (F:Fr ([b,p,q]++lv.ownBlock.toList) w w')
  (ho:BdOb w' b x' vv lv' gv' wv') (hv:x'.versions=x.versions) (hl:w'.ownsRow 0 60 3 lv' x'.l.length (x'.l.flatMap fT)) (hl2:∀ k,k∈lv'.ownBlock.toList→k∈lv.ownBlock.toList∨w.heap.size≤k)
  (hg:(x'.groups=x.groups∧gv'=gv)∨∃ ss',Sq fS w' gv' ss'∧Gs w' ss' x'.groups∧(∀ k,k∈gv'.ownBlock.toList→w.heap.size≤k∧k<w'.heap.size)∧(∀ s,s∈ss'→∀ k,k∈s.v.ownBlock.toList→w.heap.size≤k∧k<w'.heap.size)∧(∀ k,k∈lv'.ownBlock.toList→k∉gv'.ownBlock.toList∧∀ s,s∈ss'→k∉s.v.ownBlock.toList))
  (hw:(x'.w=x.w∧wv'=wv)∨(Sq fQ w' wv' x'.w∧(∀ k,k∈wv'.ownBlock.toList→w.heap.size≤k∧k<w'.heap.size)∧∀ k,k∈lv'.ownBlock.toList→k∉wv'.ownBlock.toList)) :
  ∃ B',BdIn w' B' b x'∧∀ k,k∈B'→k∈b :: (lv.ownBlock.toList++rowsB vv gv wv ss)∨w.heap.size≤k:=by
 have hb:=Ob.lt h.o
 have hS:∀ k,k∈rowsB vv gv wv ss→k∉[b,p,q]++lv.ownBlock.toList:=by
  intro k hk hi
  simp only [List.mem_append,List.mem_cons,List.not_mem_nil,or_false] at hi
  rcases hi with (rfl | rfl | rfl) | hi
  ·exact h.nr hk
  ·exact hp (by simp only [List.mem_cons,List.mem_append];exact .inr (.inr hk))
  ·exact hq (by simp only [List.mem_cons,List.mem_append];exact .inr (.inr hk))
  ·exact h.lr k hi hk
 have hv1:=h.v.kept F (fun k hk=>hS k (mem_rowsB.2 (.inl hk)))
 rw [← hv] at hv1
 have nl:b∉lv'.ownBlock.toList:=fun hi=>by rcases hl2 b hi with e | e;exact h.nl e;omega
 have old:∀ k,k∈rowsB vv gv wv ss→k<w'.heap.size:=fun k hk=>Nat.lt_of_lt_of_le (h.lt k hk) F.size
 have lold:∀ k,k∈lv'.ownBlock.toList→k∉rowsB vv gv wv ss:=fun k hk hi=>by rcases hl2 k hk with e | e;exact h.lr k e hi;have:=h.lt k hi;omega
 have G:∃ ss',Sq fS w' gv' ss'∧Gs w' ss' x'.groups∧(∀ k,(k∈gv'.ownBlock.toList∨∃ s,s∈ss'∧k∈s.v.ownBlock.toList)→(k∈rowsB vv gv wv ss∨(w.heap.size≤k∧k<w'.heap.size∧k∉lv'.ownBlock.toList))):=by
  rcases hg with ⟨e1,rfl⟩ | ⟨ss',a1,a2,a3,a4,a5⟩
  ·refine ⟨ss,h.g.kept F (fun k hk=>hS k (mem_rowsB.2 (.inr (.inl hk)))),by rw [e1];exact h.gs.kept F (fun s hs k hk=>hS k (mem_rowsB.2 (.inr (.inr (.inl ⟨s,hs,hk⟩))))),fun k hk=>.inl ?_⟩
   rcases hk with hk | ⟨s,hs,hk⟩
   ·exact mem_rowsB.2 (.inr (.inl hk))
   ·exact mem_rowsB.2 (.inr (.inr (.inl ⟨s,hs,hk⟩)))
  ·refine ⟨ss',a1,a2,fun k hk=>.inr ?_⟩
   rcases hk with hk | ⟨s,hs,hk⟩
   ·exact ⟨(a3 k hk).1,(a3 k hk).2,fun hi=>(a5 k hi).1 hk⟩
   ·exact ⟨(a4 s hs k hk).1,(a4 s hs k hk).2,fun hi=>(a5 k hi).2 s hs hk⟩
 have W:Sq fQ w' wv' x'.w∧∀ k,k∈wv'.ownBlock.toList→(k∈rowsB vv gv wv ss∨(w.heap.size≤k∧k<w'.heap.size∧k∉lv'.ownBlock.toList)):=by
  rcases hw with ⟨e1,rfl⟩ | ⟨a1,a2,a3⟩
  ·exact ⟨by rw [e1];exact h.sw.kept F (fun k hk=>hS k (mem_rowsB.2 (.inr (.inr (.inr hk))))),fun k hk=>.inl (mem_rowsB.2 (.inr (.inr (.inr hk))))⟩
  ·exact ⟨a1,fun k hk=>.inr ⟨(a2 k hk).1,(a2 k hk).2,fun hi=>a3 k hi hk⟩⟩
 obtain ⟨ss',g1,g2,g3⟩:=G
 obtain ⟨w1,w2⟩:=W
 have all:∀ k,k∈rowsB vv gv' wv' ss'→(k∈rowsB vv gv wv ss∨(w.heap.size≤k∧k<w'.heap.size∧k∉lv'.ownBlock.toList)):=by
  intro k hk
  rcases mem_rowsB.1 hk with hk | hk | hk | hk
  ·exact .inl (mem_rowsB.2 (.inl hk))
  ·exact g3 k (.inl hk)
  ·exact g3 k (.inr hk)
  ·exact w2 k hk
 refine ⟨_,⟨vv,lv',gv',wv',ss',⟨ho,hv1,hl,g1,g2,w1,nl,fun hi=>?_,fun k hk hi=>?_,fun k hk=>?_⟩,rfl⟩,fun k hk=>?_⟩
 ·rcases all b hi with e | e
  ·exact h.nr e
  ·omega
 ·rcases all k hi with e | e
  ·exact lold k hk e
  ·exact e.2.2 hk
 ·rcases all k hk with e | e
  ·exact old k e
  ·exact e.2.1
 ·rcases List.mem_cons.1 hk with rfl | hk
  ·exact .inl (by simp)
  ·rcases List.mem_append.1 hk with hk | hk
   ·exact (hl2 k hk).imp (fun e=>by simp only [List.mem_cons,List.mem_append];exact .inr (.inl e)) id
   ·exact (all k hk).imp (fun e=>by simp only [List.mem_cons,List.mem_append];exact .inr (.inr e)) (fun e=>e.1)
theorem build_step (x:Bd) (hx:BdInv x) (B:List Nat) (b p q:Nat) (s:St) (w:World) (h:BdIn w B b x) (hA:Rar w p q s) (hp:p∉B) (hq:q∉B) :
  Calls Tryz.prog 194 #[.pointer (some ⟨b,0,none⟩),.pointer (some ⟨p,0,none⟩)] w (Stp w (fun w' B'=>BdIn w' B' b (x.step s).1) B p q (x.step s).2 (decide ((x.step s).1.line=0))):=by
 obtain ⟨vv,lv,gv,wv,ss,h,rfl⟩:=h
 have hn:=hx.ln
 have hbp:b≠p:=fun e=>hp (by simp [e])
 have hbq:b≠q:=fun e=>hq (by simp [e])
 have rp:p∉rowsB vv gv wv ss:=fun hi=>hp (by simp only [List.mem_cons,List.mem_append];exact .inr (.inr hi))
 have rq:q∉rowsB vv gv wv ss:=fun hi=>hq (by simp only [List.mem_cons,List.mem_append];exact .inr (.inr hi))
 have lp:p∉lv.ownBlock.toList:=fun hi=>hp (by simp only [List.mem_cons,List.mem_append];exact .inr (.inl hi))
 have lq:q∉lv.ownBlock.toList:=fun hi=>hq (by simp only [List.mem_cons,List.mem_append];exact .inr (.inl hi))
 have nV:b∉vv.ownBlock.toList∧p∉vv.ownBlock.toList∧q∉vv.ownBlock.toList:=⟨fun hi=>h.nr (mem_rowsB.2 (.inl hi)),fun hi=>rp (mem_rowsB.2 (.inl hi)),fun hi=>rq (mem_rowsB.2 (.inl hi))⟩
 have nG:b∉gv.ownBlock.toList∧p∉gv.ownBlock.toList∧q∉gv.ownBlock.toList:=⟨fun hi=>h.nr (mem_rowsB.2 (.inr (.inl hi))),fun hi=>rp (mem_rowsB.2 (.inr (.inl hi))),fun hi=>rq (mem_rowsB.2 (.inr (.inl hi)))⟩
 have nS:∀ s,s∈ss→b∉s.v.ownBlock.toList∧p∉s.v.ownBlock.toList∧q∉s.v.ownBlock.toList:=fun s hs=>⟨fun hi=>h.nr (mem_rowsB.2 (.inr (.inr (.inl ⟨s,hs,hi⟩)))),fun hi=>rp (mem_rowsB.2 (.inr (.inr (.inl ⟨s,hs,hi⟩)))),fun hi=>rq (mem_rowsB.2 (.inr (.inr (.inl ⟨s,hs,hi⟩))))⟩
 have nW:b∉wv.ownBlock.toList∧p∉wv.ownBlock.toList∧q∉wv.ownBlock.toList:=⟨fun hi=>h.nr (mem_rowsB.2 (.inr (.inr (.inr hi)))),fun hi=>rp (mem_rowsB.2 (.inr (.inr (.inr hi)))),fun hi=>rq (mem_rowsB.2 (.inr (.inr (.inr hi))))⟩
 have nL:b∉lv.ownBlock.toList∧p∉lv.ownBlock.toList∧q∉lv.ownBlock.toList:=⟨h.nl,lp,lq⟩
 have nVL:∀ k,k∈vv.ownBlock.toList→k∉lv.ownBlock.toList:=fun k hk hi=>h.lr k hi (mem_rowsB.2 (.inl hk))
 have hL:=Sq.own (f:=fT) h.l
 have sub3:∀ k,k∈[b,p,q]++lv.ownBlock.toList→k∈p :: q :: b :: (lv.ownBlock.toList++rowsB vv gv wv ss):=by
  intro k hk
  simp only [List.mem_append,List.mem_cons,List.not_mem_nil,or_false] at hk ⊢
  rcases hk with (hk | hk | hk) | hk <;> simp [hk]
 have sub1:∀ k,k∈[b,p,q]→k∈[b,p,q]++lv.ownBlock.toList:=fun k hk=>List.mem_append_left _ hk
 have same:∀ (e:Ending) (w':World),(x.step s).1.versions=x.versions→(x.step s).1.l=x.l→(x.step s).1.groups=x.groups→(x.step s).1.w=x.w →
   (e = .returned (.bool (decide ((x.step s).1.line=0)))∧BdOb w' b (x.step s).1 vv lv gv wv∧Rar w' p q (x.step s).2∧Fr [b,p,q] w w')→Stp w (fun w' B'=>BdIn w' B' b (x.step s).1) (b :: (lv.ownBlock.toList++rowsB vv gv wv ss)) p q (x.step s).2 (decide ((x.step s).1.line=0)) e w':=by
  rintro e w' e1 e2 e3 e4 ⟨he,ho,hA',F⟩
  have hl':w'.ownsRow 0 60 3 lv (x.step s).1.l.length ((x.step s).1.l.flatMap fT):=by rw [e2];exact row_fr h.l F (fun g hg hi=>by have hk2:g∈lv.ownBlock.toList:=(by rw [hg];simp);simp at hi;rcases hi with rfl | rfl | rfl;exact h.nl hk2;exact lp hk2;exact lq hk2)
  obtain ⟨B',h1,h2⟩:=bd_join h hp hq (F.mono sub1) ho e1 hl' (fun k hk=>.inl hk) (.inl ⟨e3,rfl⟩) (.inl ⟨e4,rfl⟩)
  exact ⟨he,⟨B',h1,h2⟩,hA',(F.mono sub1).mono sub3⟩
 have on:∀ (e:Ending) (w':World),(x.step s).1.versions=x.versions→(x.step s).1.l=x.l→(x.step s).1.w=x.w →
   (e = .returned (.bool (decide ((x.step s).1.line=0)))∧(∃ gv',BdOb w' b (x.step s).1 vv lv gv' wv∧(((x.step s).1.groups=x.groups∧gv'=gv)∨∃ ss,Sq fS w' gv' ss∧Gs w' ss (x.step s).1.groups∧(∀ k,k∈gv'.ownBlock.toList→w.heap.size≤k∧k<w'.heap.size)∧(∀ s,s∈ss→∀ k,k∈s.v.ownBlock.toList→w.heap.size≤k∧k<w'.heap.size)))∧Rar w' p q (x.step s).2∧Fr [b,p,q] w w') →
   Stp w (fun w' B'=>BdIn w' B' b (x.step s).1) (b :: (lv.ownBlock.toList++rowsB vv gv wv ss)) p q (x.step s).2 (decide ((x.step s).1.line=0)) e w':=by
  rintro e w' e1 e2 e4 ⟨he,⟨gv',ho,hg⟩,hA',F⟩
  have hl':w'.ownsRow 0 60 3 lv (x.step s).1.l.length ((x.step s).1.l.flatMap fT):=by rw [e2];exact row_fr h.l F (fun g hg hi=>by have hk2:g∈lv.ownBlock.toList:=(by rw [hg];simp);simp at hi;rcases hi with rfl | rfl | rfl;exact h.nl hk2;exact lp hk2;exact lq hk2)
  obtain ⟨B',h1,h2⟩:=bd_join h hp hq (F.mono sub1) ho e1 hl' (fun k hk=>.inl hk) (hg.imp id (fun ⟨ss',a1,a2,a3,a4⟩=>⟨ss',a1,a2,a3,a4,fun k hk=>⟨fun hi=>by have h9:=row_lt h.l k hk;have h8:=(a3 k hi).1;omega,fun s hs hi=>by have h9:=row_lt h.l k hk;have h8:=(a4 s hs k hi).1;omega⟩⟩)) (.inl ⟨e4,rfl⟩)
  exact ⟨he,⟨B',h1,h2⟩,hA',(F.mono sub1).mono sub3⟩
 have onS:∀ y:Bd,y.on.versions=y.versions∧y.on.l=y.l∧y.on.w=y.w:=fun y=>by unfold Bd.on;split <;> exact ⟨rfl,rfl,rfl⟩
 rcases (by omega:x.line=1∨x.line=2∨x.line=3∨x.line=4∨x.line=5∨x.line=6∨x.line=7∨x.line=8) with e | e | e | e | e | e | e | e
 ·have hs:(x.step s).1=Bd.on { x with mn:=peek s.l (wrap64 x.chunk),i:=-1 }:=by unfold Bd.step;rw [if_pos e]
  refine (build_1 x e (hx.ok (by omega)) b p q s w vv lv gv wv h.o hA hbp hbq h.v hL nV nL).mono (fun e' w' hh=>on e' w' ?_ ?_ ?_ hh)
  ·rw [hs,(onS _).1]
  ·rw [hs,(onS _).2.1]
  ·rw [hs,(onS _).2.2]
 ·refine (build_2 x e (hx.ok (by omega)) b p q s w vv lv gv wv h.o hA hbp hbq h.v hL nV nL).mono (fun e' w' hh=>on e' w' ?_ ?_ ?_ hh) <;> (unfold Bd.step;rw [if_neg (by omega),if_pos e];simp only;split) <;> first | rfl | (rw [(onS _).1]) | (rw [(onS _).2.1]) | (rw [(onS _).2.2])
 ·refine (build_3 x e hx.c b p q s w vv lv gv wv h.o hA hbp hbq).mono (fun e' w' hh=>same e' w' ?_ ?_ ?_ ?_ hh) <;> (unfold Bd.step;rw [if_neg (by omega),if_neg (by omega),if_pos e])
 ·refine (build_4 x e (hx.ok (by omega)) b p q s w vv lv gv wv h.o hA hbp hbq h.v h.l nV nL nVL).mono ?_
  rintro e' w' ⟨he,⟨lv',gv',ho,hl',hl2,hg⟩,hA',F⟩
  have hs:(x.step s).1=Bd.on { x with x:=⟨x.x.k,x.x.v,peek s.l (wrap64 (x.sa+2))⟩,l:=x.l++[⟨x.x.k,x.x.v,peek s.l (wrap64 (x.sa+2))⟩] }:=by unfold Bd.step;rw [if_neg (by omega),if_neg (by omega),if_neg (by omega),if_pos e]
  obtain ⟨B',h1,h2⟩:=bd_join h hp hq F ho (by rw [hs,(onS _).1]) hl' hl2 hg (.inl ⟨by rw [hs,(onS _).2.2],rfl⟩)
  exact ⟨he,⟨B',h1,h2⟩,hA',F.mono sub3⟩
 ·have hg9:=hx.g
  refine (build_5 x e (hx.ok (by omega)) (by omega) (by omega) b p q s w vv lv gv wv h.o hA hbp hbq ss h.g h.gs nG nS).mono ?_
  rintro e' w' ⟨he,⟨wv',ho,hw⟩,hA',F⟩
  have hs:(x.step s).1.versions=x.versions∧(x.step s).1.l=x.l∧(x.step s).1.groups=x.groups:=by
   unfold Bd.step;rw [if_neg (by omega),if_neg (by omega),if_neg (by omega),if_neg (by omega),if_pos e];simp only
   unfold Bd.five;simp only
   split <;> exact ⟨rfl,rfl,rfl⟩
  have hl':w'.ownsRow 0 60 3 lv (x.step s).1.l.length ((x.step s).1.l.flatMap fT):=by rw [hs.2.1];exact row_fr h.l F (fun g hg hi=>by have hk2:g∈lv.ownBlock.toList:=(by rw [hg];simp);simp at hi;rcases hi with rfl | rfl | rfl;exact h.nl hk2;exact lp hk2;exact lq hk2)
  obtain ⟨B',h1,h2⟩:=bd_join h hp hq (F.mono sub1) ho hs.1 hl' (fun k hk=>.inl hk) (.inl ⟨hs.2.2,rfl⟩) (hw.imp id (fun ⟨a1,a2⟩=>⟨a1,a2,fun k hk hi=>by have h9:=row_lt h.l k hk;have h8:=(a2 k hi).1;omega⟩))
  exact ⟨he,⟨B',h1,h2⟩,hA',(F.mono sub1).mono sub3⟩
 ·refine (build_6 x e hx.c (hx.w6 e) hx.w b p q s w vv lv gv wv h.o hA hbp hbq h.sw nW).mono (fun e' w' hh=>same e' w' ?_ ?_ ?_ ?_ hh) <;> (unfold Bd.step;rw [if_neg (by omega),if_neg (by omega),if_neg (by omega),if_neg (by omega),if_neg (by omega),if_pos e])
 ·refine (build_7 x e hx.c b p q s w vv lv gv wv h.o hA hbp hbq).mono (fun e' w' hh=>same e' w' ?_ ?_ ?_ ?_ hh) <;> (unfold Bd.step;rw [if_neg (by omega),if_neg (by omega),if_neg (by omega),if_neg (by omega),if_neg (by omega),if_neg (by omega),if_pos e])
 ·refine (build_8 x e hx.c b p q s w vv lv gv wv h.o hA hbp hbq).mono (fun e' w' hh=>same e' w' ?_ ?_ ?_ ?_ hh) <;> (unfold Bd.step;rw [if_neg (by omega),if_neg (by omega),if_neg (by omega),if_neg (by omega),if_neg (by omega),if_neg (by omega),if_neg (by omega),if_pos e])
theorem chunks_any (x:Ld) (b:Nat) (w:World) (h:LdAt w b x):Calls Tryz.prog 189 #[.pointer (some ⟨b,0,none⟩)] w fun e w'=>e = .returned (.tuple #[.int .i64 x.three.1,.int .i64 x.three.2.1,.int .i64 x.three.2.2])∧Fr [] w w':=by
 obtain ⟨c0,c1,c2,c3,c4,c5,c6,c7,c8,c9,c10,c11,c12,c13⟩:=ld_cells h
 by_cases hl:x.line=0
 ·rw [hl] at c7
  cases ha:x.alone
  ·have e3:x.three=(x.l,x.n,x.after):=by unfold Ld.three;simp [hl,ha]
   rw [e3]
   rw [ha] at c12
   go_enter Tryz.func189,Tryz.ntmps189
   go_wp2_with fail
   have k8:=In.cell c8
   have k9:=In.cell c9
   have k13:=In.cell c13
   clear c0 c1 c2 c3 c4 c5 c6 c7 c8 c9 c10 c11 c12 c13 e3
   refine wi ?_
   repeat (go_big_quiet_step (fail))
   refine wpQuiet_nil ?_
   intro w2 F2
   go_wp2_with fail
   go_ret3
   exact ⟨rfl,F2⟩
  have e3:x.three=(x.l,0,x.after):=by unfold Ld.three;simp [hl,ha]
  rw [e3]
  rw [ha] at c12
  go_enter Tryz.func189,Tryz.ntmps189
  go_wp2_with fail
  have k8:=In.cell c8
  have k13:=In.cell c13
  clear c0 c1 c2 c3 c4 c5 c6 c7 c8 c9 c10 c11 c12 c13 e3
  refine wi ?_
  repeat (go_big_quiet_step (fail))
  refine wpQuiet_nil ?_
  intro w2 F2
  go_wp2_with fail
  go_ret3
  exact ⟨rfl,F2⟩
 ·have e3:x.three=(0,0,0):=by unfold Ld.three;simp [hl]
  rw [e3]
  have g:(x.line != 0)=true:=by simpa using hl
  go_enter Tryz.func189,Tryz.ntmps189
  go_wp2_with fail
  go_ret3
  exact ⟨rfl,Fr.refl _ _⟩
def FmC (f:Fm) (lb:Nat) (sp np bp pp:Option Nat):Array Value:=#[.int .i64 f.chunk,.int .i64 f.part,.pointer (some ⟨lb,0,none⟩),ptrV sp,ptrV np,.bool false,ptrV bp,ptrV pp,.int .i64 f.repl]
def FmOb (w:World) (b:Nat) (f:Fm) (lb:Nat) (sp np bp pp:Option Nat):Prop:=Ob w b 264 (FmC f lb sp np bp pp)
theorem fm_cells {w:World} {b lb:Nat} {f:Fm} {sp np bp pp:Option Nat} (h:FmOb w b f lb sp np bp pp):w.cell? ⟨b,0,none⟩=some (.int .i64 f.chunk)∧w.cell? ⟨b,1,none⟩=some (.int .i64 f.part)∧w.cell? ⟨b,2,none⟩=some (.pointer (some ⟨lb,0,none⟩))∧w.cell? ⟨b,3,none⟩=some (ptrV sp)∧w.cell? ⟨b,4,none⟩=some (ptrV np)∧w.cell? ⟨b,5,none⟩=some (.bool false)∧w.cell? ⟨b,6,none⟩=some (ptrV bp)∧w.cell? ⟨b,7,none⟩=some (ptrV pp)∧w.cell? ⟨b,8,none⟩=some (.int .i64 f.repl) :=
 ⟨h.cell rfl,h.cell rfl,h.cell rfl,h.cell rfl,h.cell rfl,h.cell rfl,h.cell rfl,h.cell rfl,h.cell rfl⟩
theorem frame_splice (f:Fm) (c:Cf) (hc:c.Ok) (repl:Int) (b lb:Nat) (sp np bp pp:Option Nat) (w:World) (h:FmOb w b f lb sp np bp pp) (hl:LdAt w lb f.l) :
  Calls Tryz.prog 192 #[.pointer (some ⟨b,0,none⟩),c.val,.int .i64 repl] w fun e w'=>e = .returned (.tuple #[])∧(∃ pb,w.heap.size≤pb∧FmOb w' b (f.splice c repl) lb sp np bp (some pb)∧SpAt w' pb (Sp.new c f.l.three.1 f.l.three.2.1 repl))∧Fr [b] w w':=by
 unfold Cf.val
 have F0:=(Fr.refl [] w).alloc (.cells #[.int .i64 c.t,.int .i64 c.c,.int .i64 c.wd,.int .i64 c.v] 23)
 have o0:=Ob.new w 23 #[.int .i64 c.t,.int .i64 c.c,.int .i64 c.wd,.int .i64 c.v]
 have h0:=Ob.up h F0
 have l0:=Ob.up hl F0
 obtain ⟨c0,c1,c2,c3,c4,c5,c6,c7,c8⟩:=fm_cells h0
 have z:=h0.frozen
 have hbn:=Ob.lt h
 have hbe:¬ b=w.heap.size:=by omega
 clear h hl
 go_enter Tryz.func192,Tryz.ntmps192
 go_wp2_with fail
 generalize (w.alloc (.cells #[.int .i64 c.t,.int .i64 c.c,.int .i64 c.wd,.int .i64 c.v] 23))=w0 at *
 generalize hq:w.heap.size=q at *
 have HQ:=Lib.hid hq
 clear c0 c1 c2 c3 c4 c5 c6 c7 c8 z hq
 refine (chunks_any f.l lb w0 l0).mono ?_;rintro e w1 ⟨rfl,F1⟩
 have h1:=Ob.up h0 F1
 have o1:=Ob.up o0 F1
 have D1:=F0.trans F1
 obtain ⟨c0,c1,c2,c3,c4,c5,c6,c7,c8⟩:=fm_cells h1
 have z:=h1.frozen
 obtain ⟨d0,d1,d2,d3⟩:=Pl.cells4 o1
 clear h0 o0 l0 F0 F1
 go_wp2_with fail
 clear c0 c1 c2 c3 c4 c5 c6 c7 c8 z d0 d1 d2 d3
 refine (newSplice_any c f.l.three.1 f.l.three.2.1 repl _).mono ?_;rintro e w2 ⟨pb,rfl,hpb,p2,F2⟩
 have h2:=Ob.up h1 F2
 have D2:=D1.trans F2
 have HPB:=Lib.hid (Nat.le_trans D1.size hpb)
 obtain ⟨c0,c1,c2,c3,c4,c5,c6,c7,c8⟩:=fm_cells h2
 have z:=h2.frozen
 have hne:¬ b=pb:=by have:=Ob.lt h1;omega
 clear h1 o1 D1 F2 hpb
 go_wp2_with fail
 go_end0
 refine ⟨rfl,⟨pb,?_,Ob.set (Ob.set (Ob.set h2 (i:=8) _) (i:=1) _) (i:=7) _,Ob.other (Ob.other (Ob.other p2 (Ne.symm hne) _) (Ne.symm hne) _) (Ne.symm hne) _⟩,(((D2.mono).trans (Fr.setCell _ (by simp))).setCell' _ (by simp)).setCell' _ (by simp)⟩
 exact HPB.out
theorem versions_any (x:Nd) (hl:x.line=0) (b:Nat) (w:World) (h:NdAt w b x):Calls Tryz.prog 215 #[.pointer (some ⟨b,0,none⟩)] w fun e w'=>e = .returned x.lv∧w'=w:=by
 obtain ⟨c0,c1,c2,c3,c4,c5,c6,c7,c8⟩:=nd2_cells h
 rw [hl] at c5
 go_enter Tryz.func215,Tryz.ntmps215
 go_wp2
 go_ret
 exact ⟨rfl,rfl⟩
theorem newBuild_any (c:Cf) (chunk mate after:Int) (vs:List Int) (vv:Value) (w:World) (hV:Sq fI w vv vs) (hlt:∀ k,k∈vv.ownBlock.toList→k<w.heap.size) :
  Calls Tryz.prog 214 #[c.val,.int .i64 chunk,.int .i64 mate,.int .i64 after,vv] w fun e w'=>∃ b B,e = .returned (.pointer (some ⟨b,0,none⟩))∧w.heap.size≤b∧BdIn w' B b (Bd.new c chunk mate after vs)∧(∀ k,k∈B→k∈vv.ownBlock.toList∨w.heap.size≤k)∧Fr [] w w':=by
 obtain ⟨av,cv,rfl,hcv,hmv,-⟩:=id hV
 unfold Cf.val
 have F0:=(Fr.refl [] w).alloc (.cells #[.int .i64 c.t,.int .i64 c.c,.int .i64 c.wd,.int .i64 c.v] 23)
 obtain ⟨c0,c1,c2,c3⟩:=Pl.cells4 (Go.heap_alloc_new w (.cells #[.int .i64 c.t,.int .i64 c.c,.int .i64 c.wd,.int .i64 c.v] 23))
 go_enter Tryz.func214,Tryz.ntmps214
 go_wp2
 go_ret
 have ho:BdOb _ (w.heap.size+1) (Bd.new c chunk mate after vs) (.slice av vs.length cv) (.slice none 0 0) (.slice none 0 0) (.slice none 0 0):=Ob.newAt (sizeA w (.cells #[.int .i64 c.t,.int .i64 c.c,.int .i64 c.wd,.int .i64 c.v] 23)) _ _
 have F1:=F0.alloc (.cells ((Bd.new c chunk mate after vs).cells (.slice av vs.length cv) (.slice none 0 0) (.slice none 0 0) (.slice none 0 0)) 275)
 have hr:∀ k,k∈rowsB (.slice av vs.length cv) (.slice none 0 0) (.slice none 0 0) []→k∈(Value.slice av vs.length cv).ownBlock.toList:=by
  intro k hk
  rcases mem_rowsB.1 hk with hk | hk | ⟨s,hs,hk⟩ | hk
  ·exact hk
  ·simp [Value.ownBlock] at hk
  ·simp at hs
  ·simp [Value.ownBlock] at hk
 refine ⟨_,_,rfl,by omega,⟨_,_,_,_,[],⟨ho,hV.up F1,⟨rfl,.inl ⟨rfl,rfl⟩⟩,Sq.nil _,⟨rfl,fun i s g e=>by simp at e⟩,Sq.nil _,by simp [Value.ownBlock],fun hi=>?_,fun k hk=>by simp [Value.ownBlock] at hk,fun k hk=>?_⟩,rfl⟩,fun k hk=>?_,F1⟩
 ·have:=hlt _ (hr _ hi);omega
 ·exact Nat.lt_of_lt_of_le (hlt _ (hr _ hk)) F1.size
 ·rcases List.mem_cons.1 hk with rfl | hk
  ·exact .inr (by omega)
  rcases List.mem_append.1 hk with hk | hk
  ·simp [Value.ownBlock] at hk
  exact .inl (hr k hk)
def fP (b:Nat):List Value:=[.pointer (some ⟨b,0,none⟩)]
theorem fP_lays:Lays fP 1:=⟨fun _=>rfl,fun x u hu=>by rw [List.mem_singleton.1 hu];rfl,by decide⟩
theorem fpI:(Tryz.prog.info? 257).map (fun i=>(i.zero,i.size,i.bytes))=some (some (.pointer none),1,8):=by kernel_rfl
def MdC (m:Md) (dv fv:Value):Array Value:=#[.int .i64 m.c.t,.int .i64 m.c.c,.int .i64 m.c.wd,.int .i64 m.c.v,dv,fv,.int .i64 m.e]
def MdOb (w:World) (b:Nat) (m:Md) (dv fv:Value):Prop:=Ob w b 231 (MdC m dv fv)
theorem md_cells {w:World} {b:Nat} {m:Md} {dv fv:Value} (h:MdOb w b m dv fv):w.cell? ⟨b,0,none⟩=some (.int .i64 m.c.t)∧w.cell? ⟨b,1,none⟩=some (.int .i64 m.c.c)∧w.cell? ⟨b,2,none⟩=some (.int .i64 m.c.wd)∧w.cell? ⟨b,3,none⟩=some (.int .i64 m.c.v)∧w.cell? ⟨b,4,none⟩=some dv∧w.cell? ⟨b,5,none⟩=some fv∧w.cell? ⟨b,6,none⟩=some (.int .i64 m.e) :=
 ⟨h.cell rfl,h.cell rfl,h.cell rfl,h.cell rfl,h.cell rfl,h.cell rfl,h.cell rfl⟩
theorem drawB_nil {ds:List Int} (h:ds.length=0):drawB ds=false:=by rw [List.eq_nil_of_length_eq_zero h];rfl
theorem drawB_at {ds:List Int} {d:Int} (h:ds[0]? = some d):drawB ds=decide (bits .and .i64 d 1=1):=by
 cases ds with
 | nil=>simp at h
 | cons a r=>simp at h;rw [h];rfl
theorem mend_begin (m:Md) (hc:m.c.Ok) (chunk:Int) (b:Nat) (dv fv:Value) (fbs:List Nat) (w:World) (h:MdOb w b m dv fv) (hD:Sq fI w dv m.draws) (hF:Sq fP w fv fbs) (hlen:fbs.length≤100000) :
  Calls Tryz.prog 197 #[.pointer (some ⟨b,0,none⟩),.int .i64 chunk] w fun e w'=>e = .returned (.tuple #[])∧(∃ fv' fb lb,MdOb w' b m dv fv'∧Sq fP w' fv' (fbs++[fb])∧FmOb w' fb (Fm.new m.c chunk (drawB m.draws)) lb none none none none∧LdAt w' lb (Ld.new m.c chunk (drawB m.draws))∧w.heap.size≤fb∧w.heap.size≤lb∧fb≠lb∧(∀ k,k∈fv'.ownBlock.toList→w.heap.size≤k∧k<w'.heap.size∧k≠fb∧k≠lb))∧Fr [b] w w':=by
 obtain ⟨ad,cd,rfl,hcd,hmd,-⟩:=id hD
 obtain ⟨af,cf,rfl,hcf,hmf,-⟩:=id hF
 generalize hdr:drawB m.draws=dr
 have HDR:=Lib.hid hdr
 clear hdr
 have HH:=Lib.hid (And.intro hD hF)
 clear hD hF
 obtain ⟨c0,c1,c2,c3,c4,c5,c6⟩:=md_cells h
 by_cases hz:m.draws.length=0
 ·have hd2:dr=false:=by rw [← HDR.out];exact drawB_nil hz
  have hzz:((m.draws.length:Nat):Int)=0:=by omega
  clear hz
  subst hd2
  go_enter Tryz.func197,Tryz.ntmps197
  go_wp2_with fail
  clear hzz
  clear c0 c1 c2 c3 c4 c5 c6
  refine wp_region_free (by kernel_rfl) ?_
  refine any_envL [] w #[true,true,true,true,true,true,true,true,true,true,true,true,true,true,true,true,true,true,false,false,false] 18 3 rfl ?_
  refine lp [true,true,true,true,true,false,true,true,true,true,true,true,true,false,false,false,false,false,false,false,false] 6 ((Fr.refl _ _).drew) ?_
  apply Exists.intro
  refine ⟨fun wf Ff=>?_,?_⟩
  ·obtain ⟨c0,c1,c2,c3,-,c5,-⟩:=md_cells (Ob.up h Ff)
   have j0:=In.cell c0
   have j1:=In.cell c1
   have j2:=In.cell c2
   have j3:=In.cell c3
   have j5:=In.cell c5
   clear c0 c1 c2 c3 c5
   simp only [sel]
   repeat (go_big_quiet_step (fail))
   exact wpQuiet_nil rfl
  refine lo 5 (fun w1 F1=>?_)
  have G:=((Fr.refl [] w).drew).trans F1
  clear F1
  go_wp2_with (at_builtin;go_loud (refine wpList_appSq fP_lays rfl _ _ 229 rfl Tryz.underlying229 fpI rfl (B:=w.heap.size) (.slice none 0 0) [] rfl ⟨rfl,.inl ⟨rfl,rfl⟩⟩ _ fbs rfl (HH.out.2.up G) (by simp;omega) (by decide) G.size ?_);intro a2 k2 w2 r2 F2)
  replace G:=G.trans (F2.mono (by simp [Value.ownBlock]))
  rw [List.nil_append] at r2
  clear F2
  refine nx_normal ⟨G,?_⟩
  refine lo 13 (fun w3 F3=>?_)
  have r3:=row_keeps r2 F3
  replace G:=G.trans F3
  clear F3 r2
  go_wp2_with fail
  refine (newLead_any m.c chunk false w3).mono ?_;rintro e w4 ⟨lb,rfl,hlb,l4,F4⟩
  have r4:=row_keeps r3 F4
  have HLB:=Lib.hid (Nat.le_trans G.size hlb)
  replace G:=G.trans F4
  clear F4 r3 hlb
  go_wp2_with fail
  refine nx_normal ⟨G,?_⟩
  refine lo 14 (fun w5 F5=>?_)
  have r5:=row_keeps r4 F5
  have l5:=Ob.up l4 F5
  replace G:=G.trans F5
  clear F5 r4 l4
  go_wp2_with fail
  refine nx_normal ⟨G,?_⟩
  refine lo 15 (fun w6 F6=>?_)
  have r6:=row_keeps r5 F6
  have l6:=Ob.up l5 F6
  replace G:=G.trans F6
  clear F6 r5 l5
  go_wp2_with fail
  have F7:=(Fr.refl [] w6).alloc (.cells #[.int .i64 chunk,.int .i64 1,.pointer (some ⟨lb,0,none⟩),.pointer none,.pointer none,.bool false,.pointer none,.pointer none,.int .i64 0] 264)
  have o7:=Ob.new w6 264 #[.int .i64 chunk,.int .i64 1,.pointer (some ⟨lb,0,none⟩),.pointer none,.pointer none,.bool false,.pointer none,.pointer none,.int .i64 0]
  have r7:=row_keeps r6 F7
  have l7:=Ob.up l6 F7
  have HLF:=Lib.hid (And.intro (Ob.lt l6) (And.intro G.size (row_lt r6)))
  replace G:=G.trans F7
  generalize (w6.alloc (.cells #[.int .i64 chunk,.int .i64 1,.pointer (some ⟨lb,0,none⟩),.pointer none,.pointer none,.bool false,.pointer none,.pointer none,.int .i64 0] 264))=w7 at *
  generalize w6.heap.size=fb at *
  clear F7 r6 l6
  refine nx_normal ⟨G,?_⟩
  refine lo 16 (fun w8 F8=>?_)
  have r8:=row_keeps r7 F8
  have l8:=Ob.up l7 F8
  have o8:=Ob.up o7 F8
  replace G:=G.trans F8
  clear F8 r7 l7 o7
  go_wp2_with fail
  have F9:=(Fr.refl [] w8).alloc (.cells #[.pointer (some ⟨fb,0,none⟩)] 257)
  have B9:=Go.heap_alloc_new w8 (.cells #[.pointer (some ⟨fb,0,none⟩)] 257)
  have r9:=row_keeps r8 F9
  have l9:=Ob.up l8 F9
  have o9:=Ob.up o8 F9
  replace G:=G.trans F9
  clear F9 r8 l8 o8
  refine nx_normal ⟨G,?_⟩
  refine lo 17 (fun w10 F10=>?_)
  have r10:=row_keeps r9 F10
  have l10:=Ob.up l9 F10
  have o10:=Ob.up o9 F10
  have B10:=F10.heap B9 (by simp)
  replace G:=G.trans F10
  clear F10 r9 l9 o9 B9
  go_wp2_with (at_builtin;go_loud (refine wpList_appSq fP_lays rfl _ _ 229 rfl Tryz.underlying229 fpI rfl (B:=w.heap.size) _ fbs rfl r10 _ [fb] rfl (Sq.block B10 rfl rfl (Nat.le_refl _) (by simp [maxLen])) (by simp;omega) (by decide) G.size ?_);intro a11 k11 w11 r11 F11;generalize hT:fbs++[fb]=T at r11 ⊢)
  have HT:=Lib.hid hT
  have l11:=Ob.kept l10 F11 (row_ne r10 l10 (by decide))
  have o11:=Ob.kept o10 F11 (row_ne r10 o10 (by decide))
  replace G:=G.own F11 (row_base r10)
  clear F11 r10 l10 o10 B10 hT
  refine nx_normal ⟨G,?_⟩
  refine envL_tail (k:=18) rfl (by kernel_rfl) (fun w12 F12=>?_)
  have r12:=row_keeps r11 F12
  have l12:=Ob.up l11 F12
  have o12:=Ob.up o11 F12
  replace G:=G.trans F12
  have h12:=Ob.up h G
  have hbw:=Ob.lt h
  clear F12 r11 l11 o11 h
  have z:=h12.frozen
  obtain ⟨c0,c1,c2,c3,c4,c5,c6⟩:=md_cells h12
  have nb1:=row_ne r12 h12 (by decide)
  have nb2:=row_ne r12 l12 (by decide)
  have nb3:=row_ne r12 o12 (by decide)
  have HR:=Lib.hid (And.intro r12 (And.intro l12 (And.intro o12 (And.intro h12 G))))
  have hbf:¬ b=fb∧¬ b=lb:=by have:=HLB.out;have:=HLF.out.2.1;omega
  clear r12 l12 o12 h12 G
  go_wp2_with fail
  go_end0
  have SF:Fr [b] w12 (w12.setCell ⟨b,5,none⟩ (.slice a11 T.length k11)):=Fr.setCell _ (by simp)
  refine ⟨rfl,⟨_,fb,lb,Ob.set HR.out.2.2.2.1 (i:=5) (.slice a11 T.length k11),by rw [HT.out];exact (Sq.own (f:=fP) HR.out.1).kept SF (fun k hk hi=>by simp at hi;subst hi;exact nb1 hk),Ob.other HR.out.2.2.1 (Ne.symm hbf.1) _,Ob.other HR.out.2.1 (Ne.symm hbf.2) _,HLF.out.2.1,HLB.out,by have:=HLF.out.1;omega,fun k hk=>⟨row_base HR.out.1 k (by simpa using hk),Nat.lt_of_lt_of_le (row_lt HR.out.1 k (by simpa using hk)) SF.size,fun e=>nb3 (by rw [← e];simpa using hk),fun e=>nb2 (by rw [← e];simpa using hk)⟩⟩,(HR.out.2.2.2.2.mono (by simp)).trans SF⟩
 ·obtain ⟨d,hd⟩:∃ d,m.draws[0]? = some d:=⟨m.draws[0]'(by omega),List.getElem?_eq_getElem _⟩
  obtain ⟨gd,od,rfl,d0⟩:=int_cell HH.out.1 hd
  have hd2:dr=decide (bits .and .i64 d 1=1):=by rw [← HDR.out];exact drawB_at hd
  have HD2:=Lib.hid hd2
  have hz0:(0:Int)<(m.draws.length:Int):=by omega
  replace d0:w.cell? ⟨gd,od,none⟩=some (.int .i64 d):=by simpa using d0
  clear hd2 hz hd
  by_cases hbit:bits .and .i64 d 1=1
  focus
   have g9:(bits .and .i64 d 1 == 1)=true:=by simpa using hbit
   have HD3:dr=true:=by rw [HD2.out];simpa using hbit
   subst HD3
   clear hbit
   go_enter Tryz.func197,Tryz.ntmps197
   go_wp2_with fail
   clear hz0 d0 g9
   clear c0 c1 c2 c3 c4 c5 c6
   refine wp_region_free (by kernel_rfl) ?_
   refine any_envL [] w #[true,true,true,true,true,true,true,true,true,true,true,true,true,true,true,true,true,true,false,false,false] 18 3 rfl ?_
   refine lp [true,true,true,true,true,false,true,true,true,true,true,true,true,false,false,false,false,false,false,false,false] 6 ((Fr.refl _ _).drew) ?_
   apply Exists.intro
   refine ⟨fun wf Ff=>?_,?_⟩
   ·obtain ⟨c0,c1,c2,c3,-,c5,-⟩:=md_cells (Ob.up h Ff)
    have j0:=In.cell c0
    have j1:=In.cell c1
    have j2:=In.cell c2
    have j3:=In.cell c3
    have j5:=In.cell c5
    clear c0 c1 c2 c3 c5
    simp only [sel]
    repeat (go_big_quiet_step (fail))
    exact wpQuiet_nil rfl
   refine lo 5 (fun w1 F1=>?_)
   have G:=((Fr.refl [] w).drew).trans F1
   clear F1
   go_wp2_with (at_builtin;go_loud (refine wpList_appSq fP_lays rfl _ _ 229 rfl Tryz.underlying229 fpI rfl (B:=w.heap.size) (.slice none 0 0) [] rfl ⟨rfl,.inl ⟨rfl,rfl⟩⟩ _ fbs rfl (HH.out.2.up G) (by simp;omega) (by decide) G.size ?_);intro a2 k2 w2 r2 F2)
   replace G:=G.trans (F2.mono (by simp [Value.ownBlock]))
   rw [List.nil_append] at r2
   clear F2
   refine nx_normal ⟨G,?_⟩
   refine lo 13 (fun w3 F3=>?_)
   have r3:=row_keeps r2 F3
   replace G:=G.trans F3
   clear F3 r2
   go_wp2_with fail
   refine (newLead_any m.c chunk true w3).mono ?_;rintro e w4 ⟨lb,rfl,hlb,l4,F4⟩
  rotate_left
  focus
   have g9:(bits .and .i64 d 1 == 1)=false:=by simpa using hbit
   have HD3:dr=false:=by rw [HD2.out];simpa using hbit
   subst HD3
   clear hbit
   go_enter Tryz.func197,Tryz.ntmps197
   go_wp2_with fail
   clear hz0 d0 g9
   clear c0 c1 c2 c3 c4 c5 c6
   refine wp_region_free (by kernel_rfl) ?_
   refine any_envL [] w #[true,true,true,true,true,true,true,true,true,true,true,true,true,true,true,true,true,true,false,false,false] 18 3 rfl ?_
   refine lp [true,true,true,true,true,false,true,true,true,true,true,true,true,false,false,false,false,false,false,false,false] 6 ((Fr.refl _ _).drew) ?_
   apply Exists.intro
   refine ⟨fun wf Ff=>?_,?_⟩
   ·obtain ⟨c0,c1,c2,c3,-,c5,-⟩:=md_cells (Ob.up h Ff)
    have j0:=In.cell c0
    have j1:=In.cell c1
    have j2:=In.cell c2
    have j3:=In.cell c3
    have j5:=In.cell c5
    clear c0 c1 c2 c3 c5
    simp only [sel]
    repeat (go_big_quiet_step (fail))
    exact wpQuiet_nil rfl
   refine lo 5 (fun w1 F1=>?_)
   have G:=((Fr.refl [] w).drew).trans F1
   clear F1
   go_wp2_with (at_builtin;go_loud (refine wpList_appSq fP_lays rfl _ _ 229 rfl Tryz.underlying229 fpI rfl (B:=w.heap.size) (.slice none 0 0) [] rfl ⟨rfl,.inl ⟨rfl,rfl⟩⟩ _ fbs rfl (HH.out.2.up G) (by simp;omega) (by decide) G.size ?_);intro a2 k2 w2 r2 F2)
   replace G:=G.trans (F2.mono (by simp [Value.ownBlock]))
   rw [List.nil_append] at r2
   clear F2
   refine nx_normal ⟨G,?_⟩
   refine lo 13 (fun w3 F3=>?_)
   have r3:=row_keeps r2 F3
   replace G:=G.trans F3
   clear F3 r2
   go_wp2_with fail
   refine (newLead_any m.c chunk false w3).mono ?_;rintro e w4 ⟨lb,rfl,hlb,l4,F4⟩
  rotate_left
  all_goals
   have r4:=row_keeps r3 F4
   have HLB:=Lib.hid (Nat.le_trans G.size hlb)
   replace G:=G.trans F4
   clear F4 r3 hlb
   go_wp2_with fail
   refine nx_normal ⟨G,?_⟩
   refine lo 14 (fun w5 F5=>?_)
   have r5:=row_keeps r4 F5
   have l5:=Ob.up l4 F5
   replace G:=G.trans F5
   clear F5 r4 l4
   go_wp2_with fail
   refine nx_normal ⟨G,?_⟩
   refine lo 15 (fun w6 F6=>?_)
   have r6:=row_keeps r5 F6
   have l6:=Ob.up l5 F6
   replace G:=G.trans F6
   clear F6 r5 l5
   go_wp2_with fail
   have F7:=(Fr.refl [] w6).alloc (.cells #[.int .i64 chunk,.int .i64 1,.pointer (some ⟨lb,0,none⟩),.pointer none,.pointer none,.bool false,.pointer none,.pointer none,.int .i64 0] 264)
   have o7:=Ob.new w6 264 #[.int .i64 chunk,.int .i64 1,.pointer (some ⟨lb,0,none⟩),.pointer none,.pointer none,.bool false,.pointer none,.pointer none,.int .i64 0]
   have r7:=row_keeps r6 F7
   have l7:=Ob.up l6 F7
   have HLF:=Lib.hid (And.intro (Ob.lt l6) (And.intro G.size (row_lt r6)))
   replace G:=G.trans F7
   generalize (w6.alloc (.cells #[.int .i64 chunk,.int .i64 1,.pointer (some ⟨lb,0,none⟩),.pointer none,.pointer none,.bool false,.pointer none,.pointer none,.int .i64 0] 264))=w7 at *
   generalize w6.heap.size=fb at *
   clear F7 r6 l6
   refine nx_normal ⟨G,?_⟩
   refine lo 16 (fun w8 F8=>?_)
   have r8:=row_keeps r7 F8
   have l8:=Ob.up l7 F8
   have o8:=Ob.up o7 F8
   replace G:=G.trans F8
   clear F8 r7 l7 o7
   go_wp2_with fail
   have F9:=(Fr.refl [] w8).alloc (.cells #[.pointer (some ⟨fb,0,none⟩)] 257)
   have B9:=Go.heap_alloc_new w8 (.cells #[.pointer (some ⟨fb,0,none⟩)] 257)
   have r9:=row_keeps r8 F9
   have l9:=Ob.up l8 F9
   have o9:=Ob.up o8 F9
   replace G:=G.trans F9
   clear F9 r8 l8 o8
   refine nx_normal ⟨G,?_⟩
   refine lo 17 (fun w10 F10=>?_)
   have r10:=row_keeps r9 F10
   have l10:=Ob.up l9 F10
   have o10:=Ob.up o9 F10
   have B10:=F10.heap B9 (by simp)
   replace G:=G.trans F10
   clear F10 r9 l9 o9 B9
   go_wp2_with (at_builtin;go_loud (refine wpList_appSq fP_lays rfl _ _ 229 rfl Tryz.underlying229 fpI rfl (B:=w.heap.size) _ fbs rfl r10 _ [fb] rfl (Sq.block B10 rfl rfl (Nat.le_refl _) (by simp [maxLen])) (by simp;omega) (by decide) G.size ?_);intro a11 k11 w11 r11 F11;generalize hT:fbs++[fb]=T at r11 ⊢)
   have HT:=Lib.hid hT
   have l11:=Ob.kept l10 F11 (row_ne r10 l10 (by decide))
   have o11:=Ob.kept o10 F11 (row_ne r10 o10 (by decide))
   replace G:=G.own F11 (row_base r10)
   clear F11 r10 l10 o10 B10 hT
   refine nx_normal ⟨G,?_⟩
   refine envL_tail (k:=18) rfl (by kernel_rfl) (fun w12 F12=>?_)
   have r12:=row_keeps r11 F12
   have l12:=Ob.up l11 F12
   have o12:=Ob.up o11 F12
   replace G:=G.trans F12
   have h12:=Ob.up h G
   have hbw:=Ob.lt h
   clear F12 r11 l11 o11 h
   have z:=h12.frozen
   obtain ⟨c0,c1,c2,c3,c4,c5,c6⟩:=md_cells h12
   have nb1:=row_ne r12 h12 (by decide)
   have nb2:=row_ne r12 l12 (by decide)
   have nb3:=row_ne r12 o12 (by decide)
   have HR:=Lib.hid (And.intro r12 (And.intro l12 (And.intro o12 (And.intro h12 G))))
   have hbf:¬ b=fb∧¬ b=lb:=by have:=HLB.out;have:=HLF.out.2.1;omega
   clear r12 l12 o12 h12 G
   go_wp2_with fail
   go_end0
   have SF:Fr [b] w12 (w12.setCell ⟨b,5,none⟩ (.slice a11 T.length k11)):=Fr.setCell _ (by simp)
   refine ⟨rfl,⟨_,fb,lb,Ob.set HR.out.2.2.2.1 (i:=5) (.slice a11 T.length k11),by rw [HT.out];exact (Sq.own (f:=fP) HR.out.1).kept SF (fun k hk hi=>by simp at hi;subst hi;exact nb1 hk),Ob.other HR.out.2.2.1 (Ne.symm hbf.1) _,Ob.other HR.out.2.1 (Ne.symm hbf.2) _,HLF.out.2.1,HLB.out,by have:=HLF.out.1;omega,fun k hk=>⟨row_base HR.out.1 k (by simpa using hk),Nat.lt_of_lt_of_le (row_lt HR.out.1 k (by simpa using hk)) SF.size,fun e=>nb3 (by rw [← e];simpa using hk),fun e=>nb2 (by rw [← e];simpa using hk)⟩⟩,(HR.out.2.2.2.2.mono (by simp)).trans SF⟩
end Go.Proofs.YtilipdnchflkhaaGreatDoor.Mx
namespace Go.Proofs.YtilipdnchflkhaaGreatDoor.Vw
open Go.RowKit Go.Proofs.YtilipdnchflkhaaGreatDoor.Ar Go.Proofs.YtilipdnchflkhaaGreatDoor.Mx Go.Proofs.YtilipdnchflkhaaGreatDoor.Ref
theorem layHN_len (s:St) (h:Hd):∀ i,(layHN s h i).l.length=s.l.length
 | 0=>rfl
 | i+1=>by show (poke _ _ _).length=_;rw [length_poke];exact layHN_len s h i
theorem layCsN_len (s:St) (a:Int) (cs:List Ce):∀ i,(layCsN s a cs i).l.length=s.l.length
 | 0=>rfl
 | i+1=>by show (poke (poke (poke _ _ _) _ _) _ _).length=_;rw [length_poke,length_poke,length_poke];exact layCsN_len s a cs i
theorem layCsN_next (s:St) (an i K:Nat) (cs:List Ce) (x:Ce) (hx:cs[i]? = some x) (hK:K=an+7+3 * i):(((layCsN s (an:Int) cs i).poke ((K:Nat):Int) x.s).poke ((K+1:Nat):Int) x.k).poke ((K+2:Nat):Int) x.d=layCsN s (an:Int) cs (i+1):=by
 have e3:cs.getD i ⟨0,0,0⟩=x:=by rw [List.getD_eq_getElem?_getD,hx];rfl
 have e4:(an:Int)+7+3 * (i:Int)=((K:Nat):Int):=by omega
 have e1:((K+1:Nat):Int)=(K:Int)+1:=by omega
 have e2:((K+2:Nat):Int)=(K:Int)+2:=by omega
 have e5:layCsN s (an:Int) cs (i+1)=layC (layCsN s (an:Int) cs i) ((an:Int)+7+3 * (i:Int)) (cs.getD i ⟨0,0,0⟩):=by rw [layCsN]
 rw [e5,e3,e4,e1,e2]
 generalize layCsN s (an:Int) cs i=S
 rw [layC]
theorem Rar.laid {w:World} {p q k:Nat} {s:St} (h:Rar w p q s) (v:Int) (hk:k<s.l.length):Rar (w.setCell ⟨q,k,none⟩ (.int .i64 v)) p q (s.poke k v):=by
 obtain ⟨ne,lo,hi,cap,c,hp,hc1,hc2,hq,hs,hc⟩:=h
 refine ⟨ne,by simp [St.poke,length_poke];exact lo,by simp [St.poke,length_poke];exact hi,cap,_,?_,by simpa [St.poke,length_poke] using hc1,hc2,heap_setCell_same _ _ _ _ _ _ hq,by simpa using hs,?_⟩
 ·rw [heap_setCell_other _ _ _ _ ne];simpa [rarHead,St.poke,length_poke] using hp
 ·intro j hj
  simp only [St.poke,length_poke] at hj
  simp only [St.poke,poke_at v hk,Array.getElem?_setIfInBounds,hc j hj,nth,List.getD_eq_getElem?_getD,List.getElem?_set]
  split
  ·rename_i hkj;subst hkj
   rw [if_pos (by rw [hs];omega)];rfl
  ·rfl
theorem Rar.froz {w:World} {p q:Nat} {s:St} (h:Rar w p q s) (k:Nat):w.frozen? ⟨q,k,none⟩=false:=by
 obtain ⟨ne,lo,hi,cap,c,hp,hc1,hc2,hq,hs,hc⟩:=h
 exact frozen_of_row _ _ _ _ _ hq
def words7 (h:Hd):Array Value:=#[.int .i64 h.mn,.int .i64 h.ct,.int .i64 h.nx,.int .i64 h.ld,.int .i64 h.mt,.int .i64 h.rp,.int .i64 h.st]
theorem words7_at (h:Hd) {i:Nat} (hi:i<7):(words7 h)[i]? = some (.int .i64 (h.word i)):=by
 have:i=0∨i=1∨i=2∨i=3∨i=4∨i=5∨i=6:=by omega
 rcases this with rfl | rfl | rfl | rfl | rfl | rfl | rfl <;> rfl
def RhAt (w:World) (s:St) (h:Hd) (p q:Nat) (u:Value) (wr:World):Prop:=∃ i,i≤7∧u = .int .i64 (i:Nat)∧Rar wr p q (layHN s h i)∧Fr [q] w wr
def RkAt (w:World) (s:St) (a:Int) (cs:List Ce) (p q:Nat) (u y:Value) (wr:World):Prop:=∃ i,i≤cs.length∧u = .int .i64 (i:Nat)∧Rar wr p q (layCsN s a cs i)∧Fr [q] w wr
theorem rlay_yes (t wd v:Int) (an n:Nat) (h:Hd) (cs:List Ce) (lv:Value) (p q:Nat) (s:St) (w:World) (h1:1≤n) (h2:n≤16) (h3:n≤s.l.length) (h4:s.l.length≤20000) (hA:Rar w p q s) (hn:cs.length=n) (hs:Sq fC w lv cs) (hq:q∉lv.ownBlock.toList) (han:h.at_=(an:Int)) (ht:thereB s.l.length n h.at_=true) :
  Calls Tryz.prog 48 #[.agg #[.int .i64 t,.int .i64 n,.int .i64 wd,.int .i64 v],.pointer (some ⟨p,0,none⟩),chV h lv] w fun e w'=>e = .returned (.int .i64 0)∧Rar w' p q (layS s h cs)∧Fr [q] w w':=by
 have ha:an+(7+3 * n)≤s.l.length:=by rw [han] at ht;unfold thereB at ht;simp at ht;omega
 obtain ⟨at_,mn,ct,nx,ld,mt,rp,st⟩:=h
 simp only at han
 subst han
 obtain ⟨a,cap,rfl,hcap,hmax,-⟩:=id hs
 obtain ⟨F1,o0,o1⟩:=two_boxes w t n wd v ⟨(an:Int),mn,ct,nx,ld,mt,rp,st⟩ (.slice a cs.length cap)
 obtain ⟨k0,k1,k2,k3⟩:=Pl.cells4 o0
 obtain ⟨q0,q1,q2,q3,q4,q5,q6,q7,q8⟩:=ch_cells o1
 have g:((cs.length:Int) != n)=false:=by simp [hn]
 have A1:=hA.kept F1
 have hpq:=hA.lt
 have HT:=Lib.hid ht
 have HN:=Lib.hid hn
 unfold chV
 unfold chC at F1 o0 o1 k0 k1 k2 k3 q0 q1 q2 q3 q4 q5 q6 q7 q8 A1
 clear hn ht hA
 go_enter Tryz.func48,Tryz.ntmps48
 go_wp2_with fail
 refine (rfits_any t n wd v (an:Int) p q s _ (by omega) (by omega) (by omega) h4 A1).mono ?_;rintro e w2 ⟨rfl,F2⟩
 rw [HT.out]
 replace A1:=A1.kept F2
 replace o1:=o1.up F2
 replace o0:=o0.up F2
 replace F1:=F1.trans F2
 clear k0 k1 k2 k3 q0 q1 q2 q3 q4 q5 q6 q7 q8 F2 g
 obtain ⟨q0,q1,q2,q3,q4,q5,q6,q7,q8⟩:=ch_cells (h:=⟨(an:Int),mn,ct,nx,ld,mt,rp,st⟩) (lv:=.slice a cs.length cap) o1
 go_wp2_with fail
 have F3:=(Fr.refl [] w2).alloc (.cells #[.int .i64 mn,.int .i64 ct,.int .i64 nx,.int .i64 ld,.int .i64 mt,.int .i64 rp,.int .i64 st] 139)
 have o7:Ob (w2.alloc (.cells #[.int .i64 mn,.int .i64 ct,.int .i64 nx,.int .i64 ld,.int .i64 mt,.int .i64 rp,.int .i64 st] 139)) w2.heap.size 139 (words7 ⟨(an:Int),mn,ct,nx,ld,mt,rp,st⟩):=Ob.new w2 139 #[.int .i64 mn,.int .i64 ct,.int .i64 nx,.int .i64 ld,.int .i64 mt,.int .i64 rp,.int .i64 st]
 have hsz:=F1.size
 replace A1:=A1.kept F3
 replace o1:=o1.up F3
 replace o0:=o0.up F3
 replace F1:=F1.trans F3
 clear q0 q1 q2 q3 q4 q5 q6 q7 q8 F3
 have hb7:q<w2.heap.size:=by omega
 generalize w2.heap.size=b7 at *
 generalize World.alloc w2 _=w3 at *
 have HO:=Lib.hid (And.intro o1 (And.intro o0 o7))
 have HF1:=Lib.hid F1
 have HS:=Lib.hid (hs.up F1)
 have HB:=Lib.hid (And.intro ha (And.intro hpq (And.intro hb7 hq)))
 clear o1 o0 o7 F1 hs ha hpq hb7 hq hsz
 go_loopw [8] (RhAt w3 s ⟨(an:Int),mn,ct,nx,ld,mt,rp,st⟩ p q) (fun u _=>7 - (intOf u).toNat)
 case atStart=>exact ⟨0,by omega,rfl,A1,Fr.refl _ _⟩
 case round =>
  obtain ⟨i,hi,rfl,A,F⟩:=hrel
  have hlen:=layHN_len s ⟨(an:Int),mn,ct,nx,ld,mt,rp,st⟩ i
  obtain ⟨hal,⟨hp1,hq1⟩,hq7,hql⟩:=HB.out
  by_cases hlt:i<7
  ·have c0:=(HO.out.1.kept F (by simp;omega)).cell (i:=0) rfl
   have c7:=(HO.out.2.2.kept F (by simp;omega)).cell (words7_at ⟨(an:Int),mn,ct,nx,ld,mt,rp,st⟩ hlt)
   obtain ⟨cap2,hcap2,ac,-,-,-,-,-,-,aw⟩:=rarCells A
   obtain ⟨K,hK⟩:∃ K:Nat,K=an+i:=⟨_,rfl⟩
   have hkl:K<(layHN s ⟨(an:Int),mn,ct,nx,ld,mt,rp,st⟩ i).l.length:=by rw [hlen];omega
   have hkz:(an:Int)+(i:Int)=((K:Nat):Int):=by omega
   have HW:=Lib.hid (show (layHN s ⟨(an:Int),mn,ct,nx,ld,mt,rp,st⟩ i).poke (K:Int) (Hd.word ⟨(an:Int),mn,ct,nx,ld,mt,rp,st⟩ i)=layHN s ⟨(an:Int),mn,ct,nx,ld,mt,rp,st⟩ (i+1) by rw [← hkz];rfl)
   generalize Hd.word ⟨(an:Int),mn,ct,nx,ld,mt,rp,st⟩ i=val at *
   generalize layHN s ⟨(an:Int),mn,ct,nx,ld,mt,rp,st⟩ i=S1 at *
   have HF:=Lib.hid F
   have HI:=Lib.hid (And.intro hi hlt)
   have HA:=Lib.hid A
   have hne0:w.heap.size≠q:=by omega
   have hne1:w.heap.size+1≠q:=by omega
   have hne2:b7≠q:=by omega
   have hne3:p≠q:=A.ne
   have HK:=Lib.hid hK
   have HKL:=Lib.hid hkl
   have hab:an≤20000:=by omega
   have hkb:K≤20100:=by omega
   have hkl2:(K:Int)<(S1.l.length:Int):=by omega
   clear aw F hK hi A hal hp1 hq1 hq7 hql hlen
   go_wp2_with fail
   refine wp_region_env (by kernel_rfl) [q] (fun w5 F5=>?_)
   refine ep [true,true,true,true,true,true,true,true,true,true,true,true,false] 1 (F5.mono) ?_
   apply Exists.intro
   refine ⟨fun wf Ff=>?_,?_⟩
   ·have j0:=In.cell (Ff.cell c0 (by simpa using hne1))
    have j7:=In.cell (Ff.cell c7 (by simpa using hne2))
    have ja:=In.cell (Ff.cell ac (by simpa using hne3))
    simp only [sel]
    repeat (go_big_quiet_step (fail))
    exact wpQuiet_nil rfl
   refine eo 12 (fun w6 F6=>?_)
   have E:=F5.trans F6
   have A6:=HA.out.kept E
   have HAL:=Lib.hid (Rar.laid A6 val HKL.out)
   have z:=Rar.froz A6 K
   obtain ⟨cap3,-,-,-,-,-,-,-,-,aw⟩:=rarCells A6
   have y0:=aw K HKL.out
   have SF:Fr [q] w6 (w6.setCell ⟨q,K,none⟩ (.int .i64 val)):=Fr.setCell _ (by simp)
   have E2:=(E.mono (T:=[q]) (by simp)).trans SF
   clear aw A6 c0 c7 ac F5 F6
   go_wp2_with fail
   generalize w6.setCell _ _=w7 at *
   refine nx_normal ⟨E2,?_⟩
   refine env_done (by kernel_rfl) (fun w8 F8=>?_)
   have HA8:=Lib.hid (HAL.out.kept F8)
   have HF8:=Lib.hid (HF.out.trans (E2.then F8))
   clear y0 z SF E2 E F8
   go_wp2_with fail
   have B:=HI.out
   exact ⟨⟨i+1,by omega,by simp,by rw [← HW.out];exact HA8.out,HF8.out⟩,by simp [intOf];omega⟩
  ·obtain rfl:i=7:=by omega
   have HF:=Lib.hid F
   have HS2:=Lib.hid (HS.out.kept F (fun g hg hi=>hql (by rw [List.mem_singleton.1 hi] at hg;exact hg)))
   have c1:=(HO.out.2.1.kept F (by simp;omega)).cell (i:=1) rfl
   have c8:=(HO.out.1.kept F (by simp;omega)).cell (i:=8) rfl
   have HL:=Lib.hid hlen
   have HC:=Lib.hid (And.intro hcap hmax)
   clear F hlen hcap hmax hal hp1 hq1 hq7 hql hi
   go_wp2_with fail
   clear c1 c8
   go_loopw [9,10] (RkAt wr (layHN s ⟨(an:Int),mn,ct,nx,ld,mt,rp,st⟩ 7) (an:Int) cs p q) (fun u _ _=>cs.length - (intOf u).toNat)
   case atStart=>exact ⟨0,by omega,rfl,A,Fr.refl _ _⟩
   case round =>
    obtain ⟨i,hi,rfl,A2,F⟩:=hrel
    have hlen:=layCsN_len (layHN s ⟨(an:Int),mn,ct,nx,ld,mt,rp,st⟩ 7) (an:Int) cs i
    rw [HL.out] at hlen
    obtain ⟨hal,⟨hp1,hq1⟩,hq7,hql⟩:=HB.out
    have FF:=HF.out.trans F
    have c1:=(HO.out.2.1.kept FF (by simp;omega)).cell (i:=1) rfl
    have hcn:=HN.out
    by_cases hlt:i<cs.length
    ·have o8:=HO.out.1.kept FF (by simp;omega)
     have c0:=o8.cell (i:=0) rfl
     have c8:=o8.cell (i:=8) rfl
     have hsq:=HS2.out.kept F (fun g hg hi=>hql (by rw [List.mem_singleton.1 hi] at hg;exact hg))
     obtain ⟨x,hx⟩:∃ x,cs[i]? = some x:=⟨cs[i],List.getElem?_eq_getElem hlt⟩
     obtain ⟨g5,off,rfl,d0,d1,d2⟩:=ce_cells hsq hx
     have hg5:g5≠q:=fun e=>hql (by subst e;simp [Value.ownBlock])
     obtain ⟨cap2,hcap2,ac,-,-,-,-,-,-,aw⟩:=rarCells A2
     obtain ⟨K,hK⟩:∃ K:Nat,K=an+7+3 * i:=⟨_,rfl⟩
     have st6:=fun W=>Ref.state_any (an:Int) i (by omega) (by omega) (by omega) (by omega) W
     rw [show (an:Int)+7+3 * (i:Int)=((K:Nat):Int) by omega] at st6
     have HW:=Lib.hid (layCsN_next (layHN s ⟨(an:Int),mn,ct,nx,ld,mt,rp,st⟩ 7) an i K cs x hx hK)
     generalize hS1:layCsN (layHN s ⟨(an:Int),mn,ct,nx,ld,mt,rp,st⟩ 7) (an:Int) cs i=S1 at *
     have kb0:K<S1.l.length:=by omega
     have kb1:K+1<S1.l.length:=by omega
     have kb2:K+2<S1.l.length:=by omega
     have hab:K≤20000:=by omega
     have hne0:w.heap.size≠q:=by omega
     have hne1:w.heap.size+1≠q:=by omega
     have hne3:p≠q:=A2.ne
     have HA2:=Lib.hid A2
     have HF2:=Lib.hid F
     have HI:=Lib.hid (And.intro hi (And.intro hlt (And.intro kb0 (And.intro kb1 kb2))))
     have HX:=Lib.hid hx
     have hltn:i<n:=by omega
     have hltz:(i:Int)<(n:Int):=by omega
     have hltc:(i:Int)<(cs.length:Int):=by omega
     clear hS1 aw F FF hK hi A2 hal hp1 hq1 hq7 hql hlen hsq o8 hx hcn
     go_wp2_with fail
     refine (st6 _).mono ?_;rintro e _ ⟨rfl,rfl⟩
     go_wp2_with fail
     refine wp_region_env (by kernel_rfl) [q] (fun w5 F5=>?_)
     refine ep [true,true,true,true,true,true,true,true,true,true,true,true,true,true,true,true,true,true,true,true,true,true,true,true,true,true,true,true,true,true,true,true,true,true,true,true,false,false,false,false,false] 5 (F5.mono) ?_
     apply Exists.intro
     refine ⟨fun wf Ff=>?_,?_⟩
     ·have j0:=In.cell (Ff.cell d0 (by simpa using hg5))
      have j1:=In.cell (Ff.cell d1 (by simpa using hg5))
      have j2:=In.cell (Ff.cell d2 (by simpa using hg5))
      have j8:=In.cell (Ff.cell c8 (by simpa using hne1))
      have ja:=In.cell (Ff.cell ac (by simpa using hne3))
      simp only [sel]
      repeat (go_big_quiet_step (fail))
      exact wpQuiet_nil rfl
     have B:=HI.out
     refine eo 36 (fun w6 F6=>?_)
     have E:=F5.trans F6
     have A6:=HA2.out.kept E
     have HL6:=Lib.hid (Rar.laid A6 x.s HI.out.2.2.1)
     have z:=Rar.froz A6 K
     obtain ⟨cap3,-,-,-,-,-,-,-,-,aw⟩:=rarCells A6
     have y0:=aw K HI.out.2.2.1
     have SF:Fr [q] w6 (w6.setCell ⟨q,K,none⟩ (.int .i64 x.s)):=Fr.setCell _ (by simp)
     have E2:=(E.mono (T:=[q]) (by simp)).trans SF
     clear aw A6 c1 c0 c8 d0 d1 d2 ac F5 F6 SF E
     go_wp2_with fail
     generalize w6.setCell ⟨q,K,none⟩ (.int .i64 x.s)=w7 at *
     clear y0 z
     refine nx_normal ⟨E2,?_⟩
     refine eo 37 (fun w8 F8=>?_)
     have A8:=HL6.out.kept F8 (by simp) (by simp)
     have E3:=E2.then F8
     clear E2 F8
     go_wp2_with fail
     refine nx_normal ⟨E3,?_⟩
     refine eo 38 (fun w9 F9=>?_)
     have A9:=A8.kept F9
     have hk1:K+1<(S1.poke ((K:Nat):Int) x.s).l.length:=by show _<(poke _ _ _).length;rw [length_poke];exact HI.out.2.2.2.1
     have HL9:=Lib.hid (Rar.laid A9 x.k hk1)
     have z:=Rar.froz A9 (K+1)
     obtain ⟨cap4,-,-,-,-,-,-,-,-,aw⟩:=rarCells A9
     have y0:=aw (K+1) hk1
     have SF:Fr [q] w9 (w9.setCell ⟨q,K+1,none⟩ (.int .i64 x.k)):=Fr.setCell _ (by simp)
     have E4:=(E3.then F9).trans SF
     clear aw A9 A8 E3 F9 SF hk1
     go_wp2_with fail
     generalize w9.setCell ⟨q,K+1,none⟩ (.int .i64 x.k)=w10 at *
     clear y0 z
     refine nx_normal ⟨E4,?_⟩
     refine eo 39 (fun w11 F11=>?_)
     have A11:=HL9.out.kept F11 (by simp) (by simp)
     have E5:=E4.then F11
     clear E4 F11
     go_wp2_with fail
     refine nx_normal ⟨E5,?_⟩
     refine eo 40 (fun w12 F12=>?_)
     have A12:=A11.kept F12
     have hk2:K+2<((S1.poke ((K:Nat):Int) x.s).poke ((K+1:Nat):Int) x.k).l.length:=by show _<(poke (poke _ _ _) _ _).length;rw [length_poke,length_poke];exact HI.out.2.2.2.2
     have HL12:=Lib.hid (Rar.laid A12 x.d hk2)
     have z:=Rar.froz A12 (K+2)
     obtain ⟨cap5,-,-,-,-,-,-,-,-,aw⟩:=rarCells A12
     have y0:=aw (K+2) hk2
     have SF:Fr [q] w12 (w12.setCell ⟨q,K+2,none⟩ (.int .i64 x.d)):=Fr.setCell _ (by simp)
     have E6:=(E5.then F12).trans SF
     clear aw A12 A11 E5 F12 SF hk2
     go_wp2_with fail
     generalize w12.setCell ⟨q,K+2,none⟩ (.int .i64 x.d)=w13 at *
     clear y0 z
     refine nx_normal ⟨E6,?_⟩
     refine env_done (by kernel_rfl) (fun w14 F14=>?_)
     have HA14:=Lib.hid (HL12.out.kept F14 (by simp) (by simp))
     have HF14:=Lib.hid (HF2.out.trans (E6.then F14))
     clear E6 F14
     go_wp2
     go_roundw
     case rel=>exact ⟨_,_,_,_,_,_,_,_,_,_,_,_,_,_,_,_,_,_,_,_,_,_,_,_,_,_,_,_,_,_,_,_,_,_,_,_,_,_,_,_,_,_,_,_,_,_,_,_,_,_,⟨i+1,by omega,by simp,by rw [← HW.out];exact HA14.out,HF14.out⟩,rfl⟩
     case measure=>exact meas rfl (by omega)
    ·have hie:i=cs.length:=by omega
     have HIE:=Lib.hid hie
     have hge:¬ (i:Int)<(n:Int):=by omega
     have HA2:=Lib.hid A2
     have HFF:=Lib.hid FF
     clear hcn hie A2 FF F hlen hi
     go_wp2_with fail
     go_ret
     exact ⟨rfl,by have:=HA2.out;rw [HIE.out] at this;exact this,(HF1.out.mono (by simp)).trans HFF.out⟩
end Go.Proofs.YtilipdnchflkhaaGreatDoor.Vw
namespace Go.Proofs.YtilipdnchflkhaaGreatDoor.Vw
open Go.RowKit Go.Proofs.YtilipdnchflkhaaGreatDoor.Ar Go.Proofs.YtilipdnchflkhaaGreatDoor.Ref Go.Proofs.YtilipdnchflkhaaGreatDoor.Mx
def hdC (l:List Int) (n:Nat) (a:Int):Hd:=if thereB l.length n a=true then headOf l a else ⟨0,0,0,0,0,0,0,0⟩
def csC (l:List Int) (n:Nat) (a:Int):List Ce:=if thereB l.length n a=true then cellsOf l a n else []
def erC (l:List Int) (n:Nat) (a:Int):Int:=if thereB l.length n a=true then 0 else 11
theorem csC_len (l:List Int) (n:Nat) (a:Int) (h:n≤16):(csC l n a).length≤16:=by
 unfold csC;split
 ·unfold cellsOf;simp;omega
 ·simp
theorem errv_0:Pl.errv 0 = .nilIface:=by unfold Pl.errv;rw [if_pos rfl]
theorem errv_n {n:Int} (h:n≠0):Pl.errv n = .iface 133 (.int .i64 n):=by unfold Pl.errv;rw [if_neg h]
theorem chunk_u (t wd v a:Int) (n p q:Nat) (s:St) (w:World) (h1:1≤n) (h2:n≤16) (h3:n≤s.l.length) (h4:s.l.length≤20000) (hA:Ar w p q s) :
  Calls Tryz.prog 40 #[.agg #[.int .i64 t,.int .i64 n,.int .i64 wd,.int .i64 v],.pointer (some ⟨p,0,none⟩),.int .i64 a] w fun e w'=>∃ u,e = .returned (.tuple #[chV (hdC s.l n a) u,Pl.errv (erC s.l n a)])∧Sq fC w' u (csC s.l n a)∧Fr [] w w':=by
 unfold hdC csC erC
 cases ht:thereB s.l.length n a with
 | true =>
  refine (chunk_yes t wd v a n p q s w h1 h2 h3 h4 hA ht).mono ?_
  rintro e w' ⟨b,rfl,hb,ho,F⟩
  rw [if_pos rfl,if_pos rfl,if_pos rfl,errv_0]
  have hl:(cellsOf s.l a n).length=n:=by unfold cellsOf;simp
  exact ⟨_,rfl,Sq.block ho rfl rfl (Nat.le_refl _) (by rw [hl];unfold maxLen;omega),F⟩
 | false =>
  refine (chunk_no t wd v a n p q s w h1 h2 h3 h4 hA ht).mono ?_
  rintro e w' ⟨rfl,F⟩
  rw [if_neg (by simp),if_neg (by simp),if_neg (by simp),errv_n (by decide)]
  exact ⟨_,rfl,Sq.nil w',F⟩
theorem rchunk_u (t wd v a:Int) (n p q:Nat) (s:St) (w:World) (h1:1≤n) (h2:n≤16) (h3:n≤s.l.length) (h4:s.l.length≤20000) (hA:Rar w p q s) :
  Calls Tryz.prog 41 #[.agg #[.int .i64 t,.int .i64 n,.int .i64 wd,.int .i64 v],.pointer (some ⟨p,0,none⟩),.int .i64 a] w fun e w'=>∃ u,e = .returned (.tuple #[chV (hdC s.l n a) u,.int .i64 (erC s.l n a)])∧Sq fC w' u (csC s.l n a)∧Fr [] w w':=by
 unfold hdC csC erC
 cases ht:thereB s.l.length n a with
 | true =>
  obtain ⟨an,rfl⟩:=Int.eq_ofNat_of_zero_le (hdBd ht).1
  refine (rchunk_yes t wd v an n p q s w h1 h2 h3 h4 hA ht).mono ?_
  rintro e w' ⟨⟨u,rfl,hu⟩,F⟩
  rw [if_pos rfl,if_pos rfl,if_pos rfl]
  exact ⟨u,rfl,hu,F⟩
 | false =>
  refine (rchunk_no t wd v a n p q s w h1 h2 h3 h4 hA ht).mono ?_
  rintro e w' ⟨rfl,F⟩
  rw [if_neg (by simp),if_neg (by simp),if_neg (by simp)]
  exact ⟨_,rfl,Sq.nil w',F⟩
def erL (s:St) (n:Nat) (h:Hd) (cs:List Ce):Int:=if cs.length≠n then 10 else if thereB s.l.length n h.at_=true then 0 else 11
def stL (s:St) (n:Nat) (h:Hd) (cs:List Ce):St:=if cs.length≠n then s else if thereB s.l.length n h.at_=true then layS s h cs else s
theorem lay_u (t wd v:Int) (n:Nat) (h:Hd) (cs:List Ce) (lv:Value) (p q:Nat) (s:St) (w:World) (h1:1≤n) (h2:n≤16) (h3:n≤s.l.length) (h4:s.l.length≤20000) (hA:Ar w p q s) (hl:cs.length≤1000) (hs:Sq fC w lv cs) (hq:cs≠[]→q∉lv.ownBlock.toList) :
  Calls Tryz.prog 47 #[.agg #[.int .i64 t,.int .i64 n,.int .i64 wd,.int .i64 v],.pointer (some ⟨p,0,none⟩),chV h lv] w fun e w'=>e = .returned (Pl.errv (erL s n h cs))∧Ar w' p q (stL s n h cs)∧Fr [q] w w':=by
 unfold erL stL
 by_cases hn:cs.length≠n
 ·rw [if_pos hn,if_pos hn,errv_n (by decide)]
  refine (lay_form t wd v n h cs lv p q w (by omega) hl hs).mono ?_
  rintro e w' ⟨rfl,F⟩
  exact ⟨rfl,hA.kept F,F.mono⟩
 ·rw [if_neg hn,if_neg hn]
  have hn':cs.length=n:=by omega
  cases ht:thereB s.l.length n h.at_ with
  | true=>rw [if_pos rfl,if_pos rfl,errv_0];exact lay_yes t wd v n h cs lv p q s w h1 h2 h3 h4 hA hn' hs (hq (fun e=>by rw [e] at hn';simp at hn';omega)) ht
  | false =>
   rw [if_neg (by simp),if_neg (by simp),errv_n (by decide)]
   refine (lay_place t wd v n h cs lv p q s w h1 h2 h3 h4 hA hn' hs ht).mono ?_
   rintro e w' ⟨rfl,F⟩
   exact ⟨rfl,hA.kept F,F.mono⟩
theorem rlay_u (t wd v:Int) (n:Nat) (h:Hd) (cs:List Ce) (lv:Value) (p q:Nat) (s:St) (w:World) (h1:1≤n) (h2:n≤16) (h3:n≤s.l.length) (h4:s.l.length≤20000) (hA:Rar w p q s) (hl:cs.length≤1000) (hs:Sq fC w lv cs) (hq:cs≠[]→q∉lv.ownBlock.toList) :
  Calls Tryz.prog 48 #[.agg #[.int .i64 t,.int .i64 n,.int .i64 wd,.int .i64 v],.pointer (some ⟨p,0,none⟩),chV h lv] w fun e w'=>e = .returned (.int .i64 (erL s n h cs))∧Rar w' p q (stL s n h cs)∧Fr [q] w w':=by
 unfold erL stL
 by_cases hn:cs.length≠n
 ·rw [if_pos hn,if_pos hn]
  refine (rlay_form t wd v n h cs lv p q w (by omega) hl hs).mono ?_
  rintro e w' ⟨rfl,F⟩
  exact ⟨rfl,hA.kept F,F.mono⟩
 ·rw [if_neg hn,if_neg hn]
  have hn':cs.length=n:=by omega
  cases ht:thereB s.l.length n h.at_ with
  | true =>
   obtain ⟨an,han⟩:=Int.eq_ofNat_of_zero_le (hdBd ht).1
   rw [if_pos rfl,if_pos rfl];exact rlay_yes t wd v an n h cs lv p q s w h1 h2 h3 h4 hA hn' hs (hq (fun e=>by rw [e] at hn';simp at hn';omega)) han ht
  | false =>
   rw [if_neg (by simp),if_neg (by simp)]
   refine (rlay_place t wd v n h cs lv p q s w h1 h2 h3 h4 hA hn' hs ht).mono ?_
   rintro e w' ⟨rfl,F⟩
   exact ⟨rfl,hA.kept F,F.mono⟩
end Go.Proofs.YtilipdnchflkhaaGreatDoor.Vw
namespace Go.Proofs.YtilipdnchflkhaaGreatDoor.Vw
open Go.RowKit Go.Proofs.YtilipdnchflkhaaGreatDoor.Ar Go.Proofs.YtilipdnchflkhaaGreatDoor.Mx
theorem it_neq (x y:It) (W:World):(binOp .neq 60 (.agg #[.int .i64 x.k,.int .i64 x.v,.int .i64 x.d]) (.agg #[.int .i64 y.k,.int .i64 y.v,.int .i64 y.d])).run Tryz.prog W = .ok (.bool (decide (x≠y))) W:=by
 obtain ⟨k,i,o⟩:=x
 obtain ⟨k',i',o'⟩:=y
 have u3:=Tryz.underlying3
 have a3:(isAgg 3).run Tryz.prog W = .ok false W:=by kernel_rfl
 have hS:Tryz.prog.underlying 60=some (.struct (Tryz.prog.fieldsOf 60)):=by kernel_rfl
 have hp:Tryz.prog.stoodInHeld 60=false:=by kernel_rfl
 rw [run_neq_struct,show (10000:Nat)=9999+1 from rfl,run_equalIn_agg W 9999 60 _ _ hS hp]
 simp only [Program.fieldsOf,Tryz.underlying60]
 go_simp
 by_cases h1:k=k' <;> by_cases h2:i=i' <;> by_cases h3:o=o' <;> simp [h1,h2,h3]
def EqIAt (w:World) (xs ys:List It) (x:Value) (wr:World):Prop:=∃ n:Nat,n≤xs.length∧x = .int .i64 n∧Fr [] w wr∧xs.take n=ys.take n
theorem sameItems_any (xs ys:List It) (u v:Value) (w:World) (hl:xs.length≤1000000) (hl2:ys.length≤1000000) (hx:Sq fT w u xs) (hy:Sq fT w v ys):Calls Tryz.prog 25 #[u,v] w fun e w'=>e = .returned (.bool (decide (xs=ys)))∧Fr [] w w':=by
 obtain ⟨a,cap,rfl,-,hm,-⟩:=id hx
 obtain ⟨a2,cap2,rfl,-,hm2,-⟩:=id hy
 have hG:=itGuard
 go_enter Tryz.func25,Tryz.ntmps25
 by_cases hll:xs.length=ys.length
 ·have hll':(xs.length:Int)=ys.length:=by omega
  have g:((xs.length:Int) != ys.length)=false:=by simp [hll]
  go_wp2_with fail
  clear hll'
  have HL:=Lib.hid hll
  clear hll g
  go_loopw [5] (EqIAt w xs ys) (fun x _=>xs.length - (intOf x).toNat)
  case atStart=>exact ⟨0,Nat.zero_le _,rfl,Fr.refl _ _,rfl⟩
  case round =>
   obtain ⟨n,hn,rfl,Fw,hi⟩:=hrel
   by_cases hlt:n<xs.length
   ·have hlt2:n<ys.length:=by have:=HL.out;omega
    obtain ⟨x,hxn⟩:∃ x,xs[n]? = some x:=⟨xs[n],List.getElem?_eq_getElem hlt⟩
    obtain ⟨y,hyn⟩:∃ y,ys[n]? = some y:=⟨ys[n],List.getElem?_eq_getElem hlt2⟩
    obtain ⟨b,off,rfl,c0,c1,c2⟩:=it_cells (hx.up Fw) hxn
    obtain ⟨b2,off2,rfl,d0,d1,d2⟩:=it_cells (hy.up Fw) hyn
    have k0:=In.cell c0
    have k1:=In.cell c1
    have k2:=In.cell c2
    have l0:=In.cell d0
    have l1:=In.cell d1
    have l2:=In.cell d2
    have hne:=it_neq x y
    obtain ⟨q,hg⟩:∃ q,decide (x≠y)=q:=⟨_,rfl⟩
    rw [hg] at hne
    have HG:=Lib.hid hg
    have HX:=Lib.hid hxn
    have HY:=Lib.hid hyn
    have HI:=Lib.hid hi
    clear c0 c1 c2 d0 d1 d2 hg hxn hyn hi
    go_wp2_with fail
    refine wi ?_
    repeat (go_big_quiet_step (fail))
    refine wpQuiet_nil ?_
    intro w1 F1
    clear k0 k1 k2 l0 l1 l2 hne hG
    cases q with
    | true =>
     go_wp2
     go_ret
     exact ⟨by rw [take_less HX.out HY.out (of_decide_eq_true HG.out)];rfl,Fw.trans F1⟩
    | false =>
     go_wp2
     go_roundw
     case rel=>exact ⟨n+1,by omega,by go_num,Fw.trans F1,take_more HI.out HX.out HY.out (by have:=HG.out;simpa using this)⟩
     case measure=>simp [intOf];omega
   ·obtain rfl:n=xs.length:=by omega
    have HI:=Lib.hid hi
    clear hi
    go_wp2
    go_ret
    exact ⟨by
     have:=HI.out
     rw [List.take_length,HL.out,List.take_length] at this
     rw [decide_eq_true this];rfl,Fw⟩
 ·have g:((xs.length:Int) != ys.length)=true:=by simp;omega
  go_wp2
  go_ret
  exact ⟨by rw [decide_eq_false (fun e=>hll (by rw [e]))];rfl,Fr.refl _ _⟩
end Go.Proofs.YtilipdnchflkhaaGreatDoor.Vw
