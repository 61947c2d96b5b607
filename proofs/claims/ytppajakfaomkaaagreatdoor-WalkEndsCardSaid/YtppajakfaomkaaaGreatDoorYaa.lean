/- Parts. -/
import Derived.BigQuiet
import Derived.Deep.QuietTactic
import Derived.Handy
import Derived.Lib.Hide
import Derived.Test.YtppajakfaomkaaaGreatDoorRows
import Derived.WalkKit
import Derived.WalkLawsBesides
namespace Go.Proofs.YtppajakfaomkaaaGreatDoor
theorem q9 {p:Prop} (h:p):RowKit.Hid p:=Lib.hid h
theorem qc {a b:Prop} (h:a) (k:b):a/\b:=⟨h,k⟩
theorem qd.{u} {c:Prop} {h:Decidable c} (n:¬c) {α:Sort u} {t e:α}:ite c t e=e:=if_neg n
theorem qf.{u} {c:Prop} {h:Decidable c} (n:c) {α:Sort u} {t e:α}:ite c t e=t:=if_pos n
theorem qg.{u} {α:Sort u} {p:α->Prop} (w:α) (h:p w):Exists p:=⟨w,h⟩
theorem qh {n m k:Nat} (h:n<=m) (g:m<=k):n<=k:=Nat.le_trans h g
theorem qi.{u} {α:Type u} {a b:α} (h:some a=some b):a=b:=Option.some.inj h
theorem qj {n m k:Nat} (h:n<m) (g:m<=k):n<k:=Nat.lt_of_lt_of_le h g
end Go.Proofs.YtppajakfaomkaaaGreatDoor
set_option linter.unusedVariables false
set_option linter.unusedSimpArgs false
set_option maxRecDepth 100000
set_option maxHeartbeats 12800000
namespace Go.Proofs.YtppajakfaomkaaaGreatDoor.Ar
open Go.RowKit
structure Fr (S:List Nat) (w w':World):Prop where
 os:w'.os=w.os
 tape:w'.tape=w.tape
 output:w'.output=w.output
 size:w.heap.size<=w'.heap.size
 block:∀ k,k<w.heap.size->k∉S->w'.heap[k]? = w.heap[k]?
theorem Fr.refl (S:List Nat) (w:World):Fr S w w:=⟨rfl,rfl,rfl,Nat.le_refl _,fun _ _ _=>rfl⟩
theorem Fr.trans {S:List Nat} {a b c:World} (h:Fr S a b) (k:Fr S b c):Fr S a c :=
 ⟨k.os.trans h.os,k.tape.trans h.tape,k.output.trans h.output,qh h.size k.size,fun i hi hn=>(k.block i (qj hi h.size) hn).trans (h.block i hi hn)⟩
theorem Fr.mono {S T:List Nat} {a b:World} (h:Fr S a b) (hs:∀ k,k∈S->k∈T:=by simp):Fr T a b :=
 ⟨h.os,h.tape,h.output,h.size,fun i hi hn=>h.block i hi (fun e=>hn (hs i e))⟩
theorem Fr.own {S:List Nat} {a b c:World} (h:Fr [] a b) (k:Fr S b c) (hs:∀ i,i∈S->a.heap.size<=i):Fr [] a c :=
 ⟨k.os.trans h.os,k.tape.trans h.tape,k.output.trans h.output,qh h.size k.size,fun i hi _=>(k.block i (qj hi h.size) (fun e=>Nat.not_le_of_lt hi (hs i e))).trans (h.block i hi (by simp))⟩
theorem Fr.drew {S:List Nat} {a w:World} (h:Fr S a w):Fr S a w.drew:=⟨h.os,h.tape,h.output,h.size,h.block⟩
theorem Fr.heap {S:List Nat} {w w':World} {b:Nat} {o:Obj} (f:Fr S w w') (h:w.heap[b]? = some o) (hn:b∉S):w'.heap[b]? = some o:=(f.block b (Array.getElem?_eq_some_iff.1 h).1 hn).trans h
theorem Fr.below {w w':World} (f:Fr [] w w'):Below w.heap.size w w':=⟨f.os,f.tape,f.output,f.size,fun k hk=>f.block k hk (by simp)⟩
theorem Fr.setCell {S:List Nat} {w:World} {b i:Nat} (v:Value) (h:b∈S):Fr S w (w.setCell ⟨b,i,none⟩ v) :=
 ⟨rfl,rfl,rfl,by simp,fun k _ hn=>heap_setCell_other _ _ _ _ (fun e=>hn (by rw [e];exact h))⟩
theorem Fr.setCell' {S:List Nat} {a w:World} (h:Fr S a w) {b i:Nat} (v:Value) (hb:b∈S):Fr S a (w.setCell ⟨b,i,none⟩ v):=h.trans (Fr.setCell v hb)
theorem Fr.alloc {S:List Nat} {a w:World} (h:Fr S a w) (o:Obj):Fr S a (w.alloc o) :=
 h.trans ⟨rfl,rfl,rfl,by simp,fun k hk _=>heap_alloc_old w o hk⟩
theorem Fr.grown {w w':World} (h:w.grownBy w' none):Fr [] w w':=⟨h.os,h.tape,h.output,h.size,fun k hk _=>h.block k hk (by simp)⟩
theorem Xd {P:Program} {ops:Array Oper} {C:World->Prop} {Q Q':Act->Prop} (h:∀ a,Q a->Q' a):∀ (l:List Oper) (a:Act),wpQuiet P ops C Q l a->wpQuiet P ops C Q' l a
 | [],a,hh=>h a hh
 | o :: rest,a,hh=>by
  unfold wpQuiet at hh ⊢
  split
  ·rename_i hw;rw [qf hw] at hh;exact Oper.quiet_mono (Xd h rest) hh
  ·rename_i hw;rw [qd hw] at hh;exact Xd h rest _ hh
theorem Fr.then {S:List Nat} {a b c:World} (h:Fr S a b) (k:Fr [] b c):Fr S a c:=h.trans (k.mono (by simp))
theorem Fr.cell {S:List Nat} {w w':World} (f:Fr S w w') {b i:Nat} {v:Value} (h:w.cell? ⟨b,i,none⟩=some v) (hn:b∉S):w'.cell? ⟨b,i,none⟩=some v :=
 (World.cell?_of_block (f.block b (World.block_lt_of_cell? w _ h) hn)).trans h
theorem q1w {k:IntKind} {a b:Int} (h:a=b):Ending.returned (.int k a) = .returned (.int k b):=by rw [h]
def In (w:World):Type:={ x:World // Fr [] w x }
def In.at_ {w:World} (s:In w):World:=s.1
theorem In.fr {w:World} (s:In w):Fr [] w s.at_:=s.2
instance (w:World):Nonempty (In w):=⟨⟨w,Fr.refl _ _⟩⟩
theorem qb {w:World} {b i:Nat} {v:Value} (h:w.cell? ⟨b,i,none⟩=some v) (s:In w):s.at_.cell? ⟨b,i,none⟩=some v:=s.fr.cell h (by simp)
theorem Ra {P:Program} {id:Nat} {Q:Exit->Act->World->Prop} {a:Act} {w:World} {l:List Oper} (hm:P.follows .mixedOrders=true) (hB:Region.lexB .any l.toArray=true)
  (h:wpQuiet P l.toArray (fun w'=>∃ s:In w,w'=s.at_) (fun a'=>∀ w',Fr [] w w'->Q .normal a' w') l a):(Code.region id l.toArray true).wp P Q a w :=
 wp_region_quiet (C:=fun w'=>∃ s:In w,w'=s.at_) hm hB ⟨⟨_,(Fr.refl [] w).drew⟩,rfl⟩ (Xd (fun a h w' hw=>by obtain ⟨s,rfl⟩:=hw;exact h _ s.fr) _ _ (by simpa using h))
theorem wiq {P:Program} {id:Nat} {Q:Exit->Act->World->Prop} {a:Act} {w:World} {l:List Oper} (h:wpQuiet P l.toArray (fun w'=>∃ s:In w,w'=s.at_) (fun a'=>∀ w',Fr [] w w'->Q .normal a' w') l a) (hm:P.follows .mixedOrders=true:=by kernel_rfl) (hB:Region.lexB .any l.toArray=true:=by kernel_rfl):(Code.region id l.toArray true).wp P Q a w:=Ra hm hB h
theorem Calls.in_ {P:Program} {f:FuncId} {args:Array Value} {w:World} {s:In w} {v:Value}
  (h:Calls P f args s.at_ fun e w'=>e = .returned v/\Fr [] s.at_ w'):Calls P f args s.at_ fun e w''=>e = .returned v/\∃ s':In w,w''=s'.at_ :=
 h.mono fun _ _ ⟨he,hf⟩=>⟨he,⟨⟨_,s.fr.trans hf⟩,rfl⟩⟩
theorem Calls.in_same {P:Program} {f:FuncId} {args:Array Value} {w:World} {s:In w} {v:Value}
  (h:Calls P f args s.at_ fun e w'=>e = .returned v/\s.at_=w'):Calls P f args s.at_ fun e w''=>e = .returned v/\∃ s':In w,w''=s'.at_ :=
 h.mono fun _ _ ⟨he,hf⟩=>⟨he,⟨s,hf.symm⟩⟩
section
variable {P:Program} {ops:Array Oper} {Q:Exit->Act->World->Prop} {md:Region.Mode} {w0:World} {S:List Nat}
def Env (P:Program) (md:Region.Mode) (ops:Array Oper) (Q:Exit->Act->World->Prop) (S:List Nat) (w0:World):Nat->Array Bool->Act->World->Prop
 | 0,listed,a,w=>∀ w2,Fr [] w w2->Region.ready md ops listed=[]/\Q .normal a w2
 | f+1,listed,a,w=>∀ w2,Fr [] w w2->(Region.ready md ops listed=[]->Q .normal a w2) /\
   ∀ i∈Region.ready md ops listed,wpOp P ops Q i (fun a' w'=>Fr S w0 w'/\Env P md ops Q S w0 f (listed.setIfInBounds i true) a' w') a w2
theorem Env.more {f:Nat} {listed:Array Bool} {a:Act} {w w':World} (h:Env P md ops Q S w0 f listed a w) (g:Fr [] w w'):Env P md ops Q S w0 f listed a w':=by
 cases f with
 | zero=>exact fun w2 h2=>h w2 (g.trans h2)
 | succ f=>exact fun w2 h2=>h w2 (g.trans h2)
theorem Env.sound:∀ (f:Nat) (listed:Array Bool) (a:Act) (w:World),Env P md ops Q S w0 f listed a w->wpAny P md ops Q f listed a w
 | 0,_,_,w,h=>h w (Fr.refl _ _)
 | f+1,_,_,w,h=>⟨(h w (Fr.refl _ _)).1,fun i hi=>wpOp_mono (fun a' w' hh=>Env.sound f _ a' w' hh.2) ((h w (Fr.refl _ _)).2 i hi)⟩
def Ws (P:Program) (ops:Array Oper) (S:List Nat) (w0:World) (o:Oper) (v:Value) (a:Act):Prop :=
 (Region.wanted o (yielded ops a.tmps)=true/\∀ w,Fr S w0 w->∃ u,o.quietAt P a (fun w'=>Fr [] w w') w u/\(o.dst=none\/u=v)) \/
 (Region.wanted o (yielded ops a.tmps)=false/\v=undef)
theorem Zm {a:Act} {d:Option Tmp} {u v:Value} (h:d=none\/u=v):a.put d u=a.put d v:=by
 rcases h with rfl | rfl <;> rfl
theorem Vo {o:Oper} {a:Act} {w:World} {v:Value} {K:Act->World->Prop} (hu:o.quietAt P a (fun w'=>Fr [] w w') w v) (h:∀ w',Fr [] w w'->K (a.put o.dst v) w'):o.wp P a w K Q:=by
 unfold Oper.quietAt at hu
 unfold Oper.wp
 generalize (execOp a.eval o).run P w=r at *
 cases r with
 | ok n w' =>
  cases n <;> simp only [Oper.quietUpon] at hu <;> simp only [Oper.upon]
  case value u=>obtain ⟨e1,e2⟩:=hu;rw [e1,e2];exact h _ (Fr.refl _ _)
  case skip=>obtain ⟨e1,e2⟩:=hu;rw [e1,<- e2];exact h _ (Fr.refl _ _)
  case enter f args=>obtain ⟨e1,hc⟩:=hu;rw [e1];exact hc.mono fun e w'' ⟨he,hw''⟩=>by subst he;exact h _ hw''
 | halt x w'=>simp only [Oper.quietUpon] at hu
theorem Ws.wpOp {i:Nat} {o:Oper} {v:Value} {a:Act} (hi:ops[i]? = some o) (hy:Ws P ops S w0 o v a) {K:Act->World->Prop} {w:World} (hw:Fr S w0 w)
  (h:∀ w',Fr [] w w'->K (a.put o.dst v) w'):wpOp P ops Q i K a w:=by
 unfold Go.wpOp
 simp only [hi]
 rcases hy with ⟨hw1,hv⟩ | ⟨hw1,rfl⟩
 ·simp only [hw1,if_true]
  obtain ⟨u,hu,he⟩:=hv w hw
  exact .inl (Vo hu fun w' hw'=>by rw [Zm he];exact h w' hw')
 ·simp only [hw1,Bool.false_eq_true,if_false];exact h w (Fr.refl _ _)
theorem Ws.of_same {o:Oper} {v:Value} {a a':Act} (hy:Ws P ops S w0 o v a) (he:execOp a'.eval o=execOp a.eval o)
  (hw:Region.wanted o (yielded ops a'.tmps)=Region.wanted o (yielded ops a.tmps)):Ws P ops S w0 o v a':=by
 unfold Ws Oper.quietAt at *
 rw [he,hw];exact hy
theorem Ws.other {j:Nat} {oi oj:Oper} {v:Value} (hj:ops[j]? = some oj) (hap:oi.apart ops oj=true)
  (hsi:∀ cs b,oi.op ≠ .select cs b) (hsj:∀ cs b,oj.op ≠ .select cs b)
  (hQ:∀ c a d v w,Q (.panic c) (a.put d v) w->Q (.panic c) a w) {K:Act->World->Prop} {a:Act} {w:World}
  (hy:Ws P ops S w0 oi v a) (h:Go.wpOp P ops Q j K (a.put oi.dst v) w) :
  Go.wpOp P ops Q j (fun a' w'=>Ws P ops S w0 oi v a'/\K (a'.put oi.dst v) w') a w:=by
 obtain ⟨h1,h2,h3⟩:=Oper.apart_spec hap
 have keep:∀ (a:Act),Ws P ops S w0 oi v a->∀ u,Ws P ops S w0 oi v (a.put oj.dst u):=fun a hy u =>
  hy.of_same (execOp_put oi hsi a oj.dst u h3) (wanted_put oi a oj.dst u h3)
 have keepD:∀ d,Ws P ops S w0 oi v { a with defers:=d :: a.defers }:=fun d=>hy.of_same rfl rfl
 unfold Go.wpOp at *
 simp only [hj] at *
 rw [wanted_put oj a oi.dst v h1] at h
 by_cases hw:Region.wanted oj (yielded ops a.tmps)=true
 ·rw [qf hw] at h ⊢
  refine h.imp (fun h=>?_) (fun ⟨hasks,hlets⟩=>⟨by unfold Oper.asks at *;rw [execOp_put oj hsj a oi.dst v h1] at hasks;exact hasks,hlets⟩)
  unfold Oper.wp at *
  rw [execOp_put oj hsj a oi.dst v h1] at h
  generalize (execOp a.eval oj).run P w=r at *
  cases r with
  | ok n w' =>
   cases n <;> simp only [Oper.upon] at h ⊢
   case value u=>exact ⟨keep a hy u,by rw [<- Act.put_comm a v u h2];exact h⟩
   case skip=>exact ⟨keep a hy _,by rw [<- Act.put_comm a v undef h2];exact h⟩
   case defer d=>exact ⟨keep _ (keepD d) _,by rw [<- Act.put_comm _ v undef h2,<- Act.put_defers];exact h⟩
   case enter f args =>
    refine Calls.mono h fun e w'' he=>?_
    cases e with
    | returned u=>exact ⟨keep a hy u,by rw [<- Act.put_comm a v u h2];exact he⟩
    | panicked c=>exact hQ _ _ _ _ _ he
    | outgrown=>exact he
   case row row args=>exact Rows.mono h fun u w'' he=>⟨keep a hy u,by rw [<- Act.put_comm a v u h2];exact he⟩
  | halt x w' =>
   cases x <;> simp only [Oper.upon] at h ⊢
   case panic u=>exact hQ _ _ _ _ _ h
 ·rw [qd hw] at h ⊢
  exact ⟨keep a hy _,by rw [<- Act.put_comm a v undef h2];exact h⟩
theorem Env.first {i:Nat} {oi:Oper} {v:Value} (hi:ops[i]? = some oi) (hsel:Region.noSelect ops=true)
  (hQ:∀ c a d v w,Q (.panic c) (a.put d v) w->Q (.panic c) a w):∀ (f:Nat) (listed:Array Bool) (a:Act) (w:World),
   (∀ j oj,ops[j]? = some oj->j≠i->listed.getD j true=false->(∀ e∈oj.after,Region.binds md e=true->e.on≠i)->oi.apart ops oj=true) ->
   i∈Region.ready md ops listed->Ws P ops S w0 oi v a->Fr S w0 w ->
   Env P md ops Q S w0 f (listed.setIfInBounds i true) (a.put oi.dst v) w->Env P md ops Q S w0 (f+1) listed a w
 | f,listed,a,w,hfree,hr,hy,hw,H=>fun w2 h2=>by
  refine ⟨fun h=>(by rw [h] at hr;cases hr),fun j hj=>?_⟩
  by_cases hji:j=i
  ·subst hji;exact hy.wpOp hi (hw.then h2) fun w' hw'=>⟨(hw.then h2).then hw',H.more (h2.trans hw')⟩
  ·have hj':=ready_mono (i:=i) hj hji
   cases f with
   | zero=>have:=(H w2 h2).1;rw [this] at hj';cases hj'
   | succ f =>
    have h1:=(H w2 h2).2 j hj'
    obtain ⟨hjun,oj,hoj,hall⟩:=mem_ready.1 hj
    have hnot:∀ e∈oj.after,Region.binds md e=true->e.on≠i:=fun e he hb heq=>by
     have g1:=hall e he hb
     have g0:=(mem_ready.1 hr).1
     rw [heq] at g1
     rcases Nat.lt_or_ge i listed.size with h' | h'
     ·simp [h'] at g0 g1;rw [g0] at g1;cases g1
     ·simp [Array.getElem?_eq_none h'] at g1
    have g2:=hy.other hoj (hfree j oj hoj hji hjun hnot) (fun cs b=>Region.noSelect_spec hsel i oi cs b hi) (fun cs b=>Region.noSelect_spec hsel j oj cs b hoj) hQ h1
    have hfree':∀ k ok,ops[k]? = some ok->k≠i->(listed.setIfInBounds j true).getD k true=false ->
      (∀ e∈ok.after,Region.binds md e=true->e.on≠i)->oi.apart ops ok=true:=fun k ok hk hki hun hno=>by
     refine hfree k ok hk hki ?_ hno
     by_cases hjk:j=k
     ·subst hjk;exact hjun
     ·rw [getD_set_ne true hjk] at hun;exact hun
    refine wpOp_mono (fun a' w' h3=>⟨h3.2.1,Env.first hi hsel hQ f (listed.setIfInBounds j true) a' w' hfree' (ready_mono hr (Ne.symm hji)) h3.1 h3.2.1 ?_⟩) g2
    rw [Array.setIfInBounds_comm _ _ hji]
    exact h3.2.2
def sel:List Bool->List Oper->List Oper
 | true :: m,o :: r=>o :: sel m r
 | false :: m,_ :: r=>sel m r
 | _,_=>[]
def Qd (md:Region.Mode) (ops:Array Oper):Nat->List Bool->Array Bool->Bool
 | k,true :: m,listed=>(Region.ready md ops listed).contains k && Region.free md ops listed k && Qd md ops (k+1) m (listed.setIfInBounds k true)
 | k,false :: m,listed=>Qd md ops (k+1) m listed
 | _,[],_=>true
def Vt:Nat->List Bool->Array Bool->Array Bool
 | k,true :: m,listed=>Vt (k+1) m (listed.setIfInBounds k true)
 | k,false :: m,listed=>Vt (k+1) m listed
 | _,[],listed=>listed
def countB:List Bool->Nat
 | true :: m=>countB m+1
 | false :: m=>countB m
 | []=>0
def Uu (n:Nat):List Oper->Bool
 | []=>true
 | o :: r=>(match o.dst with | some d=>decide (d<n) && r.all fun x=>x.dst != some d | none=>true) && Uu n r
theorem size_put (a:Act) (d:Option Tmp) (v:Value):(a.put d v).tmps.size=a.tmps.size:=by cases d <;> simp [Act.put]
theorem vg {C:World->Prop} {aE:Act} {d:Nat}:∀ (l:List Oper) (a:Act),(l.all fun x=>x.dst != some d)=true->wpQuiet P ops C (fun a'=>a'=aE) l a->aE.tmps[d]? = a.tmps[d]?
 | [],a,_,h=>by rw [show a=aE from h]
 | o :: r,a,hd,h=>by
  simp only [List.all_cons,Bool.and_eq_true] at hd
  have hput:∀ v,(a.put o.dst v).tmps[d]? = a.tmps[d]?:=fun v=>by
   cases ho:o.dst with
   | none=>rfl
   | some e =>
    have hne:e≠d:=fun he=>by subst he;rw [ho] at hd;simp at hd
    simp [Act.put,Array.getElem?_setIfInBounds_ne hne]
  unfold wpQuiet at h
  split at h
  ·obtain ⟨v,_,h2⟩:=h;exact (vg r _ hd.2 h2).trans (hput v)
  ·exact (vg r _ hd.2 h).trans (hput _)
theorem Qf (hs:Region.noSelect ops=true) (hQ:∀ c a d v w,Q (.panic c) (a.put d v) w->Q (.panic c) a w) {aE:Act} {n f:Nat} :
  ∀ (m:List Bool) (L:List Oper) (k:Nat) (listed:Array Bool) (a:Act) (w:World),(∀ j,L[j]? = ops[k+j]?)->Qd md ops k m listed=true->Uu n (sel m L)=true->a.tmps.size=n->Fr S w0 w ->
   (∀ wf,Fr S w0 wf->wpQuiet P ops (fun w'=>∃ s:In wf,w'=s.at_) (fun a'=>a'=aE) (sel m L) a)->Env P md ops Q S w0 f (Vt k m listed) aE w->Env P md ops Q S w0 (f+countB m) listed a w
 | [],L,k,listed,a,w,_,_,_,_,_,h,H=>by
  have h0:a=aE:=by have:=h w0 (Fr.refl _ _);cases L <;> exact this
  subst h0;exact H
 | false :: m,[],k,listed,a,w,hL,hB,hd,hn,hw,h,H=>Qf hs hQ m [] (k+1) listed a w (fun j=>by have:=hL (j+1);simpa [Nat.add_assoc,Nat.add_comm 1 j] using this) hB (by cases m with | nil=>rfl | cons b m=>cases b <;> rfl) hn hw (fun wf hf=>by have:=h wf hf;cases m with | nil=>exact this | cons b m=>cases b <;> exact this) H
 | false :: m,o :: L,k,listed,a,w,hL,hB,hd,hn,hw,h,H=>Qf hs hQ m L (k+1) listed a w (fun j=>by have:=hL (j+1);simpa [Nat.add_assoc,Nat.add_comm 1 j] using this) hB hd hn hw h H
 | true :: m,[],k,listed,a,w,hL,hB,_,_,_,_,_=>by
  exfalso
  simp only [Qd,Bool.and_eq_true] at hB
  have hr:k∈Region.ready md ops listed:=by simpa using hB.1.1
  obtain ⟨_,o,ho,_⟩:=mem_ready.1 hr
  have:=hL 0
  simp [ho] at this
 | true :: m,o :: L,k,listed,a,w,hL,hB,hd,hn,hw,h,H=>by
  have h0:ops[k]? = some o:=by simpa using (hL 0).symm
  simp only [Qd,Bool.and_eq_true] at hB
  obtain ⟨⟨hr,hf⟩,hB'⟩:=hB
  simp only [sel,Uu,Bool.and_eq_true] at hd
  obtain ⟨hd1,hd2⟩:=hd
  -- the value,and what follows
  have key:∃ v,Ws P ops S w0 o v a/\∀ wf,Fr S w0 wf->wpQuiet P ops (fun w'=>∃ s:In wf,w'=s.at_) (fun a'=>a'=aE) (sel m L) (a.put o.dst v):=by
   by_cases hw1:Region.wanted o (yielded ops a.tmps)=true
   ·have h':∀ wf,Fr S w0 wf->o.quiet P a (fun w'=>∃ s:In wf,w'=s.at_) (wpQuiet P ops (fun w'=>∃ s:In wf,w'=s.at_) (fun a'=>a'=aE) (sel m L)):=fun wf hf=>by
     have:=h wf hf
     simp only [sel,wpQuiet] at this
     rwa [qf hw1] at this
    obtain ⟨v,_,hv2⟩:=h' w0 (Fr.refl _ _)
    have same:∀ wf,Fr S w0 wf->∀ u,wpQuiet P ops (fun w'=>∃ s:In wf,w'=s.at_) (fun a'=>a'=aE) (sel m L) (a.put o.dst u)->o.dst=none\/u=v:=fun wf hf u hu=>by
     cases hod:o.dst with
     | none=>exact .inl rfl
     | some d =>
      rw [hod] at hd1 hu hv2
      simp only [Bool.and_eq_true,decide_eq_true_eq] at hd1
      have e1:=vg (sel m L) _ hd1.2 hu
      have e2:=vg (sel m L) _ hd1.2 hv2
      have hlt:d<a.tmps.size:=by rw [hn];exact hd1.1
      rw [e1] at e2
      simp [Act.put,hlt] at e2
      exact .inr e2
    refine ⟨v,.inl ⟨hw1,fun wf hf=>?_⟩,fun wf hf=>?_⟩
    ·obtain ⟨u,hu1,hu2⟩:=h' wf hf
     refine ⟨u,?_,same wf hf u hu2⟩
     have hq:=hu1 wf ⟨⟨wf,Fr.refl _ _⟩,rfl⟩
     unfold Oper.quietAt at hq ⊢
     generalize (execOp a.eval o).run P wf=r at *
     cases r with
     | ok x w' =>
      cases x <;> simp only [Oper.quietUpon] at hq ⊢
      case value=>exact hq
      case skip=>exact hq
      case enter g args=>exact ⟨hq.1,hq.2.mono fun e w'' ⟨he,s,hs⟩=>⟨he,hs ▸ s.fr⟩⟩
     | halt x w'=>exact hq
    ·obtain ⟨u,_,hu2⟩:=h' wf hf
     rw [<- Zm (same wf hf u hu2)];exact hu2
   ·refine ⟨undef,.inr ⟨by simpa using hw1,rfl⟩,fun wf hf=>?_⟩
    have:=h wf hf
    simp only [sel,wpQuiet] at this
    rwa [qd hw1] at this
  obtain ⟨v,hy,hK⟩:=key
  exact Env.first h0 hs hQ (f+countB m) listed a w (Region.free_spec h0 hf) (by simpa using hr) hy hw
   (Qf hs hQ m L (k+1) _ _ w (fun j=>by have:=hL (j+1);simpa [Nat.add_assoc,Nat.add_comm 1 j] using this) hB' hd2 (by rw [size_put];exact hn) hw hK H)
end
section
variable {P:Program} {l:List Oper} {Q:Exit->Act->World->Prop} {w0:World} {S:List Nat}
theorem qy {id:Nat} {a:Act} {w:World} (hm:P.follows .mixedOrders=true) (S:List Nat) (h:∀ w1,Fr [] w w1->Env P .any l.toArray Q S w l.length (Array.replicate l.length false) a w1):(Code.region id l.toArray true).wp P Q a w :=
 wp_region_any hm (by simpa using Env.sound _ _ _ _ (h w.drew (Fr.refl [] w).drew))
theorem Qs (m:List Bool) (f:Nat) {g n:Nat} {listed listed':Array Bool} {a:Act} {w:World} (hf:f+countB m=g) (hs:Region.noSelect l.toArray=true) (hB:Qd .any l.toArray 0 m listed=true)
  (hd:Uu n (sel m l)=true) (hn:a.tmps.size=n) (hl:Vt 0 m listed=listed') (hQ:∀ c a d v w,Q (.panic c) (a.put d v) w->Q (.panic c) a w) (hw:Fr S w0 w)
  (h:∃ aE,(∀ wf,Fr S w0 wf->wpQuiet P l.toArray (fun w'=>∃ s:In wf,w'=s.at_) (fun a'=>a'=aE) (sel m l) a)/\Env P .any l.toArray Q S w0 f listed' aE w):Env P .any l.toArray Q S w0 g listed a w:=by
 subst hf;subst hl
 obtain ⟨aE,h,H⟩:=h
 exact Qf hs hQ m l 0 listed a w (by simp) hB hd hn hw h H
theorem epq (m:List Bool) (f:Nat) {g n:Nat} {listed listed':Array Bool} {a:Act} {w:World} (hw:Fr S w0 w) (h:∃ aE,(∀ wf,Fr S w0 wf->wpQuiet P l.toArray (fun w'=>∃ s:In wf,w'=s.at_) (fun a'=>a'=aE) (sel m l) a)/\Env P .any l.toArray Q S w0 f listed' aE w) (hn:a.tmps.size=n:=by exact rfl) (hl:Vt 0 m listed=listed':=by exact rfl) (hf:f+countB m=g:=by exact rfl) (hs:Region.noSelect l.toArray=true:=by kernel_rfl) (hB:Qd .any l.toArray 0 m listed=true:=by kernel_rfl) (hd:Uu n (sel m l)=true:=by kernel_rfl) (hQ:∀ c a d v w,Q (.panic c) (a.put d v) w->Q (.panic c) a w:=by intro _ _ d _ _ h;cases d <;> exact h):Env P .any l.toArray Q S w0 g listed a w:=Qs m f hf hs hB hd hn hl hQ hw h
def Nx (Q:Exit->Act->World->Prop) (K:Act->World->Prop):Exit->Act->World->Prop
 | .normal,a,w=>K a w
 | e,a,w=>Q e a w
theorem Qt {i:Nat} {o:Oper} {a:Act} {w:World} {K:Act->World->Prop} (ho:l[i]? = some o) (hl:LetsOut (Nx Q K)->LetsOut Q) (h:wpList P l.toArray (Nx Q K) [o] a w):wpOp P l.toArray Q i K a w:=by
 unfold wpOp
 simp only [List.getElem?_toArray,ho]
 simp only [wpList] at h
 split
 ·rename_i hw
  rw [qf hw] at h
  refine h.imp (fun h=>?_) (fun ⟨h1,h2⟩=>⟨h1,hl h2⟩)
  unfold Oper.wp at *
  generalize (execOp a.eval o).run P w=r at *
  cases r with
  | ok n w' =>
   cases n <;> simp only [Oper.upon] at h ⊢ <;> exact h
  | halt x w'=>cases x <;> simp only [Oper.upon] at h ⊢ <;> exact h
 ·rename_i hw
  rw [qd hw] at h
  exact h
theorem Xh {K:Act->World->Prop}:LetsOut (Nx Q K)->LetsOut Q:=fun ⟨a,w,h⟩=>⟨a,w,h⟩
theorem jb (rs:List Nat) {f:Nat} {listed:Array Bool} {a:Act} {w:World} (hr:Region.ready .any l.toArray listed=rs) (hne:rs≠[])
  (h:∀ w2,Fr [] w w2->∀ i∈rs,∀ o,l[i]? = some o->wpList P l.toArray (Nx Q (fun a' w'=>Fr S w0 w'/\Env P .any l.toArray Q S w0 f (listed.setIfInBounds i true) a' w')) [o] a w2):Env P .any l.toArray Q S w0 (f+1) listed a w:=by
 intro w2 h2
 refine ⟨fun h0=>absurd (hr.symm.trans h0) hne,fun i hi=>?_⟩
 have hi':=hi
 rw [hr] at hi'
 obtain ⟨_,o,ho,_⟩:=mem_ready.1 hi
 have ho':l[i]? = some o:=by simpa using ho
 exact Qt ho' Xh (h w2 h2 i hi' o ho')
theorem qa7 (i:Nat) {o:Oper} {f:Nat} {listed listed':Array Bool} {a:Act} {w:World} (hr:Region.ready .any l.toArray listed=[i]) (ho:l[i]? = some o) (hl:listed.setIfInBounds i true=listed')
  (h:∀ w2,Fr [] w w2->wpList P l.toArray (Nx Q (fun a' w'=>Fr S w0 w'/\Env P .any l.toArray Q S w0 f listed' a' w')) [o] a w2):Env P .any l.toArray Q S w0 (f+1) listed a w:=by
 subst hl
 refine jb [i] hr (by simp) fun w2 h2 j hj x hx=>?_
 simp only [List.mem_singleton] at hj
 subst hj
 rw [ho] at hx
 cases hx
 exact h w2 h2
theorem eoq (i:Nat) {o:Oper} {f:Nat} {listed listed':Array Bool} {a:Act} {w:World} (h:∀ w2,Fr [] w w2->wpList P l.toArray (Nx Q (fun a' w'=>Fr S w0 w'/\Env P .any l.toArray Q S w0 f listed' a' w')) [o] a w2) (hl:listed.setIfInBounds i true=listed':=by exact rfl) (hr:Region.ready .any l.toArray listed=[i]:=by kernel_rfl) (ho:l[i]? = some o:=by exact rfl):Env P .any l.toArray Q S w0 (f+1) listed a w:=qa7 i hr ho hl h
theorem zr {f:Nat} {listed:Array Bool} {a:Act} {w:World} (hr:Region.ready .any l.toArray listed=[]) (h:∀ w2,Fr [] w w2->Q .normal a w2):Env P .any l.toArray Q S w0 f listed a w:=by
 cases f with
 | zero=>exact fun w2 h2=>⟨hr,h w2 h2⟩
 | succ f=>exact fun w2 h2=>⟨fun _=>h w2 h2,fun i hi=>by rw [hr] at hi;cases hi⟩
theorem ql {K:Act->World->Prop} {a:Act} {w:World} (h:K a w):Nx Q K .normal a w:=h
end
structure Acc where
 kind:Int
 at_:Int
 old:Int
 new:Int
 ok:Bool
structure St where
 l:List Int
 n:Int
 a:Acc
def inc (n:Int):Int:=wrap64 (n+1)
def Ri (l:List Int) (i:Int):Bool:=decide (0<=i) && decide (i<l.length)
def nth (l:List Int) (k:Nat):Int:=l.getD k 0
def qq (l:List Int) (i:Int):Int:=if Ri l i=true then nth l i.toNat else 0
def yp (l:List Int) (i v:Int):List Int:=if Ri l i=true then l.set i.toNat v else l
theorem q0k {l:List Int} {k:Nat} (h:k<l.length):Ri l k=true:=by simp [Ri];omega
theorem Zj (l:List Int) (i:Int):(∃ k:Nat,i=k/\k<l.length/\Ri l i=true)\/((i<0\/l.length<=i)/\Ri l i=false):=by
 by_cases h:0<=i/\i<l.length
 ·obtain ⟨k,rfl⟩:=Int.eq_ofNat_of_zero_le h.1
  exact .inl ⟨k,rfl,by omega,q0k (by omega)⟩
 ·refine .inr ⟨by omega,?_⟩
  simp only [Ri,Bool.and_eq_false_iff,decide_eq_false_iff_not]
  omega
theorem Rx {l:List Int} {k:Nat} (h:k<l.length):qq l k=nth l k:=by rw [qq,qf (q0k h)];rfl
theorem q65 {l:List Int} {i:Int} (h:Ri l i=false):qq l i=0:=by rw [qq,qd (by simp [h])]
theorem Uj {l:List Int} {k:Nat} (v:Int) (h:k<l.length):yp l k v=l.set k v:=by rw [yp,qf (q0k h)];rfl
theorem q60 {l:List Int} {i:Int} (v:Int) (h:Ri l i=false):yp l i v=l:=by rw [yp,qd (by simp [h])]
theorem xa (l:List Int) (i v:Int):(yp l i v).length=l.length:=by unfold yp;split <;> simp
theorem J8 {l:List Int} {k:Nat} (v:Int) (h:k<l.length) (i:Nat):nth (yp l k v) i=if i=k then v else nth l i:=by
 rw [Uj v h,nth,nth,List.getD_eq_getElem?_getD,List.getElem?_set]
 by_cases e:k=i
 ·subst e;simp [h]
 ·rw [qd e,qd (Ne.symm e),List.getD_eq_getElem?_getD]
def St.note (s:St) (kind i was:Int) (ok:Bool):St:=⟨s.l,inc s.n,⟨kind,i,was,qq s.l i,ok⟩⟩
def St.yp (s:St) (i v:Int):St:=⟨Ar.yp s.l i v,s.n,s.a⟩
def St.load (s:St) (i:Int):St:=s.note 1 i (qq s.l i) false
def St.store (s:St) (i v:Int):St:=(s.yp i v).note 2 i (qq s.l i) false
def St.can (s:St) (i old:Int):Bool:=Ri s.l i && (qq s.l i == old)
def St.swap (s:St) (i old v:Int):St:=if s.can i old=true then (s.yp i v).note 3 i (qq s.l i) true else s.note 3 i (qq s.l i) false
def St.add (s:St) (i v:Int):St:=(s.yp i (wrap64 (qq s.l i+v))).note 4 i (qq s.l i) false
def q5b (s:St) (q cap:Nat):Array Value :=
 #[.int .i64 s.l.length,.slice (some ⟨q,0,none⟩) ((s.l.length+63) / 64) cap,.int .i64 s.n,.int .i64 s.a.kind,.int .i64 s.a.at_,.int .i64 s.a.old,.int .i64 s.a.new,.bool s.a.ok]
structure Ar (w:World) (p q:Nat) (s:St):Prop where
 ne:p≠q
 lo:1<=s.l.length
 hi:s.l.length<=20000
 mem:∃ cap c,w.heap[p]? = some (.cells (q5b s q cap) 127 (0,0))/\(s.l.length+63) / 64<=cap/\cap<=maxLen /\
  w.heap[q]? = some (.cells c 124 (0,0))/\c.size=cap * 64/\(∀ u∈c.toList.take ((s.l.length+63) / 64 * 64),u.oneCell'=true)/\∀ i,i<s.l.length->c[i]? = some (.int .i64 (nth s.l i))
theorem one_set {c:Array Value} {i n:Nat} {v:Value} (h:∀ u∈c.toList.take n,u.oneCell'=true) (hv:v.oneCell'=true):∀ u∈(c.setIfInBounds i v).toList.take n,u.oneCell'=true:=by
 intro u hu
 rw [Array.toList_setIfInBounds,List.take_set] at hu
 rcases List.mem_or_eq_of_mem_set hu with h1 | rfl
 ·exact h u h1
 ·exact hv
theorem Ar.lt {w:World} {p q:Nat} {s:St} (h:Ar w p q s):p<w.heap.size/\q<w.heap.size:=by
 obtain ⟨ne,lo,hi,cap,c,hp,hc1,hc2,hq,hs,hone,hc⟩:=h
 exact ⟨(Array.getElem?_eq_some_iff.1 hp).1,(Array.getElem?_eq_some_iff.1 hq).1⟩
theorem Ar.kept {w w':World} {p q:Nat} {s:St} {S:List Nat} (h:Ar w p q s) (f:Fr S w w') (hp:p∉S:=by simp) (hq:q∉S:=by simp):Ar w' p q s:=by
 have hlt:=h.lt
 obtain ⟨ne,lo,hi,cap,c,h1,h2,h3,h4,h5,h5',h6⟩:=h
 exact ⟨ne,lo,hi,cap,c,(f.block p hlt.1 hp).trans h1,h2,h3,(f.block q hlt.2 hq).trans h4,h5,h5',h6⟩
theorem Uc {k:IntKind} {a b:Int} {w:World} (h:a=b):Ending.returned (.int k a) = .returned (.int k b)/\w=w:=⟨by rw [h],rfl⟩
theorem Wu (w:World) (p q:Nat) (s:St) (k:Nat) (h:Ar w p q s) (hk:k<s.l.length) :
  Calls Tryz.prog 68 #[.pointer (some ⟨p,0,none⟩),.int .i64 k] w fun e w'=>e = .returned (.bool true)/\w=w':=by
 obtain ⟨ne,lo,hi,cap,c,hp,hc1,hc2,hq,hs,hone,hc⟩:=h
 have h0:w.cell? ⟨p,0,none⟩=some (.int .i64 s.l.length):=by rw [cell_of_row w p 0 _ _ _ hp];rfl
 clear hp hq hone hc
 go_enter Tryz.func68,Tryz.ntmps68
 go_wp2
 go_ret
 exact ⟨rfl,rfl⟩
theorem Yb (w:World) (p q:Nat) (s:St) (k:Int) (h:Ar w p q s) (hk:k<0\/s.l.length<=k) :
  Calls Tryz.prog 68 #[.pointer (some ⟨p,0,none⟩),.int .i64 k] w fun e w'=>e = .returned (.bool false)/\w=w':=by
 obtain ⟨ne,lo,hi,cap,c,hp,hc1,hc2,hq,hs,hone,hc⟩:=h
 have h0:w.cell? ⟨p,0,none⟩=some (.int .i64 s.l.length):=by rw [cell_of_row w p 0 _ _ _ hp];rfl
 clear hp hq hone hc
 by_cases hk0:k<0
 ·clear hk
  go_enter Tryz.func68,Tryz.ntmps68
  go_wp2
  go_ret
  exact ⟨rfl,rfl⟩
 ·have hf:decide (k<(s.l.length:Int))=false:=by simp;omega
  have hk1:0<=k:=by omega
  clear hk hk0
  go_enter Tryz.func68,Tryz.ntmps68
  go_wp2
  go_ret
  exact ⟨by simp,rfl⟩
theorem ko (w:World) (p q:Nat) (s:St) (i:Int) (h:Ar w p q s) :
  Calls Tryz.prog 19 #[.pointer (some ⟨p,0,none⟩),.int .i64 i] w fun e w'=>e = .returned (.int .i64 (qq s.l i))/\w=w':=by
 have h':=h
 obtain ⟨ne,lo,hi,cap,c,hp,hc1,hc2,hq,hs,hone,hc⟩:=h
 have h0:w.cell? ⟨p,1,none⟩=some (.slice (some ⟨q,0,none⟩) ((s.l.length+63) / 64) cap):=by rw [cell_of_row w p 1 _ _ _ hp];rfl
 rcases Zj s.l i with ⟨k,rfl,hk,e⟩ | ⟨hk,e⟩
 ·have h1:w.cell? ⟨q,k / 64 * 64+k % 64,none⟩=some (.int .i64 (nth s.l k)):=by rw [cell_of_row w q _ _ _ _ hq,show k / 64 * 64+k % 64=k by omega];exact hc k hk
  rw [Rx hk]
  clear hp hq hone hc e
  go_enter Tryz.func19,Tryz.ntmps19
  go_wp2_with (go_at_call 68;refine (Wu _ p q s k h' hk).mono ?_;rintro e w' ⟨rfl,rfl⟩)
  go_ret
  exact ⟨rfl,rfl⟩
 ·rw [q65 e]
  clear hp hq hone hc e
  go_enter Tryz.func19,Tryz.ntmps19
  go_wp2_with (go_at_call 68;refine (Yb _ p q s i h' hk).mono ?_;rintro e w' ⟨rfl,rfl⟩)
  go_ret
  exact ⟨rfl,rfl⟩
theorem Qe (w:World) (p q:Nat) (s:St) (i v:Int) (h:Ar w p q s) :
  Calls Tryz.prog 27 #[.pointer (some ⟨p,0,none⟩),.int .i64 i,.int .i64 v] w fun e w'=>e = .returned (.tuple #[])/\Ar w' p q (s.yp i v)/\Fr [q] w w':=by
 have h':=h
 obtain ⟨ne,lo,hi,cap,c,hp,hc1,hc2,hq,hs,hone,hc⟩:=h
 have h0:w.cell? ⟨p,1,none⟩=some (.slice (some ⟨q,0,none⟩) ((s.l.length+63) / 64) cap):=by rw [cell_of_row w p 1 _ _ _ hp];rfl
 rcases Zj s.l i with ⟨k,rfl,hk,e⟩ | ⟨hk,e⟩
 ·have h1:w.cell? ⟨q,k / 64 * 64+k % 64,none⟩=some (.int .i64 (nth s.l k)):=by rw [cell_of_row w q _ _ _ _ hq,show k / 64 * 64+k % 64=k by omega];exact hc k hk
  have h2:w.frozen? ⟨q,k / 64 * 64+k % 64,none⟩=false:=frozen_of_row _ _ _ _ _ hq
  have A1:Ar (w.setCell ⟨q,k / 64 * 64+k % 64,none⟩ (.int .i64 v)) p q (s.yp k v):=by
   refine ⟨ne,by simp [St.yp,xa];exact lo,by simp [St.yp,xa];exact hi,cap,_,?_,by simpa [St.yp,xa] using hc1,hc2,heap_setCell_same _ _ _ _ _ _ hq,by simpa using hs,by simp only [St.yp,xa];exact one_set hone rfl,?_⟩
   ·rw [heap_setCell_other _ _ _ _ ne];simpa [q5b,St.yp,xa] using hp
   ·intro j hj
    rw [show k / 64 * 64+k % 64=k by omega]
    simp only [St.yp,xa] at hj
    simp only [St.yp,Uj v hk,Array.getElem?_setIfInBounds,hc j hj,nth,List.getD_eq_getElem?_getD,List.getElem?_set]
    split
    ·rename_i hkj;subst hkj
     rw [qf (by rw [hs];omega)];rfl
    ·rfl
  have F1:Fr [q] w (w.setCell ⟨q,k / 64 * 64+k % 64,none⟩ (.int .i64 v)):=Fr.setCell _ (by simp)
  clear hp hq hone hc e
  go_enter Tryz.func27,Tryz.ntmps27
  go_wp2_with (go_at_call 68;refine (Wu _ p q s k h' hk).mono ?_;rintro e w' ⟨rfl,rfl⟩)
  go_end0
  exact ⟨rfl,A1,F1⟩
 ·have A1:Ar w p q (s.yp i v):=by rw [show s.yp i v=s by simp [St.yp,q60 v e]];exact h'
  clear hp hq hone hc e
  go_enter Tryz.func27,Tryz.ntmps27
  go_wp2_with (go_at_call 68;refine (Yb _ p q s i h' hk).mono ?_;rintro e w' ⟨rfl,rfl⟩)
  go_end0
  exact ⟨rfl,A1,Fr.refl _ _⟩
theorem Z0 (w:World) (p q:Nat) (s:St) (kind i was:Int) (ok:Bool) (h:Ar w p q s) :
  Calls Tryz.prog 140 #[.pointer (some ⟨p,0,none⟩),.int .i64 kind,.int .i64 i,.int .i64 was,.bool ok] w fun e w'=>e = .returned (.tuple #[])/\Ar w' p q (s.note kind i was ok)/\Fr [p] w w':=by
 have h':=h
 obtain ⟨ne,lo,hi,cap,c,hp,hc1,hc2,hq,hs,hone,hc⟩:=h
 have h2:w.cell? ⟨p,2,none⟩=some (.int .i64 s.n):=by rw [cell_of_row w p 2 _ _ _ hp];rfl
 have h3:w.cell? ⟨p,3,none⟩=some (.int .i64 s.a.kind):=by rw [cell_of_row w p 3 _ _ _ hp];rfl
 have h4:w.cell? ⟨p,4,none⟩=some (.int .i64 s.a.at_):=by rw [cell_of_row w p 4 _ _ _ hp];rfl
 have h5:w.cell? ⟨p,5,none⟩=some (.int .i64 s.a.old):=by rw [cell_of_row w p 5 _ _ _ hp];rfl
 have h6:w.cell? ⟨p,6,none⟩=some (.int .i64 s.a.new):=by rw [cell_of_row w p 6 _ _ _ hp];rfl
 have h7:w.cell? ⟨p,7,none⟩=some (.bool s.a.ok):=by rw [cell_of_row w p 7 _ _ _ hp];rfl
 have hf:∀ j,w.frozen? ⟨p,j,none⟩=false:=fun j=>frozen_of_row _ _ _ _ _ hp
 have hf2:=hf 2
 have hf3:=hf 3
 have hf4:=hf 4
 have hf5:=hf 5
 have hf6:=hf 6
 have hf7:=hf 7
 have A1:Ar (w.setCell ⟨p,2,none⟩ (.int .i64 (wrap64 (s.n+1)))) p q ⟨s.l,inc s.n,s.a⟩:=by
  refine ⟨ne,lo,hi,cap,c,heap_setCell_same _ _ _ _ _ _ hp,hc1,hc2,?_,hs,hone,hc⟩
  rw [heap_setCell_other _ _ _ _ (Ne.symm ne)];exact hq
 have A2:Ar ((((((w.setCell ⟨p,2,none⟩ (.int .i64 (wrap64 (s.n+1)))).setCell ⟨p,3,none⟩ (.int .i64 kind)).setCell ⟨p,4,none⟩ (.int .i64 i)).setCell ⟨p,5,none⟩ (.int .i64 was)).setCell ⟨p,6,none⟩ (.int .i64 (qq s.l i))).setCell ⟨p,7,none⟩ (.bool ok)) p q (s.note kind i was ok):=by
  refine ⟨ne,lo,hi,cap,c,heap_setCell_same _ _ _ _ _ _ (heap_setCell_same _ _ _ _ _ _ (heap_setCell_same _ _ _ _ _ _ (heap_setCell_same _ _ _ _ _ _ (heap_setCell_same _ _ _ _ _ _ (heap_setCell_same _ _ _ _ _ _ hp))))),hc1,hc2,?_,hs,hone,hc⟩
  repeat rw [heap_setCell_other _ _ _ _ (Ne.symm ne)]
  exact hq
 have F2:Fr [p] w ((((((w.setCell ⟨p,2,none⟩ (.int .i64 (wrap64 (s.n+1)))).setCell ⟨p,3,none⟩ (.int .i64 kind)).setCell ⟨p,4,none⟩ (.int .i64 i)).setCell ⟨p,5,none⟩ (.int .i64 was)).setCell ⟨p,6,none⟩ (.int .i64 (qq s.l i))).setCell ⟨p,7,none⟩ (.bool ok)) :=
  (((((Fr.setCell _ (by simp)).setCell' _ (by simp)).setCell' _ (by simp)).setCell' _ (by simp)).setCell' _ (by simp)).setCell' _ (by simp)
 clear hf hp hq hone hc
 go_enter Tryz.func140,Tryz.ntmps140
 go_wp2_with fail
 go_wp2_with (go_at_call 19;refine (ko _ p q _ i A1).mono ?_;rintro e w' ⟨rfl,rfl⟩)
 go_end0
 exact ⟨rfl,A2,F2⟩
theorem zi (w:World) (p q:Nat) (s:St) (i:Int) (h:Ar w p q s) :
  Calls Tryz.prog 96 #[.pointer (some ⟨p,0,none⟩),.int .i64 i] w fun e w'=>e = .returned (.int .i64 (qq s.l i))/\Ar w' p q (s.load i)/\Fr [p,q] w w':=by
 go_enter Tryz.func96,Tryz.ntmps96
 go_wp2_with (go_at_call 19;refine (ko _ p q _ i h).mono ?_;rintro e w' ⟨rfl,rfl⟩)
 refine (Z0 _ p q s 1 i (qq s.l i) false h).mono ?_;rintro e w' ⟨rfl,A1,F1⟩
 go_wp2
 go_ret
 exact ⟨rfl,A1,F1.mono⟩
theorem len_any (w:World) (p q:Nat) (s:St) (h:Ar w p q s) :
  Calls Tryz.prog 60 #[.pointer (some ⟨p,0,none⟩)] w fun e w'=>e = .returned (.int .i64 s.l.length)/\w=w':=by
 obtain ⟨ne,lo,hi,cap,c,hp,hc1,hc2,hq,hs,hone,hc⟩:=h
 have h0:w.cell? ⟨p,0,none⟩=some (.int .i64 s.l.length):=by rw [cell_of_row w p 0 _ _ _ hp];rfl
 clear hp hq hone hc
 go_enter Tryz.func60,Tryz.ntmps60
 go_wp2
 go_ret
 exact ⟨rfl,rfl⟩
theorem Zy (w:World) (p q:Nat) (s:St) (h:Ar w p q s) :
  Calls Tryz.prog 23 #[.pointer (some ⟨p,0,none⟩)] w fun e w'=>e = .returned (.int .i64 s.n)/\w=w':=by
 obtain ⟨ne,lo,hi,cap,c,hp,hc1,hc2,hq,hs,hone,hc⟩:=h
 have h0:w.cell? ⟨p,2,none⟩=some (.int .i64 s.n):=by rw [cell_of_row w p 2 _ _ _ hp];rfl
 clear hp hq hone hc
 go_enter Tryz.func23,Tryz.ntmps23
 go_wp2
 go_ret
 exact ⟨rfl,rfl⟩
def Acc.val (a:Acc):Value:=.agg #[.int .i64 a.kind,.int .i64 a.at_,.int .i64 a.old,.int .i64 a.new,.bool a.ok]
theorem q1n (w:World) (p q:Nat) (s:St) (h:Ar w p q s) :
  Calls Tryz.prog 28 #[.pointer (some ⟨p,0,none⟩)] w fun e w'=>e = .returned s.a.val/\Fr [] w w':=by
 obtain ⟨ne,lo,hi,cap,c,hp,hc1,hc2,hq,hs,hone,hc⟩:=h
 have h3:w.cell? ⟨p,3,none⟩=some (.int .i64 s.a.kind):=by rw [cell_of_row w p 3 _ _ _ hp];rfl
 have h4:w.cell? ⟨p,4,none⟩=some (.int .i64 s.a.at_):=by rw [cell_of_row w p 4 _ _ _ hp];rfl
 have h5:w.cell? ⟨p,5,none⟩=some (.int .i64 s.a.old):=by rw [cell_of_row w p 5 _ _ _ hp];rfl
 have h6:w.cell? ⟨p,6,none⟩=some (.int .i64 s.a.new):=by rw [cell_of_row w p 6 _ _ _ hp];rfl
 have h7:w.cell? ⟨p,7,none⟩=some (.bool s.a.ok):=by rw [cell_of_row w p 7 _ _ _ hp];rfl
 have hlt:p<w.heap.size:=(Array.getElem?_eq_some_iff.1 hp).1
 clear hp hq hone hc
 go_enter Tryz.func28,Tryz.ntmps28
 go_wp2
 exact bodyPost_ret (v:=s.a.val) (by simp [results,Tryz.results28,go_sem,Acc.val]) rfl ⟨rfl,(Fr.refl _ _).alloc _⟩
def St.fresh (n:Nat):St:=⟨List.replicate n 0,0,⟨0,0,0,0,false⟩⟩
def Made (w:World) (s:St) (e:Ending) (w':World):Prop:=∃ p q,e = .returned (.pointer (some ⟨p,0,none⟩))/\w.heap.size<=p/\w.heap.size<=q/\Ar w' p q s/\Fr [] w w'
def Kk:Value:=.agg (Array.replicate 64 (.int .i64 0))
theorem q7x:(Tryz.prog.info? 124).map (fun i=>(i.zero,i.size,i.bytes))=some (some Kk,64,512):=by kernel_rfl
theorem K8 (n:Nat):∀ j,j<n->(madeCells Kk.cells n).toList[j]? = some (.int .i64 0):=by
 intro j hj
 have h:j % 64<64:=Nat.mod_lt _ (by decide)
 simp [madeCells,Kk,Value.cells,hj]
 rw [getElem!_pos _ _ (by simpa using h)]
 simp
theorem q7d (n:Nat):∀ u∈(madeCells Kk.cells n).toList,u.oneCell'=true:=by
 intro u hu
 obtain ⟨j,hj,rfl⟩:=List.getElem_of_mem hu
 have h:=K8 n j (by simpa [madeCells] using hj)
 rw [List.getElem?_eq_getElem hj] at h
 rw [qi h];rfl
theorem q07 {w w1:World} (n:Nat) (lo:1<=n) (hi:n<=20000) (hown:w1.ownsRow 0 124 64 (.slice (some ⟨w.heap.size,0,none⟩) ((n+63) / 64) ((n+63) / 64)) ((n+63) / 64) (madeCells Kk.cells ((n+63) / 64 * 64)).toList) (hg:w.grownBy w1 none) (hne:w.heap.size<w1.heap.size) :
  Made w (St.fresh n) (.returned (.pointer (some ⟨w1.heap.size,0,none⟩))) (w1.alloc (.cells #[.int .i64 n,.slice (some ⟨w.heap.size,0,none⟩) ((n+63) / 64) ((n+63) / 64),.int .i64 0,.int .i64 0,.int .i64 0,.int .i64 0,.int .i64 0,.bool false] 127)):=by
 refine ⟨w1.heap.size,w.heap.size,rfl,by omega,Nat.le_refl _,?_,(Fr.grown hg).alloc _⟩
 obtain ⟨h1,h2⟩:=hown
 rcases h2 with ⟨h2,_⟩ | ⟨g,cap,cur,hv,-,hh,hc1,hc2,hsz,htk⟩
 ·cases h2
 ·simp only [Value.slice.injEq,Option.some.injEq,Addr.mk.injEq] at hv
  obtain ⟨⟨rfl,-,-⟩,-,rfl⟩:=hv
  refine ⟨by omega,by simpa [St.fresh] using lo,by simpa [St.fresh] using hi,(n+63) / 64,cur,?_,by simp [St.fresh],hc2,?_,hsz,?_,?_⟩
  ·rw [Go.heap_alloc_new];simp [q5b,St.fresh]
  ·rw [heap_alloc_old _ _ hne];exact hh
  ·have e0:cur.toList=(madeCells Kk.cells ((n+63) / 64 * 64)).toList:=by rw [<- htk,List.take_of_length_le (by simp [hsz])]
   intro u hu;exact q7d _ u (e0 ▸ List.mem_of_mem_take hu)
  ·intro i hi'
   simp only [St.fresh,List.length_replicate] at hi'
   have e1:cur.toList[i]? = (madeCells Kk.cells ((n+63) / 64 * 64)).toList[i]?:=by
    rw [<- htk,List.getElem?_take_of_lt (by omega)]
   rw [K8 _ _ (by omega)] at e1
   rw [Array.getElem?_toList] at e1
   rw [e1,nth,St.fresh,List.getD_eq_getElem?_getD,List.getElem?_replicate,qf hi']
   rfl
theorem q28 {w1:World} {b:Nat} {E:TypeId} {sz g n cap k:Nat} {xs:List Value} (h:w1.ownsRow b E sz (.slice (some ⟨g,0,none⟩) n cap) k xs):g<w1.heap.size:=by
 rcases h.2 with ⟨h,_⟩ | ⟨g,_,_,hv,_,hh,_⟩
 ·cases h
 ·cases hv;exact (Array.getElem?_eq_some_iff.1 hh).1
theorem q1r (n:Nat) (i:Int) (lo:1<=n) (hi:n<=20000) (hn:(i<1/\n=1)\/(1<=i/\i<=20000/\i=n)\/(20000<i/\n=20000)) (w:World) :
  Calls Tryz.prog 67 #[.int .i64 i] w (Made w (St.fresh n)):=by
 obtain ⟨i0,h0,hz0,hz1,hz2⟩:=info_parts q7x
 rcases hn with ⟨h1,rfl⟩ | ⟨h1,h2,rfl⟩ | ⟨h1,rfl⟩
 ·go_enter Tryz.func67,Tryz.ntmps67
  go_wp2_with (at_make;refine wpList_make_full _ rfl _ _ 125 rfl 0 124 i0 Kk 64 Tryz.underlying125 h0 hz0 hz1 _ _ _ _ 1 rfl rfl rfl rfl (by rw [hz2];decide) (by decide) (Nat.zero_le _) ?_;intro w1 hown hg;have hM:=q07 1 lo hi hown hg (q28 hown);clear hown)
  go_ret
  exact hM
 ·have e1:((n:Int)+64 - 1) / 64=(((n+63) / 64:Nat):Int):=by omega
  go_enter Tryz.func67,Tryz.ntmps67
  go_wp2_with (at_make;refine wpList_make_full _ rfl _ _ 125 rfl 0 124 i0 Kk 64 Tryz.underlying125 h0 hz0 hz1 _ _ _ _ ((n+63) / 64) rfl rfl e1 e1 (by rw [hz2];omega) (by unfold maxLen;omega) (Nat.zero_le _) ?_;intro w1 hown hg;have hM:=q07 n lo hi hown hg (q28 hown);clear hown)
  go_ret
  exact hM
 ·go_enter Tryz.func67,Tryz.ntmps67
  go_wp2_with (at_make;refine wpList_make_full _ rfl _ _ 125 rfl 0 124 i0 Kk 64 Tryz.underlying125 h0 hz0 hz1 _ _ _ _ 313 rfl rfl rfl rfl (by rw [hz2];decide) (by decide) (Nat.zero_le _) ?_;intro w1 hown hg;have hM:=q07 20000 lo hi hown hg (q28 hown);clear hown)
  go_ret
  exact hM
end Go.Proofs.YtppajakfaomkaaaGreatDoor.Ar
namespace Go.Proofs.YtppajakfaomkaaaGreatDoor.Pl
open Go.RowKit Ar
theorem q8e (t c wd:Int) (w:World) :
  Calls Tryz.prog 61 #[.int .i64 t,.int .i64 c,.int .i64 wd] w fun e w'=>e = .returned (.agg #[.int .i64 t,.int .i64 c,.int .i64 wd,.int .i64 1000])/\Fr [] w w':=by
 go_enter Tryz.func61,Tryz.ntmps61
 go_wp2
 exact bodyPost_ret (v:=.agg #[.int .i64 t,.int .i64 c,.int .i64 wd,.int .i64 1000]) (by simp [results,Tryz.results61,go_sem]) rfl ⟨rfl,(Fr.refl _ _).alloc _⟩
theorem Xl (t c wd v:Int) (h1:1<=c) (h2:c<=16) (w:World) :
  Calls Tryz.prog 180 #[.agg #[.int .i64 t,.int .i64 c,.int .i64 wd,.int .i64 v]] w fun e w'=>e = .returned (.int .i64 (7+3 * c))/\Fr [] w w':=by
 go_enter Tryz.func180,Tryz.ntmps180
 go_wp2
 go_ret
 exact ⟨rfl,(Fr.refl _ _).alloc _⟩
theorem jw (t:Int) (h1:0<=t) (h2:t<=8) (w:World) :
  Calls Tryz.prog 174 #[.int .i64 t] w fun e w'=>e = .returned (.int .i64 (3+t))/\w=w':=by
 go_enter Tryz.func174,Tryz.ntmps174
 go_wp2
 go_ret
 exact ⟨rfl,rfl⟩
theorem Vx (t c wd v:Int) (h1:1<=t) (h2:t<=8) (w:World) :
  Calls Tryz.prog 136 #[.agg #[.int .i64 t,.int .i64 c,.int .i64 wd,.int .i64 v]] w fun e w'=>e = .returned (.int .i64 (3+t))/\Fr [] w w':=by
 go_enter Tryz.func136,Tryz.ntmps136
 go_wp2_with (go_at_call 174;refine (jw _ (by omega) h2 _).mono ?_;rintro e w' ⟨rfl,rfl⟩)
 go_ret
 exact ⟨rfl,(Fr.refl _ _).alloc _⟩
theorem Q5 (t c wd v:Int) (h1:1<=t) (h2:t<=8) (w:World) :
  Calls Tryz.prog 94 #[.agg #[.int .i64 t,.int .i64 c,.int .i64 wd,.int .i64 v]] w fun e w'=>e = .returned (.int .i64 (3+t+4))/\Fr [] w w':=by
 go_enter Tryz.func94,Tryz.ntmps94
 go_wp2_with fail
 refine (Vx t c wd v h1 h2 _).mono ?_;rintro e w1 ⟨rfl,F1⟩
 have G:=((Fr.refl [] w).alloc _).trans F1
 clear F1
 go_wp2
 go_ret
 exact ⟨rfl,G⟩
theorem Zi (t c wd v:Int) (h1:1<=t) (h2:t<=8) (w:World) :
  Calls Tryz.prog 92 #[.agg #[.int .i64 t,.int .i64 c,.int .i64 wd,.int .i64 v]] w fun e w'=>e = .returned (.int .i64 (3+t+4+7))/\Fr [] w w':=by
 go_enter Tryz.func92,Tryz.ntmps92
 go_wp2_with fail
 refine (Q5 t c wd v h1 h2 _).mono ?_;rintro e w1 ⟨rfl,F1⟩
 have G:=((Fr.refl [] w).alloc _).trans F1
 clear F1
 go_wp2
 go_ret
 exact ⟨rfl,G⟩
theorem yf {w:World} {b:Nat} {t:TypeId} {x0 x1 x2 x3:Value} (h:w.heap[b]? = some (.cells #[x0,x1,x2,x3] t (0,0))) :
  w.cell? ⟨b,0,none⟩=some x0/\w.cell? ⟨b,1,none⟩=some x1/\w.cell? ⟨b,2,none⟩=some x2/\w.cell? ⟨b,3,none⟩=some x3 :=
 ⟨by rw [cell_of_row _ _ _ _ _ _ h];rfl,by rw [cell_of_row _ _ _ _ _ _ h];rfl,by rw [cell_of_row _ _ _ _ _ _ h];rfl,by rw [cell_of_row _ _ _ _ _ _ h];rfl⟩
theorem Jt (t c wd v:Int) (h1:1<=t) (h2:t<=8) (h3:1<=c) (h4:c<=16) (w:World) :
  Calls Tryz.prog 156 #[.agg #[.int .i64 t,.int .i64 c,.int .i64 wd,.int .i64 v]] w fun e w'=>e = .returned (.int .i64 (21+t+3 * c))/\Fr [] w w':=by
 go_enter Tryz.func156,Tryz.ntmps156
 go_wp2_with fail
 obtain ⟨c0,c1,c2,c3⟩:=yf (Go.heap_alloc_new w (.cells #[.int .i64 t,.int .i64 c,.int .i64 wd,.int .i64 v] 23))
 have k0:=qb c0
 have k1:=qb c1
 have k2:=qb c2
 have k3:=qb c3
 clear c0 c1 c2 c3
 refine wiq ?_
 repeat (go_big_quiet_step ((first | (go_at_call 92;exact Calls.in_ (Zi _ _ _ _ h1 h2 _)) | (go_at_call 180;exact Calls.in_ (Xl _ _ _ _ h3 h4 _)))))
 refine wpQuiet_nil ?_
 intro w1 F1
 go_wp2
 go_ret
 exact ⟨q1w (by omega),((Fr.refl [] w).alloc _).trans F1⟩
theorem X8 (a i:Int) (h1:0<=a) (h2:a<=1000000) (h3:0<=i) (h4:i<=1000) (w:World) :
  Calls Tryz.prog 100 #[.int .i64 a,.int .i64 i] w fun e w'=>e = .returned (.int .i64 (a+7+3 * i))/\w=w':=by
 go_enter Tryz.func100,Tryz.ntmps100
 go_wp2
 go_ret
 exact ⟨rfl,rfl⟩
theorem Ja (t c wd v k:Int) (h1:1<=t) (h2:t<=8) (h3:0<=k) (h4:k<=63) (w:World) :
  Calls Tryz.prog 93 #[.agg #[.int .i64 t,.int .i64 c,.int .i64 wd,.int .i64 v],.int .i64 k] w fun e w'=>e = .returned (.int .i64 (3+t+k / 16))/\Fr [] w w':=by
 go_enter Tryz.func93,Tryz.ntmps93
 go_wp2_with fail
 refine (Vx t c wd v h1 h2 _).mono ?_;rintro e w1 ⟨rfl,F1⟩
 have G:=((Fr.refl [] w).alloc _).trans F1
 clear F1
 go_wp2
 go_ret
 exact ⟨rfl,G⟩
theorem jr (n a b:Int) (h1:a<=n) (h2:n<=b) (w:World) :
  Calls Tryz.prog 155 #[.int .i64 n,.int .i64 a,.int .i64 b] w fun e w'=>e = .returned (.bool true)/\w=w':=by
 go_enter Tryz.func155,Tryz.ntmps155
 go_wp2
 go_ret
 exact ⟨rfl,rfl⟩
theorem Qu (n a b:Int) (h:n<a\/b<n) (w:World) :
  Calls Tryz.prog 155 #[.int .i64 n,.int .i64 a,.int .i64 b] w fun e w'=>e = .returned (.bool false)/\w=w':=by
 by_cases h1:n<a
 ·clear h
  go_enter Tryz.func155,Tryz.ntmps155
  go_wp2
  go_ret
  exact ⟨rfl,rfl⟩
 ·have h2:b<n:=by omega
  have h3:a<=n:=by omega
  have hf:decide (n<=b)=false:=by simp;omega
  clear h h1 h2
  go_enter Tryz.func155,Tryz.ntmps155
  go_wp2
  go_ret
  exact ⟨rfl,rfl⟩
def qdb (n:Int):Value:=if n=0 then .nilIface else .iface 200 (.int .i64 n)
def form (t c wd v:Int):Bool:=decide (1<=t) && decide (t<=8) && decide (t+2<=c) && decide (c<=16) && decide (1<=v) && decide (v<=1048576) && decide (1<=wd) && decide (wd<=20000)
def code (t c wd v:Int):Int:=if form t c wd v=true then (if 21+t+3 * c<=wd then 0 else 14) else 10
theorem Zq {t c wd v:Int}:form t c wd v=true↔(1<=t/\t<=8/\t+2<=c/\c<=16/\1<=v/\v<=1048576/\1<=wd/\wd<=20000):=by
 simp only [form,Bool.and_eq_true,decide_eq_true_eq,and_assoc]
theorem qbd (t c wd v:Int) (h:t<1\/8<t\/c<t+2\/16<c\/v<1\/1048576<v\/wd<1\/20000<wd) (w:World) :
  Calls Tryz.prog 114 #[.agg #[.int .i64 t,.int .i64 c,.int .i64 wd,.int .i64 v]] w fun e w'=>e = .returned (.iface 200 (.int .i64 10))/\Fr [] w w':=by
 by_cases hh:t<1\/8<t
 ·clear h
  have F:=Qu t 1 8 hh
  have H:=q9 F
  clear F hh
  go_enter Tryz.func114,Tryz.ntmps114
  go_wp2_with fail
  refine (H.out _).mono ?_;rintro e w1 ⟨rfl,rfl⟩
  go_wp2
  go_ret
  exact ⟨rfl,(Fr.refl _ _).alloc _⟩
 ·have T:=q9 (jr t 1 8 (by omega) (by omega))
  have t1:1<=t:=by omega
  have t2:t<=8:=by omega
  by_cases hc:c<t+2\/16<c
  ·have H:=q9 (Qu c (t+2) 16 hc)
   clear h hh hc
   go_enter Tryz.func114,Tryz.ntmps114
   go_wp2_with fail
   refine (T.out _).mono ?_;rintro e w1 ⟨rfl,rfl⟩
   go_wp2_with fail
   refine (H.out _).mono ?_;rintro e w1 ⟨rfl,rfl⟩
   go_wp2
   go_ret
   exact ⟨rfl,(Fr.refl _ _).alloc _⟩
  ·have C:=q9 (jr c (t+2) 16 (by omega) (by omega))
   by_cases hv:v<1\/1048576<v
   ·have H:=q9 (Qu v 1 1048576 hv)
    clear h hh hc hv
    go_enter Tryz.func114,Tryz.ntmps114
    go_wp2_with fail
    refine (T.out _).mono ?_;rintro e w1 ⟨rfl,rfl⟩
    go_wp2_with fail
    refine (C.out _).mono ?_;rintro e w1 ⟨rfl,rfl⟩
    go_wp2_with fail
    refine (H.out _).mono ?_;rintro e w1 ⟨rfl,rfl⟩
    go_wp2
    go_ret
    exact ⟨rfl,(Fr.refl _ _).alloc _⟩
   ·have V:=q9 (jr v 1 1048576 (by omega) (by omega))
    have H:=q9 (Qu wd 1 20000 (by omega))
    clear h hh hc hv
    go_enter Tryz.func114,Tryz.ntmps114
    go_wp2_with fail
    refine (T.out _).mono ?_;rintro e w1 ⟨rfl,rfl⟩
    go_wp2_with fail
    refine (C.out _).mono ?_;rintro e w1 ⟨rfl,rfl⟩
    go_wp2_with fail
    refine (V.out _).mono ?_;rintro e w1 ⟨rfl,rfl⟩
    go_wp2_with fail
    refine (H.out _).mono ?_;rintro e w1 ⟨rfl,rfl⟩
    go_wp2
    go_ret
    exact ⟨rfl,(Fr.refl _ _).alloc _⟩
theorem qbj (t c wd v:Int) (h:form t c wd v=true) (w:World) :
  Calls Tryz.prog 114 #[.agg #[.int .i64 t,.int .i64 c,.int .i64 wd,.int .i64 v]] w fun e w'=>e = .returned (qdb (if 21+t+3 * c<=wd then 0 else 14))/\Fr [] w w':=by
 obtain ⟨t1,t2,c1,c2,v1,v2,w1,w2⟩:=Zq.1 h
 have T:=q9 (jr t 1 8 t1 t2)
 have C:=q9 (jr c (t+2) 16 c1 c2)
 have V:=q9 (jr v 1 1048576 v1 v2)
 have W:=q9 (jr wd 1 20000 w1 w2)
 have TP:=q9 (Jt t c wd v t1 t2 (by omega) c2)
 clear h c1
 by_cases hf:21+t+3 * c<=wd
 all_goals
  first | rw [qf hf] | rw [qd hf]
  go_enter Tryz.func114,Tryz.ntmps114
  go_wp2_with fail
  refine (T.out _).mono ?_;rintro e w1 ⟨rfl,rfl⟩
  go_wp2_with fail
  refine (C.out _).mono ?_;rintro e w1 ⟨rfl,rfl⟩
  go_wp2_with fail
  refine (V.out _).mono ?_;rintro e w1 ⟨rfl,rfl⟩
  go_wp2_with fail
  refine (W.out _).mono ?_;rintro e w1 ⟨rfl,rfl⟩
  go_wp2_with fail
  obtain ⟨c0,c1,c2,c3⟩:=yf (Go.heap_alloc_new w (.cells #[.int .i64 t,.int .i64 c,.int .i64 wd,.int .i64 v] 23))
  have k0:=qb c0
  have k1:=qb c1
  have k2:=qb c2
  have k3:=qb c3
  clear c0 c1 c2 c3
  refine wiq ?_
  repeat (go_big_quiet_step ((go_at_call 156;exact Calls.in_ (TP.out _))))
  refine wpQuiet_nil ?_
  intro w1 F1
  have G:=((Fr.refl [] w).alloc _).trans F1
  clear F1
  go_wp2
  go_ret
  exact ⟨rfl,G⟩
theorem qcb (t c wd v:Int) (w:World) :
  Calls Tryz.prog 114 #[.agg #[.int .i64 t,.int .i64 c,.int .i64 wd,.int .i64 v]] w fun e w'=>e = .returned (qdb (code t c wd v))/\Fr [] w w':=by
 cases h:form t c wd v
 ·have hn:¬ form t c wd v=true:=by simp [h]
  rw [Zq] at hn
  rw [code,qd (by simp [h])]
  exact qbd t c wd v (by omega) w
 ·rw [code,qf h];exact qbj t c wd v h w
end Go.Proofs.YtppajakfaomkaaaGreatDoor.Pl
namespace Go.Proofs.YtppajakfaomkaaaGreatDoor.Og
open Go.RowKit Ar
def thr (x:Int):Int:=if 0<=x/\x<8000 then x / 1000 else -1
def ind (x:Int):Int:=if 0<=x/\x<8000 then x % 1000 else -1
end Go.Proofs.YtppajakfaomkaaaGreatDoor.Og
namespace Go.Proofs.YtppajakfaomkaaaGreatDoor.Ref
open Go.RowKit Ar
def Ru (s:St) (q cap:Nat):Array Value :=
 #[.slice (some ⟨q,0,none⟩) s.l.length cap,.int .i64 s.n,.int .i64 s.a.kind,.int .i64 s.a.at_,.int .i64 s.a.old,.int .i64 s.a.new,.bool s.a.ok]
structure Rar (w:World) (p q:Nat) (s:St):Prop where
 ne:p≠q
 lo:1<=s.l.length
 hi:s.l.length<=20000
 mem:∃ cap c,w.heap[p]? = some (.cells (Ru s q cap) 41 (0,0))/\s.l.length<=cap/\cap<=maxLen /\
  w.heap[q]? = some (.cells c 3 (0,0))/\c.size=cap/\∀ i,i<s.l.length->c[i]? = some (.int .i64 (nth s.l i))
theorem Rar.lt {w:World} {p q:Nat} {s:St} (h:Rar w p q s):p<w.heap.size/\q<w.heap.size:=by
 obtain ⟨ne,lo,hi,cap,c,hp,hc1,hc2,hq,hs,hc⟩:=h
 exact ⟨(Array.getElem?_eq_some_iff.1 hp).1,(Array.getElem?_eq_some_iff.1 hq).1⟩
theorem Vr {w:World} {p q:Nat} {s:St} (h:Rar w p q s):∃ cap,s.l.length<=cap/\w.cell? ⟨p,0,none⟩=some (.slice (some ⟨q,0,none⟩) s.l.length cap)/\w.cell? ⟨p,1,none⟩=some (.int .i64 s.n)/\w.cell? ⟨p,2,none⟩=some (.int .i64 s.a.kind) /\
  w.cell? ⟨p,3,none⟩=some (.int .i64 s.a.at_)/\w.cell? ⟨p,4,none⟩=some (.int .i64 s.a.old)/\w.cell? ⟨p,5,none⟩=some (.int .i64 s.a.new)/\w.cell? ⟨p,6,none⟩=some (.bool s.a.ok)/\∀ i,i<s.l.length->w.cell? ⟨q,i,none⟩=some (.int .i64 (nth s.l i)):=by
 obtain ⟨ne,lo,hi,cap,c,hp,hc1,hc2,hq,hs,hc⟩:=h
 exact ⟨cap,hc1,by rw [cell_of_row w p 0 _ _ _ hp];rfl,by rw [cell_of_row w p 1 _ _ _ hp];rfl,by rw [cell_of_row w p 2 _ _ _ hp];rfl,by rw [cell_of_row w p 3 _ _ _ hp];rfl,by rw [cell_of_row w p 4 _ _ _ hp];rfl,by rw [cell_of_row w p 5 _ _ _ hp];rfl,by rw [cell_of_row w p 6 _ _ _ hp];rfl,
  fun i hi=>by rw [cell_of_row w q i _ _ _ hq];exact hc i hi⟩
theorem Rar.kept {w w':World} {p q:Nat} {s:St} {S:List Nat} (h:Rar w p q s) (f:Fr S w w') (hp:p∉S:=by simp) (hq:q∉S:=by simp):Rar w' p q s:=by
 have hlt:=h.lt
 obtain ⟨ne,lo,hi,cap,c,h1,h2,h3,h4,h5,h6⟩:=h
 exact ⟨ne,lo,hi,cap,c,(f.block p hlt.1 hp).trans h1,h2,h3,(f.block q hlt.2 hq).trans h4,h5,h6⟩
theorem Wu (w:World) (p q:Nat) (s:St) (k:Nat) (h:Rar w p q s) (hk:k<s.l.length) :
  Calls Tryz.prog 99 #[.pointer (some ⟨p,0,none⟩),.int .i64 k] w fun e w'=>e = .returned (.bool true)/\w=w':=by
 obtain ⟨ne,lo,hi,cap,c,hp,hc1,hc2,hq,hs,hc⟩:=h
 have h0:w.cell? ⟨p,0,none⟩=some (.slice (some ⟨q,0,none⟩) s.l.length cap):=by rw [cell_of_row w p 0 _ _ _ hp];rfl
 clear hp hq hc
 go_enter Tryz.func99,Tryz.ntmps99
 go_wp2
 go_ret
 exact ⟨rfl,rfl⟩
theorem Yb (w:World) (p q:Nat) (s:St) (k:Int) (h:Rar w p q s) (hk:k<0\/s.l.length<=k) :
  Calls Tryz.prog 99 #[.pointer (some ⟨p,0,none⟩),.int .i64 k] w fun e w'=>e = .returned (.bool false)/\w=w':=by
 obtain ⟨ne,lo,hi,cap,c,hp,hc1,hc2,hq,hs,hc⟩:=h
 have h0:w.cell? ⟨p,0,none⟩=some (.slice (some ⟨q,0,none⟩) s.l.length cap):=by rw [cell_of_row w p 0 _ _ _ hp];rfl
 clear hp hq hc
 by_cases hk0:k<0
 ·clear hk
  go_enter Tryz.func99,Tryz.ntmps99
  go_wp2
  go_ret
  exact ⟨rfl,rfl⟩
 ·have hf:decide (k<(s.l.length:Int))=false:=by simp;omega
  have hk1:0<=k:=by omega
  clear hk hk0
  go_enter Tryz.func99,Tryz.ntmps99
  go_wp2
  go_ret
  exact ⟨by simp,rfl⟩
theorem q00 (w:World) (p q:Nat) (s:St) (i:Int) (h:Rar w p q s) :
  Calls Tryz.prog 99 #[.pointer (some ⟨p,0,none⟩),.int .i64 i] w fun e w'=>e = .returned (.bool (Ri s.l i))/\w=w':=by
 rcases Zj s.l i with ⟨k,rfl,hk,e⟩ | ⟨hk,e⟩
 ·rw [e];exact Wu w p q s k h hk
 ·rw [e];exact Yb w p q s i h hk
theorem ko (w:World) (p q:Nat) (s:St) (i:Int) (h:Rar w p q s) :
  Calls Tryz.prog 41 #[.pointer (some ⟨p,0,none⟩),.int .i64 i] w fun e w'=>e = .returned (.int .i64 (qq s.l i))/\w=w':=by
 have h':=h
 obtain ⟨ne,lo,hi,cap,c,hp,hc1,hc2,hq,hs,hc⟩:=h
 have h0:w.cell? ⟨p,0,none⟩=some (.slice (some ⟨q,0,none⟩) s.l.length cap):=by rw [cell_of_row w p 0 _ _ _ hp];rfl
 rcases Zj s.l i with ⟨k,rfl,hk,e⟩ | ⟨hk,e⟩
 ·have h1:w.cell? ⟨q,k,none⟩=some (.int .i64 (nth s.l k)):=by rw [cell_of_row w q _ _ _ _ hq];exact hc k hk
  rw [Rx hk]
  clear hp hq hc e
  go_enter Tryz.func41,Tryz.ntmps41
  go_wp2_with (go_at_call 99;refine (Wu _ p q s k h' hk).mono ?_;rintro e w' ⟨rfl,rfl⟩)
  go_ret
  exact ⟨rfl,rfl⟩
 ·rw [q65 e]
  clear hp hq hc e
  go_enter Tryz.func41,Tryz.ntmps41
  go_wp2_with (go_at_call 99;refine (Yb _ p q s i h' hk).mono ?_;rintro e w' ⟨rfl,rfl⟩)
  go_ret
  exact ⟨rfl,rfl⟩
theorem Qe (w:World) (p q:Nat) (s:St) (i v:Int) (h:Rar w p q s) :
  Calls Tryz.prog 40 #[.pointer (some ⟨p,0,none⟩),.int .i64 i,.int .i64 v] w fun e w'=>e = .returned (.tuple #[])/\Rar w' p q (s.yp i v)/\Fr [q] w w':=by
 have h':=h
 obtain ⟨ne,lo,hi,cap,c,hp,hc1,hc2,hq,hs,hc⟩:=h
 have h0:w.cell? ⟨p,0,none⟩=some (.slice (some ⟨q,0,none⟩) s.l.length cap):=by rw [cell_of_row w p 0 _ _ _ hp];rfl
 rcases Zj s.l i with ⟨k,rfl,hk,e⟩ | ⟨hk,e⟩
 ·have h1:w.cell? ⟨q,k,none⟩=some (.int .i64 (nth s.l k)):=by rw [cell_of_row w q _ _ _ _ hq];exact hc k hk
  have h2:w.frozen? ⟨q,k,none⟩=false:=frozen_of_row _ _ _ _ _ hq
  have A1:Rar (w.setCell ⟨q,k,none⟩ (.int .i64 v)) p q (s.yp k v):=by
   refine ⟨ne,by simp [St.yp,xa];exact lo,by simp [St.yp,xa];exact hi,cap,_,?_,by simpa [St.yp,xa] using hc1,hc2,heap_setCell_same _ _ _ _ _ _ hq,by simpa using hs,?_⟩
   ·rw [heap_setCell_other _ _ _ _ ne];simpa [Ru,St.yp,xa] using hp
   ·intro j hj
    simp only [St.yp,xa] at hj
    simp only [St.yp,Uj v hk,Array.getElem?_setIfInBounds,hc j hj,nth,List.getD_eq_getElem?_getD,List.getElem?_set]
    split
    ·rename_i hkj;subst hkj
     rw [qf (by rw [hs];omega)];rfl
    ·rfl
  have F1:Fr [q] w (w.setCell ⟨q,k,none⟩ (.int .i64 v)):=Fr.setCell _ (by simp)
  clear hp hq hc e
  go_enter Tryz.func40,Tryz.ntmps40
  go_wp2_with (go_at_call 99;refine (Wu _ p q s k h' hk).mono ?_;rintro e w' ⟨rfl,rfl⟩)
  go_end0
  exact ⟨rfl,A1,F1⟩
 ·have A1:Rar w p q (s.yp i v):=by rw [show s.yp i v=s by simp [St.yp,q60 v e]];exact h'
  clear hp hq hc e
  go_enter Tryz.func40,Tryz.ntmps40
  go_wp2_with (go_at_call 99;refine (Yb _ p q s i h' hk).mono ?_;rintro e w' ⟨rfl,rfl⟩)
  go_end0
  exact ⟨rfl,A1,Fr.refl _ _⟩
theorem Z0 (w:World) (p q:Nat) (s:St) (kind i was:Int) (ok:Bool) (h:Rar w p q s) :
  Calls Tryz.prog 149 #[.pointer (some ⟨p,0,none⟩),.int .i64 kind,.int .i64 i,.int .i64 was,.bool ok] w fun e w'=>e = .returned (.tuple #[])/\Rar w' p q (s.note kind i was ok)/\Fr [p] w w':=by
 have h':=h
 obtain ⟨ne,lo,hi,cap,c,hp,hc1,hc2,hq,hs,hc⟩:=h
 have h2:w.cell? ⟨p,1,none⟩=some (.int .i64 s.n):=by rw [cell_of_row w p 1 _ _ _ hp];rfl
 have h3:w.cell? ⟨p,2,none⟩=some (.int .i64 s.a.kind):=by rw [cell_of_row w p 2 _ _ _ hp];rfl
 have h4:w.cell? ⟨p,3,none⟩=some (.int .i64 s.a.at_):=by rw [cell_of_row w p 3 _ _ _ hp];rfl
 have h5:w.cell? ⟨p,4,none⟩=some (.int .i64 s.a.old):=by rw [cell_of_row w p 4 _ _ _ hp];rfl
 have h6:w.cell? ⟨p,5,none⟩=some (.int .i64 s.a.new):=by rw [cell_of_row w p 5 _ _ _ hp];rfl
 have h7:w.cell? ⟨p,6,none⟩=some (.bool s.a.ok):=by rw [cell_of_row w p 6 _ _ _ hp];rfl
 have hf:∀ j,w.frozen? ⟨p,j,none⟩=false:=fun j=>frozen_of_row _ _ _ _ _ hp
 have hf2:=hf 1
 have hf3:=hf 2
 have hf4:=hf 3
 have hf5:=hf 4
 have hf6:=hf 5
 have hf7:=hf 6
 have A1:Rar (w.setCell ⟨p,1,none⟩ (.int .i64 (wrap64 (s.n+1)))) p q ⟨s.l,inc s.n,s.a⟩:=by
  refine ⟨ne,lo,hi,cap,c,heap_setCell_same _ _ _ _ _ _ hp,hc1,hc2,?_,hs,hc⟩
  rw [heap_setCell_other _ _ _ _ (Ne.symm ne)];exact hq
 have A2:Rar ((((((w.setCell ⟨p,1,none⟩ (.int .i64 (wrap64 (s.n+1)))).setCell ⟨p,2,none⟩ (.int .i64 kind)).setCell ⟨p,3,none⟩ (.int .i64 i)).setCell ⟨p,4,none⟩ (.int .i64 was)).setCell ⟨p,5,none⟩ (.int .i64 (qq s.l i))).setCell ⟨p,6,none⟩ (.bool ok)) p q (s.note kind i was ok):=by
  refine ⟨ne,lo,hi,cap,c,heap_setCell_same _ _ _ _ _ _ (heap_setCell_same _ _ _ _ _ _ (heap_setCell_same _ _ _ _ _ _ (heap_setCell_same _ _ _ _ _ _ (heap_setCell_same _ _ _ _ _ _ (heap_setCell_same _ _ _ _ _ _ hp))))),hc1,hc2,?_,hs,hc⟩
  repeat rw [heap_setCell_other _ _ _ _ (Ne.symm ne)]
  exact hq
 have F2:Fr [p] w ((((((w.setCell ⟨p,1,none⟩ (.int .i64 (wrap64 (s.n+1)))).setCell ⟨p,2,none⟩ (.int .i64 kind)).setCell ⟨p,3,none⟩ (.int .i64 i)).setCell ⟨p,4,none⟩ (.int .i64 was)).setCell ⟨p,5,none⟩ (.int .i64 (qq s.l i))).setCell ⟨p,6,none⟩ (.bool ok)) :=
  (((((Fr.setCell _ (by simp)).setCell' _ (by simp)).setCell' _ (by simp)).setCell' _ (by simp)).setCell' _ (by simp)).setCell' _ (by simp)
 clear hf hp hq hc
 go_enter Tryz.func149,Tryz.ntmps149
 go_wp2_with fail
 go_wp2_with (go_at_call 41;refine (ko _ p q _ i A1).mono ?_;rintro e w' ⟨rfl,rfl⟩)
 go_end0
 exact ⟨rfl,A2,F2⟩
theorem zi (w:World) (p q:Nat) (s:St) (i:Int) (h:Rar w p q s) :
  Calls Tryz.prog 102 #[.pointer (some ⟨p,0,none⟩),.int .i64 i] w fun e w'=>e = .returned (.int .i64 (qq s.l i))/\Rar w' p q (s.load i)/\Fr [p,q] w w':=by
 go_enter Tryz.func102,Tryz.ntmps102
 go_wp2_with (go_at_call 41;refine (ko _ p q _ i h).mono ?_;rintro e w' ⟨rfl,rfl⟩)
 refine (Z0 _ p q s 1 i (qq s.l i) false h).mono ?_;rintro e w' ⟨rfl,A1,F1⟩
 go_wp2
 go_ret
 exact ⟨rfl,A1,F1.mono⟩
theorem jl (w:World) (p q:Nat) (s:St) (i v:Int) (h:Rar w p q s) :
  Calls Tryz.prog 171 #[.pointer (some ⟨p,0,none⟩),.int .i64 i,.int .i64 v] w fun e w'=>e = .returned (.tuple #[])/\Rar w' p q (s.store i v)/\Fr [p,q] w w':=by
 go_enter Tryz.func171,Tryz.ntmps171
 go_wp2_with (go_at_call 41;refine (ko _ p q _ i h).mono ?_;rintro e w' ⟨rfl,rfl⟩)
 refine (Qe _ p q s i v h).mono ?_;rintro e w1 ⟨rfl,A1,F1⟩
 go_wp2_with fail
 refine (Z0 _ p q _ 2 i (qq s.l i) false A1).mono ?_;rintro e w2 ⟨rfl,A2,F2⟩
 go_wp2
 go_end0
 exact ⟨rfl,A2,(F1.mono).trans (F2.mono)⟩
theorem Un (w:World) (p q:Nat) (s:St) (i v:Int) (h:Rar w p q s) :
  Calls Tryz.prog 189 #[.pointer (some ⟨p,0,none⟩),.int .i64 i,.int .i64 v] w fun e w'=>e = .returned (.int .i64 (qq s.l i))/\Rar w' p q (s.add i v)/\Fr [p,q] w w':=by
 go_enter Tryz.func189,Tryz.ntmps189
 go_wp2_with (go_at_call 41;refine (ko _ p q _ i h).mono ?_;rintro e w' ⟨rfl,rfl⟩)
 refine (Qe _ p q s i (wrap64 (qq s.l i+v)) h).mono ?_;rintro e w1 ⟨rfl,A1,F1⟩
 go_wp2_with fail
 refine (Z0 _ p q _ 4 i (qq s.l i) false A1).mono ?_;rintro e w2 ⟨rfl,A2,F2⟩
 go_wp2
 go_ret
 exact ⟨rfl,A2,(F1.mono).trans (F2.mono)⟩
theorem yt (w:World) (p q:Nat) (s:St) (i old v:Int) (h:Rar w p q s) :
  Calls Tryz.prog 105 #[.pointer (some ⟨p,0,none⟩),.int .i64 i,.int .i64 old,.int .i64 v] w fun e w'=>e = .returned (.bool (s.can i old))/\Rar w' p q (s.swap i old v)/\Fr [p,q] w w':=by
 cases hi:Ri s.l i
 ·have hc:s.can i old=false:=by simp [St.can,hi]
  rw [hc,show s.swap i old v=s.note 3 i (qq s.l i) false by rw [St.swap,qd (by simp [hc])]]
  go_enter Tryz.func105,Tryz.ntmps105
  go_wp2_with (first | (go_at_call 41;refine (ko _ p q _ i h).mono ?_;rintro e w' ⟨rfl,rfl⟩) | (go_at_call 99;refine (q00 _ p q _ i h).mono ?_;rintro e w' ⟨rfl,rfl⟩))
  refine (Z0 _ p q _ 3 i (qq s.l i) false h).mono ?_;rintro e w2 ⟨rfl,A2,F2⟩
  go_wp2
  go_ret
  exact ⟨rfl,A2,F2.mono⟩
 ·cases ho:(qq s.l i == old)
  ·have hc:s.can i old=false:=by simp [St.can,hi,ho]
   rw [hc,show s.swap i old v=s.note 3 i (qq s.l i) false by rw [St.swap,qd (by simp [hc])]]
   go_enter Tryz.func105,Tryz.ntmps105
   go_wp2_with (first | (go_at_call 41;refine (ko _ p q _ i h).mono ?_;rintro e w' ⟨rfl,rfl⟩) | (go_at_call 99;refine (q00 _ p q _ i h).mono ?_;rintro e w' ⟨rfl,rfl⟩))
   refine (Z0 _ p q _ 3 i (qq s.l i) false h).mono ?_;rintro e w2 ⟨rfl,A2,F2⟩
   go_wp2
   go_ret
   exact ⟨rfl,A2,F2.mono⟩
  ·have hc:s.can i old=true:=by simp [St.can,hi,ho]
   rw [hc,show s.swap i old v=(s.yp i v).note 3 i (qq s.l i) true by rw [St.swap,qf hc]]
   go_enter Tryz.func105,Tryz.ntmps105
   go_wp2_with (first | (go_at_call 41;refine (ko _ p q _ i h).mono ?_;rintro e w' ⟨rfl,rfl⟩) | (go_at_call 99;refine (q00 _ p q _ i h).mono ?_;rintro e w' ⟨rfl,rfl⟩))
   refine (Qe _ p q s i v h).mono ?_;rintro e w1 ⟨rfl,A1,F1⟩
   go_wp2_with fail
   refine (Z0 _ p q _ 3 i (qq s.l i) true A1).mono ?_;rintro e w2 ⟨rfl,A2,F2⟩
   go_wp2
   go_ret
   exact ⟨rfl,A2,(F1.mono).trans (F2.mono)⟩
def q8s (w:World) (s:St) (e:Ending) (w':World):Prop:=∃ p q,e = .returned (.pointer (some ⟨p,0,none⟩))/\w.heap.size<=p/\w.heap.size<=q/\Rar w' p q s/\Fr [] w w'
theorem Wx:(Tryz.prog.info? 3).map (fun i=>(i.zero,i.size,i.bytes))=some (some (.int .i64 0),1,8):=by kernel_rfl
theorem q7y {w w1:World} (n:Nat) (lo:1<=n) (hi:n<=20000) (hown:w1.ownsRow 0 3 1 (.slice (some ⟨w.heap.size,0,none⟩) n n) n (madeCells (Value.int .i64 0).cells (n * 1)).toList) (hg:w.grownBy w1 none) (hne:w.heap.size<w1.heap.size) :
  q8s w (St.fresh n) (.returned (.pointer (some ⟨w1.heap.size,0,none⟩))) (w1.alloc (.cells #[.slice (some ⟨w.heap.size,0,none⟩) n n,.int .i64 0,.int .i64 0,.int .i64 0,.int .i64 0,.int .i64 0,.bool false] 41)):=by
 refine ⟨w1.heap.size,w.heap.size,rfl,by omega,Nat.le_refl _,?_,(Fr.grown hg).alloc _⟩
 obtain ⟨h1,h2⟩:=hown
 rcases h2 with ⟨h2,_⟩ | ⟨g,cap,cur,hv,-,hh,hc1,hc2,hsz,htk⟩
 ·cases h2
 ·simp only [Value.slice.injEq,Option.some.injEq,Addr.mk.injEq] at hv
  obtain ⟨⟨rfl,-,-⟩,-,rfl⟩:=hv
  refine ⟨by omega,by simpa [St.fresh] using lo,by simpa [St.fresh] using hi,n,cur,?_,by simp [St.fresh],hc2,?_,by simpa using hsz,?_⟩
  ·rw [Go.heap_alloc_new];simp [Ru,St.fresh]
  ·rw [heap_alloc_old _ _ hne];exact hh
  ·intro i hi'
   simp only [St.fresh,List.length_replicate] at hi'
   have e1:cur.toList[i]? = (madeCells (Value.int .i64 0).cells (n * 1)).toList[i]?:=by
    rw [<- htk,List.getElem?_take_of_lt (by omega)]
   rw [show (Value.int .i64 0).cells = #[.int .i64 0] from rfl,toList_madeCells_one,List.getElem?_replicate,qf (by omega)] at e1
   rw [Array.getElem?_toList] at e1
   rw [e1,nth,St.fresh,List.getD_eq_getElem?_getD,List.getElem?_replicate,qf hi']
   rfl
theorem Zr (n:Nat) (i:Int) (hn:(i<1/\n=1)\/(1<=i/\i<=20000/\i=n)\/(20000<i/\n=20000)) (w:World) :
  Calls Tryz.prog 111 #[.int .i64 i,.int .i64 1,.int .i64 20000] w fun e w'=>e = .returned (.int .i64 n)/\w=w':=by
 rcases hn with ⟨h1,rfl⟩ | ⟨h1,h2,rfl⟩ | ⟨h1,rfl⟩
 all_goals
  go_enter Tryz.func111,Tryz.ntmps111
  go_wp2
  all_goals go_ret
  all_goals (first | exact ⟨rfl,rfl⟩ | exact Uc (by omega))
theorem q1r (n:Nat) (i:Int) (lo:1<=n) (hi:n<=20000) (hn:(i<1/\n=1)\/(1<=i/\i<=20000/\i=n)\/(20000<i/\n=20000)) (w:World) :
  Calls Tryz.prog 66 #[.int .i64 i] w (q8s w (St.fresh n)):=by
 obtain ⟨i0,h0,hz0,hz1,hz2⟩:=info_parts Wx
 have HH:=Zr n i hn w
 clear hn
 go_enter Tryz.func66,Tryz.ntmps66
 go_wp2_with (first | (go_at_call 111;refine HH.mono ?_;rintro e w' ⟨rfl,rfl⟩) | (at_make;refine wpList_make_full _ rfl _ _ 25 rfl 0 3 i0 (.int .i64 0) 1 Tryz.underlying25 h0 hz0 hz1 _ _ _ _ n rfl rfl rfl rfl (by rw [hz2];omega) (by unfold maxLen;omega) (Nat.zero_le _) ?_;intro w1 hown hg;have hM:=q7y n lo hi hown hg (q28 hown);clear hown))
 go_ret
 exact hM
end Go.Proofs.YtppajakfaomkaaaGreatDoor.Ref
namespace Go.Proofs.YtppajakfaomkaaaGreatDoor.Word
open Go.RowKit
theorem Jb {k:IntKind} {a b:Int} {w:World} (h:a=b):Ending.returned (.int k a) = .returned (.int k b)/\w=w:=⟨by rw [h],rfl⟩
/-! ### held: each row of the table -/
/-! ### join,upper,lower -/
def un (a:Int):Int:=a % 18446744073709551616
theorem Jo (a:Int):IntKind.u64.wrap a=un a:=IntKind.wrap_u64 a
theorem q8b (a:Int):0<=un a/\un a<18446744073709551616:=by unfold un;omega
theorem qd7 (a d:Int) (hd:2<=d):wrap64 (IntKind.u64.wrap a / d)=un a / d:=by
 have hb:=q8b a
 rw [Jo]
 have h2:0<=un a / d:=Int.ediv_nonneg hb.1 (by omega)
 have h1:=Int.ediv_mul_le (un a) (show d≠0 by omega)
 have h3:=Int.mul_le_mul_of_nonneg_left hd h2
 exact IntWalk.wrap64_in _ ⟨by omega,by omega⟩
theorem qc3 (a:Int) (w:World):Calls Tryz.prog 157 #[.int .i64 a,.int .u64 1] w fun e w'=>e = .returned (.int .i64 (un a / 2))/\w'=w:=by
 go_enter Tryz.func157,Tryz.ntmps157
 go_wp2
 go_ret
 exact Jb (qd7 a 2 (by decide))
theorem q06 (a:Int) (i m:Nat) (hm:m+1=2 ^ i) (hi:i<=24):wrap64 (bits .and .u64 (IntKind.u64.wrap a) (m:Int))=a % ((m+1:Nat):Int):=by
 have hb:=q8b a
 rw [Jo]
 obtain ⟨x,hx⟩:=Int.eq_ofNat_of_zero_le hb.1
 have hp:2 ^ i<=2 ^ 24:=Nat.pow_le_pow_right (by decide) hi
 have hpos:0<2 ^ i:=Nat.two_pow_pos i
 have hlt:x % 2 ^ i<2 ^ i:=Nat.mod_lt _ hpos
 rw [hx,u64_and_nat _ _ (by omega) (by omega),show m=2 ^ i - 1 by omega,Nat.and_two_pow_sub_one_eq_mod,IntWalk.wrap64_in _ ⟨by omega,by omega⟩,show 2 ^ i - 1+1=2 ^ i by omega,Int.natCast_emod,<- hx]
 unfold un
 refine Int.emod_emod_of_dvd _ ?_
 have:(18446744073709551616:Nat)=2 ^ i * 2 ^ (64 - i):=by rw [<- Nat.pow_add,show i+(64 - i)=64 by omega]
 exact ⟨((2 ^ (64 - i):Nat):Int),by rw [<- Int.natCast_mul,<- this];rfl⟩
theorem qaq (a:Int) (w:World):Calls Tryz.prog 158 #[.int .i64 a,.int .u64 21] w fun e w'=>e = .returned (.int .i64 (a % 2097152))/\w'=w:=by
 go_enter Tryz.func158,Tryz.ntmps158
 go_wp2
 go_ret
 exact Jb (q06 a 21 2097151 (by decide) (by decide))
/-! ### The face -/
theorem Vn (a:Int) (w:World):Calls Tryz.prog 139 #[.int .i64 a] w fun e w'=>e = .returned (.int .i64 (un a / 2))/\w'=w:=by
 go_enter Tryz.func139,Tryz.ntmps139
 go_wp2_with fail
 refine (qc3 _ _).mono ?_
 rintro e w' ⟨rfl,rfl⟩
 go_wp2
 go_ret
 exact Jb rfl
theorem Rp (a:Int) (w:World):Calls Tryz.prog 118 #[.int .i64 a] w fun e w'=>e = .returned (.int .i64 (a % 2097152 - 1))/\w'=w:=by
 go_enter Tryz.func118,Tryz.ntmps118
 go_wp2_with fail
 refine (qaq _ _).mono ?_
 rintro e w' ⟨rfl,rfl⟩
 go_wp2
 go_ret
 exact Jb rfl
end Go.Proofs.YtppajakfaomkaaaGreatDoor.Word
