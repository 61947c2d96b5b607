/- Texts that this proof leans on, one behind the other: Fr, Env, Arena, Place, Word. -/
import Derived.BigQuiet
import Derived.Deep.QuietTactic
import Derived.Handy
import Derived.Lib.Hide
import Derived.Test.YtmdplidjkkjmmaaDoorRows
import Derived.WalkKit
import Derived.WalkLawsBesides
set_option linter.unusedVariables false
set_option linter.unusedSimpArgs false
set_option maxRecDepth 100000
set_option maxHeartbeats 12800000
namespace Go.Proofs.YtmdplidjkkjmmaaDoor.Ar
open Go.RowKit
structure Fr (S:List Nat) (w w':World):Prop where
 os:w'.os=w.os
 tape:w'.tape=w.tape
 output:w'.output=w.output
 size:w.heap.size≤w'.heap.size
 block:∀ k,k<w.heap.size→k∉S→w'.heap[k]? = w.heap[k]?
theorem Fr.refl (S:List Nat) (w:World):Fr S w w:=⟨rfl,rfl,rfl,Nat.le_refl _,fun _ _ _=>rfl⟩
theorem Fr.trans {S:List Nat} {a b c:World} (h:Fr S a b) (k:Fr S b c):Fr S a c :=
 ⟨k.os.trans h.os,k.tape.trans h.tape,k.output.trans h.output,Nat.le_trans h.size k.size,fun i hi hn=>(k.block i (Nat.lt_of_lt_of_le hi h.size) hn).trans (h.block i hi hn)⟩
theorem Fr.mono {S T:List Nat} {a b:World} (h:Fr S a b) (hs:∀ k,k∈S→k∈T:=by simp):Fr T a b :=
 ⟨h.os,h.tape,h.output,h.size,fun i hi hn=>h.block i hi (fun e=>hn (hs i e))⟩
theorem Fr.own {S:List Nat} {a b c:World} (h:Fr [] a b) (k:Fr S b c) (hs:∀ i,i∈S→a.heap.size≤i):Fr [] a c :=
 ⟨k.os.trans h.os,k.tape.trans h.tape,k.output.trans h.output,Nat.le_trans h.size k.size,fun i hi _=>(k.block i (Nat.lt_of_lt_of_le hi h.size) (fun e=>Nat.not_le_of_lt hi (hs i e))).trans (h.block i hi (by simp))⟩
theorem Fr.drew {S:List Nat} {a w:World} (h:Fr S a w):Fr S a w.drew:=⟨h.os,h.tape,h.output,h.size,h.block⟩
theorem Fr.heap {S:List Nat} {w w':World} {b:Nat} {o:Obj} (f:Fr S w w') (h:w.heap[b]? = some o) (hn:b∉S):w'.heap[b]? = some o:=(f.block b (Array.getElem?_eq_some_iff.1 h).1 hn).trans h
theorem Fr.below {w w':World} (f:Fr [] w w'):Below w.heap.size w w':=⟨f.os,f.tape,f.output,f.size,fun k hk=>f.block k hk (by simp)⟩
theorem Fr.setCell {S:List Nat} {w:World} {b i:Nat} (v:Value) (h:b∈S):Fr S w (w.setCell ⟨b,i,none⟩ v) :=
 ⟨rfl,rfl,rfl,by simp,fun k _ hn=>heap_setCell_other _ _ _ _ (fun e=>hn (by rw [e];exact h))⟩
theorem Fr.setCell' {S:List Nat} {a w:World} (h:Fr S a w) {b i:Nat} (v:Value) (hb:b∈S):Fr S a (w.setCell ⟨b,i,none⟩ v):=h.trans (Fr.setCell v hb)
theorem Fr.alloc {S:List Nat} {a w:World} (h:Fr S a w) (o:Obj):Fr S a (w.alloc o) :=
 h.trans ⟨rfl,rfl,rfl,by simp,fun k hk _=>heap_alloc_old w o hk⟩
theorem Fr.grown {w w':World} (h:w.grownBy w' none):Fr [] w w':=⟨h.os,h.tape,h.output,h.size,fun k hk _=>h.block k hk (by simp)⟩
theorem wpQuiet_mono {P:Program} {ops:Array Oper} {C:World→Prop} {Q Q':Act→Prop} (h:∀ a,Q a→Q' a):∀ (l:List Oper) (a:Act),wpQuiet P ops C Q l a→wpQuiet P ops C Q' l a
 | [],a,hh=>h a hh
 | o :: rest,a,hh=>by
  unfold wpQuiet at hh ⊢
  split
  ·rename_i hw;rw [if_pos hw] at hh;exact Oper.quiet_mono (wpQuiet_mono h rest) hh
  ·rename_i hw;rw [if_neg hw] at hh;exact wpQuiet_mono h rest _ hh
theorem Fr.then {S:List Nat} {a b c:World} (h:Fr S a b) (k:Fr [] b c):Fr S a c:=h.trans (k.mono (by simp))
theorem Fr.drewN {S:List Nat} {a w:World} (h:Fr S a w) (n:Nat):Fr S a (w.drewN n):=⟨h.os,h.tape,h.output,h.size,h.block⟩
theorem Fr.cell {S:List Nat} {w w':World} (f:Fr S w w') {b i:Nat} {v:Value} (h:w.cell? ⟨b,i,none⟩=some v) (hn:b∉S):w'.cell? ⟨b,i,none⟩=some v :=
 (World.cell?_of_block (f.block b (World.block_lt_of_cell? w _ h) hn)).trans h
theorem ret_eq {k:IntKind} {a b:Int} (h:a=b):Ending.returned (.int k a) = .returned (.int k b):=by rw [h]
def In (w:World):Type:={ x:World // Fr [] w x }
def In.at_ {w:World} (s:In w):World:=s.1
theorem In.fr {w:World} (s:In w):Fr [] w s.at_:=s.2
instance (w:World):Nonempty (In w):=⟨⟨w,Fr.refl _ _⟩⟩
theorem In.cell {w:World} {b i:Nat} {v:Value} (h:w.cell? ⟨b,i,none⟩=some v) (s:In w):s.at_.cell? ⟨b,i,none⟩=some v:=s.fr.cell h (by simp)
theorem wp_region_in {P:Program} {id:Nat} {Q:Exit→Act→World→Prop} {a:Act} {w:World} {l:List Oper} (hm:P.follows .mixedOrders=true) (hB:Region.lexB .any l.toArray=true)
  (h:wpQuiet P l.toArray (fun w'=>∃ s:In w,w'=s.at_) (fun a'=>∀ w',Fr [] w w'→Q .normal a' w') l a):(Code.region id l.toArray true).wp P Q a w :=
 wp_region_quiet (C:=fun w'=>∃ s:In w,w'=s.at_) hm hB ⟨⟨_,(Fr.refl [] w).drew⟩,rfl⟩ (wpQuiet_mono (fun a h w' hw=>by obtain ⟨s,rfl⟩:=hw;exact h _ s.fr) _ _ (by simpa using h))
theorem wiq {P:Program} {id:Nat} {Q:Exit→Act→World→Prop} {a:Act} {w:World} {l:List Oper} (h:wpQuiet P l.toArray (fun w'=>∃ s:In w,w'=s.at_) (fun a'=>∀ w',Fr [] w w'→Q .normal a' w') l a) (hm:P.follows .mixedOrders=true:=by kernel_rfl) (hB:Region.lexB .any l.toArray=true:=by kernel_rfl):(Code.region id l.toArray true).wp P Q a w:=wp_region_in hm hB h
theorem Calls.in_ {P:Program} {f:FuncId} {args:Array Value} {w:World} {s:In w} {v:Value}
  (h:Calls P f args s.at_ fun e w'=>e = .returned v∧Fr [] s.at_ w'):Calls P f args s.at_ fun e w''=>e = .returned v∧∃ s':In w,w''=s'.at_ :=
 h.mono fun _ _ ⟨he,hf⟩=>⟨he,⟨⟨_,s.fr.trans hf⟩,rfl⟩⟩
theorem Calls.in_same {P:Program} {f:FuncId} {args:Array Value} {w:World} {s:In w} {v:Value}
  (h:Calls P f args s.at_ fun e w'=>e = .returned v∧s.at_=w'):Calls P f args s.at_ fun e w''=>e = .returned v∧∃ s':In w,w''=s'.at_ :=
 h.mono fun _ _ ⟨he,hf⟩=>⟨he,⟨s,hf.symm⟩⟩
section
variable {P:Program} {ops:Array Oper} {Q:Exit→Act→World→Prop} {md:Region.Mode} {w0:World} {S:List Nat}
def Env (P:Program) (md:Region.Mode) (ops:Array Oper) (Q:Exit→Act→World→Prop) (S:List Nat) (w0:World):Nat→Array Bool→Act→World→Prop
 | 0,listed,a,w=>∀ w2,Fr [] w w2→Region.ready md ops listed=[]∧Q .normal a w2
 | f+1,listed,a,w=>∀ w2,Fr [] w w2→(Region.ready md ops listed=[]→Q .normal a w2) ∧
   ∀ i∈Region.ready md ops listed,wpOp P ops Q i (fun a' w'=>Fr S w0 w'∧Env P md ops Q S w0 f (listed.setIfInBounds i true) a' w') a w2
theorem Env.more {f:Nat} {listed:Array Bool} {a:Act} {w w':World} (h:Env P md ops Q S w0 f listed a w) (g:Fr [] w w'):Env P md ops Q S w0 f listed a w':=by
 cases f with
 | zero=>exact fun w2 h2=>h w2 (g.trans h2)
 | succ f=>exact fun w2 h2=>h w2 (g.trans h2)
theorem Env.sound:∀ (f:Nat) (listed:Array Bool) (a:Act) (w:World),Env P md ops Q S w0 f listed a w→wpAny P md ops Q f listed a w
 | 0,_,_,w,h=>h w (Fr.refl _ _)
 | f+1,_,_,w,h=>⟨(h w (Fr.refl _ _)).1,fun i hi=>wpOp_mono (fun a' w' hh=>Env.sound f _ a' w' hh.2) ((h w (Fr.refl _ _)).2 i hi)⟩
def EnvY (P:Program) (ops:Array Oper) (S:List Nat) (w0:World) (o:Oper) (v:Value) (a:Act):Prop :=
 (Region.wanted o (yielded ops a.tmps)=true∧∀ w,Fr S w0 w→∃ u,o.quietAt P a (fun w'=>Fr [] w w') w u∧(o.dst=none∨u=v)) ∨
 (Region.wanted o (yielded ops a.tmps)=false∧v=undef)
theorem put_same {a:Act} {d:Option Tmp} {u v:Value} (h:d=none∨u=v):a.put d u=a.put d v:=by
 rcases h with rfl | rfl <;> rfl
theorem wp_of_quietAt {o:Oper} {a:Act} {w:World} {v:Value} {K:Act→World→Prop} (hu:o.quietAt P a (fun w'=>Fr [] w w') w v) (h:∀ w',Fr [] w w'→K (a.put o.dst v) w'):o.wp P a w K Q:=by
 unfold Oper.quietAt at hu
 unfold Oper.wp
 generalize (execOp a.eval o).run P w=r at *
 cases r with
 | ok n w' =>
  cases n <;> simp only [Oper.quietUpon] at hu <;> simp only [Oper.upon]
  case value u=>obtain ⟨e1,e2⟩:=hu;rw [e1,e2];exact h _ (Fr.refl _ _)
  case skip=>obtain ⟨e1,e2⟩:=hu;rw [e1,← e2];exact h _ (Fr.refl _ _)
  case enter f args=>obtain ⟨e1,hc⟩:=hu;rw [e1];exact hc.mono fun e w'' ⟨he,hw''⟩=>by subst he;exact h _ hw''
 | halt x w'=>simp only [Oper.quietUpon] at hu
theorem EnvY.wpOp {i:Nat} {o:Oper} {v:Value} {a:Act} (hi:ops[i]? = some o) (hy:EnvY P ops S w0 o v a) {K:Act→World→Prop} {w:World} (hw:Fr S w0 w)
  (h:∀ w',Fr [] w w'→K (a.put o.dst v) w'):wpOp P ops Q i K a w:=by
 unfold Go.wpOp
 simp only [hi]
 rcases hy with ⟨hw1,hv⟩ | ⟨hw1,rfl⟩
 ·simp only [hw1,if_true]
  obtain ⟨u,hu,he⟩:=hv w hw
  exact .inl (wp_of_quietAt hu fun w' hw'=>by rw [put_same he];exact h w' hw')
 ·simp only [hw1,Bool.false_eq_true,if_false];exact h w (Fr.refl _ _)
theorem EnvY.of_same {o:Oper} {v:Value} {a a':Act} (hy:EnvY P ops S w0 o v a) (he:execOp a'.eval o=execOp a.eval o)
  (hw:Region.wanted o (yielded ops a'.tmps)=Region.wanted o (yielded ops a.tmps)):EnvY P ops S w0 o v a':=by
 unfold EnvY Oper.quietAt at *
 rw [he,hw];exact hy
theorem EnvY.other {j:Nat} {oi oj:Oper} {v:Value} (hj:ops[j]? = some oj) (hap:oi.apart ops oj=true)
  (hsi:∀ cs b,oi.op ≠ .select cs b) (hsj:∀ cs b,oj.op ≠ .select cs b)
  (hQ:∀ c a d v w,Q (.panic c) (a.put d v) w→Q (.panic c) a w) {K:Act→World→Prop} {a:Act} {w:World}
  (hy:EnvY P ops S w0 oi v a) (h:Go.wpOp P ops Q j K (a.put oi.dst v) w) :
  Go.wpOp P ops Q j (fun a' w'=>EnvY P ops S w0 oi v a'∧K (a'.put oi.dst v) w') a w:=by
 obtain ⟨h1,h2,h3⟩:=Oper.apart_spec hap
 have keep:∀ (a:Act),EnvY P ops S w0 oi v a→∀ u,EnvY P ops S w0 oi v (a.put oj.dst u):=fun a hy u =>
  hy.of_same (execOp_put oi hsi a oj.dst u h3) (wanted_put oi a oj.dst u h3)
 have keepD:∀ d,EnvY P ops S w0 oi v { a with defers:=d :: a.defers }:=fun d=>hy.of_same rfl rfl
 unfold Go.wpOp at *
 simp only [hj] at *
 rw [wanted_put oj a oi.dst v h1] at h
 by_cases hw:Region.wanted oj (yielded ops a.tmps)=true
 ·rw [if_pos hw] at h ⊢
  refine h.imp (fun h=>?_) (fun ⟨hasks,hlets⟩=>⟨by unfold Oper.asks at *;rw [execOp_put oj hsj a oi.dst v h1] at hasks;exact hasks,hlets⟩)
  unfold Oper.wp at *
  rw [execOp_put oj hsj a oi.dst v h1] at h
  generalize (execOp a.eval oj).run P w=r at *
  cases r with
  | ok n w' =>
   cases n <;> simp only [Oper.upon] at h ⊢
   case value u=>exact ⟨keep a hy u,by rw [← Act.put_comm a v u h2];exact h⟩
   case skip=>exact ⟨keep a hy _,by rw [← Act.put_comm a v undef h2];exact h⟩
   case defer d=>exact ⟨keep _ (keepD d) _,by rw [← Act.put_comm _ v undef h2,← Act.put_defers];exact h⟩
   case enter f args =>
    refine Calls.mono h fun e w'' he=>?_
    cases e with
    | returned u=>exact ⟨keep a hy u,by rw [← Act.put_comm a v u h2];exact he⟩
    | panicked c=>exact hQ _ _ _ _ _ he
    | outgrown=>exact he
   case row row args=>exact Rows.mono h fun u w'' he=>⟨keep a hy u,by rw [← Act.put_comm a v u h2];exact he⟩
  | halt x w' =>
   cases x <;> simp only [Oper.upon] at h ⊢
   case panic u=>exact hQ _ _ _ _ _ h
 ·rw [if_neg hw] at h ⊢
  exact ⟨keep a hy _,by rw [← Act.put_comm a v undef h2];exact h⟩
theorem Env.first {i:Nat} {oi:Oper} {v:Value} (hi:ops[i]? = some oi) (hsel:Region.noSelect ops=true)
  (hQ:∀ c a d v w,Q (.panic c) (a.put d v) w→Q (.panic c) a w):∀ (f:Nat) (listed:Array Bool) (a:Act) (w:World),
   (∀ j oj,ops[j]? = some oj→j≠i→listed.getD j true=false→(∀ e∈oj.after,Region.binds md e=true→e.on≠i)→oi.apart ops oj=true) →
   i∈Region.ready md ops listed→EnvY P ops S w0 oi v a→Fr S w0 w →
   Env P md ops Q S w0 f (listed.setIfInBounds i true) (a.put oi.dst v) w→Env P md ops Q S w0 (f+1) listed a w
 | f,listed,a,w,hfree,hr,hy,hw,H=>fun w2 h2=>by
  refine ⟨fun h=>(by rw [h] at hr;cases hr),fun j hj=>?_⟩
  by_cases hji:j=i
  ·subst hji;exact hy.wpOp hi (hw.then h2) fun w' hw'=>⟨(hw.then h2).then hw',H.more (h2.trans hw')⟩
  ·have hj':=ready_mono (i:=i) hj hji
   cases f with
   | zero=>have:=(H w2 h2).1;rw [this] at hj';cases hj'
   | succ f =>
    have h1:=(H w2 h2).2 j hj'
    obtain ⟨hjun,oj,hoj,hall⟩:=mem_ready.1 hj
    have hnot:∀ e∈oj.after,Region.binds md e=true→e.on≠i:=fun e he hb heq=>by
     have g1:=hall e he hb
     have g0:=(mem_ready.1 hr).1
     rw [heq] at g1
     rcases Nat.lt_or_ge i listed.size with h' | h'
     ·simp [h'] at g0 g1;rw [g0] at g1;cases g1
     ·simp [Array.getElem?_eq_none h'] at g1
    have g2:=hy.other hoj (hfree j oj hoj hji hjun hnot) (fun cs b=>Region.noSelect_spec hsel i oi cs b hi) (fun cs b=>Region.noSelect_spec hsel j oj cs b hoj) hQ h1
    have hfree':∀ k ok,ops[k]? = some ok→k≠i→(listed.setIfInBounds j true).getD k true=false →
      (∀ e∈ok.after,Region.binds md e=true→e.on≠i)→oi.apart ops ok=true:=fun k ok hk hki hun hno=>by
     refine hfree k ok hk hki ?_ hno
     by_cases hjk:j=k
     ·subst hjk;exact hjun
     ·rw [getD_set_ne true hjk] at hun;exact hun
    refine wpOp_mono (fun a' w' h3=>⟨h3.2.1,Env.first hi hsel hQ f (listed.setIfInBounds j true) a' w' hfree' (ready_mono hr (Ne.symm hji)) h3.1 h3.2.1 ?_⟩) g2
    rw [Array.setIfInBounds_comm _ _ hji]
    exact h3.2.2
def sel:List Bool→List Oper→List Oper
 | true :: m,o :: r=>o :: sel m r
 | false :: m,_ :: r=>sel m r
 | _,_=>[]
def passB (md:Region.Mode) (ops:Array Oper):Nat→List Bool→Array Bool→Bool
 | k,true :: m,listed=>(Region.ready md ops listed).contains k && Region.free md ops listed k && passB md ops (k+1) m (listed.setIfInBounds k true)
 | k,false :: m,listed=>passB md ops (k+1) m listed
 | _,[],_=>true
def markB:Nat→List Bool→Array Bool→Array Bool
 | k,true :: m,listed=>markB (k+1) m (listed.setIfInBounds k true)
 | k,false :: m,listed=>markB (k+1) m listed
 | _,[],listed=>listed
def countB:List Bool→Nat
 | true :: m=>countB m+1
 | false :: m=>countB m
 | []=>0
def dstB (n:Nat):List Oper→Bool
 | []=>true
 | o :: r=>(match o.dst with | some d=>decide (d<n) && r.all fun x=>x.dst != some d | none=>true) && dstB n r
theorem size_put (a:Act) (d:Option Tmp) (v:Value):(a.put d v).tmps.size=a.tmps.size:=by cases d <;> simp [Act.put]
theorem quiet_keeps {C:World→Prop} {aE:Act} {d:Nat}:∀ (l:List Oper) (a:Act),(l.all fun x=>x.dst != some d)=true→wpQuiet P ops C (fun a'=>a'=aE) l a→aE.tmps[d]? = a.tmps[d]?
 | [],a,_,h=>by rw [show a=aE from h]
 | o :: r,a,hd,h=>by
  simp only [List.all_cons,Bool.and_eq_true] at hd
  have hput:∀ v,(a.put o.dst v).tmps[d]? = a.tmps[d]?:=fun v=>by
   cases ho:o.dst with
   | none=>rfl
   | some e =>
    have hne:e≠d:=fun he=>by subst he;rw [ho] at hd;simp at hd
    simp [Act.put,Array.getElem?_setIfInBounds_ne hne]
  unfold wpQuiet at h
  split at h
  ·obtain ⟨v,_,h2⟩:=h;exact (quiet_keeps r _ hd.2 h2).trans (hput v)
  ·exact (quiet_keeps r _ hd.2 h).trans (hput _)
theorem env_pass_list (hs:Region.noSelect ops=true) (hQ:∀ c a d v w,Q (.panic c) (a.put d v) w→Q (.panic c) a w) {aE:Act} {n f:Nat} :
  ∀ (m:List Bool) (L:List Oper) (k:Nat) (listed:Array Bool) (a:Act) (w:World),(∀ j,L[j]? = ops[k+j]?)→passB md ops k m listed=true→dstB n (sel m L)=true→a.tmps.size=n→Fr S w0 w →
   (∀ wf,Fr S w0 wf→wpQuiet P ops (fun w'=>∃ s:In wf,w'=s.at_) (fun a'=>a'=aE) (sel m L) a)→Env P md ops Q S w0 f (markB k m listed) aE w→Env P md ops Q S w0 (f+countB m) listed a w
 | [],L,k,listed,a,w,_,_,_,_,_,h,H=>by
  have h0:a=aE:=by have:=h w0 (Fr.refl _ _);cases L <;> exact this
  subst h0;exact H
 | false :: m,[],k,listed,a,w,hL,hB,hd,hn,hw,h,H=>env_pass_list hs hQ m [] (k+1) listed a w (fun j=>by have:=hL (j+1);simpa [Nat.add_assoc,Nat.add_comm 1 j] using this) hB (by cases m with | nil=>rfl | cons b m=>cases b <;> rfl) hn hw (fun wf hf=>by have:=h wf hf;cases m with | nil=>exact this | cons b m=>cases b <;> exact this) H
 | false :: m,o :: L,k,listed,a,w,hL,hB,hd,hn,hw,h,H=>env_pass_list hs hQ m L (k+1) listed a w (fun j=>by have:=hL (j+1);simpa [Nat.add_assoc,Nat.add_comm 1 j] using this) hB hd hn hw h H
 | true :: m,[],k,listed,a,w,hL,hB,_,_,_,_,_=>by
  exfalso
  simp only [passB,Bool.and_eq_true] at hB
  have hr:k∈Region.ready md ops listed:=by simpa using hB.1.1
  obtain ⟨_,o,ho,_⟩:=mem_ready.1 hr
  have:=hL 0
  simp [ho] at this
 | true :: m,o :: L,k,listed,a,w,hL,hB,hd,hn,hw,h,H=>by
  have h0:ops[k]? = some o:=by simpa using (hL 0).symm
  simp only [passB,Bool.and_eq_true] at hB
  obtain ⟨⟨hr,hf⟩,hB'⟩:=hB
  simp only [sel,dstB,Bool.and_eq_true] at hd
  obtain ⟨hd1,hd2⟩:=hd
  -- the value,and what follows
  have key:∃ v,EnvY P ops S w0 o v a∧∀ wf,Fr S w0 wf→wpQuiet P ops (fun w'=>∃ s:In wf,w'=s.at_) (fun a'=>a'=aE) (sel m L) (a.put o.dst v):=by
   by_cases hw1:Region.wanted o (yielded ops a.tmps)=true
   ·have h':∀ wf,Fr S w0 wf→o.quiet P a (fun w'=>∃ s:In wf,w'=s.at_) (wpQuiet P ops (fun w'=>∃ s:In wf,w'=s.at_) (fun a'=>a'=aE) (sel m L)):=fun wf hf=>by
     have:=h wf hf
     simp only [sel,wpQuiet] at this
     rwa [if_pos hw1] at this
    obtain ⟨v,_,hv2⟩:=h' w0 (Fr.refl _ _)
    have same:∀ wf,Fr S w0 wf→∀ u,wpQuiet P ops (fun w'=>∃ s:In wf,w'=s.at_) (fun a'=>a'=aE) (sel m L) (a.put o.dst u)→o.dst=none∨u=v:=fun wf hf u hu=>by
     cases hod:o.dst with
     | none=>exact .inl rfl
     | some d =>
      rw [hod] at hd1 hu hv2
      simp only [Bool.and_eq_true,decide_eq_true_eq] at hd1
      have e1:=quiet_keeps (sel m L) _ hd1.2 hu
      have e2:=quiet_keeps (sel m L) _ hd1.2 hv2
      have hlt:d<a.tmps.size:=by rw [hn];exact hd1.1
      rw [e1] at e2
      simp [Act.put,hlt] at e2
      exact .inr e2
    refine ⟨v,.inl ⟨hw1,fun wf hf=>?_⟩,fun wf hf=>?_⟩
    ·obtain ⟨u,hu1,hu2⟩:=h' wf hf
     refine ⟨u,?_,same wf hf u hu2⟩
     have hq:=hu1 wf ⟨⟨wf,Fr.refl _ _⟩,rfl⟩
     unfold Oper.quietAt at hq ⊢
     generalize (execOp a.eval o).run P wf=r at *
     cases r with
     | ok x w' =>
      cases x <;> simp only [Oper.quietUpon] at hq ⊢
      case value=>exact hq
      case skip=>exact hq
      case enter g args=>exact ⟨hq.1,hq.2.mono fun e w'' ⟨he,s,hs⟩=>⟨he,hs ▸ s.fr⟩⟩
     | halt x w'=>exact hq
    ·obtain ⟨u,_,hu2⟩:=h' wf hf
     rw [← put_same (same wf hf u hu2)];exact hu2
   ·refine ⟨undef,.inr ⟨by simpa using hw1,rfl⟩,fun wf hf=>?_⟩
    have:=h wf hf
    simp only [sel,wpQuiet] at this
    rwa [if_neg hw1] at this
  obtain ⟨v,hy,hK⟩:=key
  exact Env.first h0 hs hQ (f+countB m) listed a w (Region.free_spec h0 hf) (by simpa using hr) hy hw
   (env_pass_list hs hQ m L (k+1) _ _ w (fun j=>by have:=hL (j+1);simpa [Nat.add_assoc,Nat.add_comm 1 j] using this) hB' hd2 (by rw [size_put];exact hn) hw hK H)
end
section
variable {P:Program} {l:List Oper} {Q:Exit→Act→World→Prop} {w0:World} {S:List Nat}
theorem wp_region_env {id:Nat} {a:Act} {w:World} (hm:P.follows .mixedOrders=true) (S:List Nat) (h:∀ w1,Fr [] w w1→Env P .any l.toArray Q S w l.length (Array.replicate l.length false) a w1):(Code.region id l.toArray true).wp P Q a w :=
 wp_region_any hm (by simpa using Env.sound _ _ _ _ (h w.drew (Fr.refl [] w).drew))
theorem env_pass (m:List Bool) (f:Nat) {g n:Nat} {listed listed':Array Bool} {a:Act} {w:World} (hf:f+countB m=g) (hs:Region.noSelect l.toArray=true) (hB:passB .any l.toArray 0 m listed=true)
  (hd:dstB n (sel m l)=true) (hn:a.tmps.size=n) (hl:markB 0 m listed=listed') (hQ:∀ c a d v w,Q (.panic c) (a.put d v) w→Q (.panic c) a w) (hw:Fr S w0 w)
  (h:∃ aE,(∀ wf,Fr S w0 wf→wpQuiet P l.toArray (fun w'=>∃ s:In wf,w'=s.at_) (fun a'=>a'=aE) (sel m l) a)∧Env P .any l.toArray Q S w0 f listed' aE w):Env P .any l.toArray Q S w0 g listed a w:=by
 subst hf;subst hl
 obtain ⟨aE,h,H⟩:=h
 exact env_pass_list hs hQ m l 0 listed a w (by simp) hB hd hn hw h H
theorem epq (m:List Bool) (f:Nat) {g n:Nat} {listed listed':Array Bool} {a:Act} {w:World} (hw:Fr S w0 w) (h:∃ aE,(∀ wf,Fr S w0 wf→wpQuiet P l.toArray (fun w'=>∃ s:In wf,w'=s.at_) (fun a'=>a'=aE) (sel m l) a)∧Env P .any l.toArray Q S w0 f listed' aE w) (hn:a.tmps.size=n:=by exact rfl) (hl:markB 0 m listed=listed':=by exact rfl) (hf:f+countB m=g:=by exact rfl) (hs:Region.noSelect l.toArray=true:=by kernel_rfl) (hB:passB .any l.toArray 0 m listed=true:=by kernel_rfl) (hd:dstB n (sel m l)=true:=by kernel_rfl) (hQ:∀ c a d v w,Q (.panic c) (a.put d v) w→Q (.panic c) a w:=by intro _ _ d _ _ h;cases d <;> exact h):Env P .any l.toArray Q S w0 g listed a w:=env_pass m f hf hs hB hd hn hl hQ hw h
def Nx (Q:Exit→Act→World→Prop) (K:Act→World→Prop):Exit→Act→World→Prop
 | .normal,a,w=>K a w
 | e,a,w=>Q e a w
theorem wpOp_of_list {i:Nat} {o:Oper} {a:Act} {w:World} {K:Act→World→Prop} (ho:l[i]? = some o) (hl:LetsOut (Nx Q K)→LetsOut Q) (h:wpList P l.toArray (Nx Q K) [o] a w):wpOp P l.toArray Q i K a w:=by
 unfold wpOp
 simp only [List.getElem?_toArray,ho]
 simp only [wpList] at h
 split
 ·rename_i hw
  rw [if_pos hw] at h
  refine h.imp (fun h=>?_) (fun ⟨h1,h2⟩=>⟨h1,hl h2⟩)
  unfold Oper.wp at *
  generalize (execOp a.eval o).run P w=r at *
  cases r with
  | ok n w' =>
   cases n <;> simp only [Oper.upon] at h ⊢ <;> exact h
  | halt x w'=>cases x <;> simp only [Oper.upon] at h ⊢ <;> exact h
 ·rename_i hw
  rw [if_neg hw] at h
  exact h
theorem letsOut_nx {K:Act→World→Prop}:LetsOut (Nx Q K)→LetsOut Q:=fun ⟨a,w,h⟩=>⟨a,w,h⟩
theorem env_ready (rs:List Nat) {f:Nat} {listed:Array Bool} {a:Act} {w:World} (hr:Region.ready .any l.toArray listed=rs) (hne:rs≠[])
  (h:∀ w2,Fr [] w w2→∀ i∈rs,∀ o,l[i]? = some o→wpList P l.toArray (Nx Q (fun a' w'=>Fr S w0 w'∧Env P .any l.toArray Q S w0 f (listed.setIfInBounds i true) a' w')) [o] a w2):Env P .any l.toArray Q S w0 (f+1) listed a w:=by
 intro w2 h2
 refine ⟨fun h0=>absurd (hr.symm.trans h0) hne,fun i hi=>?_⟩
 have hi':=hi
 rw [hr] at hi'
 obtain ⟨_,o,ho,_⟩:=mem_ready.1 hi
 have ho':l[i]? = some o:=by simpa using ho
 exact wpOp_of_list ho' letsOut_nx (h w2 h2 i hi' o ho')
theorem env_one (i:Nat) {o:Oper} {f:Nat} {listed listed':Array Bool} {a:Act} {w:World} (hr:Region.ready .any l.toArray listed=[i]) (ho:l[i]? = some o) (hl:listed.setIfInBounds i true=listed')
  (h:∀ w2,Fr [] w w2→wpList P l.toArray (Nx Q (fun a' w'=>Fr S w0 w'∧Env P .any l.toArray Q S w0 f listed' a' w')) [o] a w2):Env P .any l.toArray Q S w0 (f+1) listed a w:=by
 subst hl
 refine env_ready [i] hr (by simp) fun w2 h2 j hj x hx=>?_
 simp only [List.mem_singleton] at hj
 subst hj
 rw [ho] at hx
 cases hx
 exact h w2 h2
theorem eoq (i:Nat) {o:Oper} {f:Nat} {listed listed':Array Bool} {a:Act} {w:World} (h:∀ w2,Fr [] w w2→wpList P l.toArray (Nx Q (fun a' w'=>Fr S w0 w'∧Env P .any l.toArray Q S w0 f listed' a' w')) [o] a w2) (hl:listed.setIfInBounds i true=listed':=by exact rfl) (hr:Region.ready .any l.toArray listed=[i]:=by kernel_rfl) (ho:l[i]? = some o:=by exact rfl):Env P .any l.toArray Q S w0 (f+1) listed a w:=env_one i hr ho hl h
theorem env_done {f:Nat} {listed:Array Bool} {a:Act} {w:World} (hr:Region.ready .any l.toArray listed=[]) (h:∀ w2,Fr [] w w2→Q .normal a w2):Env P .any l.toArray Q S w0 f listed a w:=by
 cases f with
 | zero=>exact fun w2 h2=>⟨hr,h w2 h2⟩
 | succ f=>exact fun w2 h2=>⟨fun _=>h w2 h2,fun i hi=>by rw [hr] at hi;cases hi⟩
theorem nx_normal {K:Act→World→Prop} {a:Act} {w:World} (h:K a w):Nx Q K .normal a w:=h
end
structure Acc where
 kind:Int
 at_:Int
 old:Int
 new:Int
 ok:Bool
structure St where
 l:List Int
 n:Int
 a:Acc
def inc (n:Int):Int:=wrap64 (n+1)
def isAt (l:List Int) (i:Int):Bool:=decide (0≤i) && decide (i<l.length)
def nth (l:List Int) (k:Nat):Int:=l.getD k 0
def peek (l:List Int) (i:Int):Int:=if isAt l i=true then nth l i.toNat else 0
def poke (l:List Int) (i v:Int):List Int:=if isAt l i=true then l.set i.toNat v else l
theorem isAt_in {l:List Int} {k:Nat} (h:k<l.length):isAt l k=true:=by simp [isAt];omega
theorem isAt_cases (l:List Int) (i:Int):(∃ k:Nat,i=k∧k<l.length∧isAt l i=true)∨((i<0∨l.length≤i)∧isAt l i=false):=by
 by_cases h:0≤i∧i<l.length
 ·obtain ⟨k,rfl⟩:=Int.eq_ofNat_of_zero_le h.1
  exact .inl ⟨k,rfl,by omega,isAt_in (by omega)⟩
 ·refine .inr ⟨by omega,?_⟩
  simp only [isAt,Bool.and_eq_false_iff,decide_eq_false_iff_not]
  omega
theorem peek_at {l:List Int} {k:Nat} (h:k<l.length):peek l k=nth l k:=by rw [peek,if_pos (isAt_in h)];rfl
theorem peek_no {l:List Int} {i:Int} (h:isAt l i=false):peek l i=0:=by rw [peek,if_neg (by simp [h])]
theorem poke_at {l:List Int} {k:Nat} (v:Int) (h:k<l.length):poke l k v=l.set k v:=by rw [poke,if_pos (isAt_in h)];rfl
theorem poke_no {l:List Int} {i:Int} (v:Int) (h:isAt l i=false):poke l i v=l:=by rw [poke,if_neg (by simp [h])]
theorem length_poke (l:List Int) (i v:Int):(poke l i v).length=l.length:=by unfold poke;split <;> simp
theorem nth_poke {l:List Int} {k:Nat} (v:Int) (h:k<l.length) (i:Nat):nth (poke l k v) i=if i=k then v else nth l i:=by
 rw [poke_at v h,nth,nth,List.getD_eq_getElem?_getD,List.getElem?_set]
 by_cases e:k=i
 ·subst e;simp [h]
 ·rw [if_neg e,if_neg (Ne.symm e),List.getD_eq_getElem?_getD]
def St.note (s:St) (kind i was:Int) (ok:Bool):St:=⟨s.l,inc s.n,⟨kind,i,was,peek s.l i,ok⟩⟩
def St.poke (s:St) (i v:Int):St:=⟨Ar.poke s.l i v,s.n,s.a⟩
def St.load (s:St) (i:Int):St:=s.note 1 i (peek s.l i) false
def St.store (s:St) (i v:Int):St:=(s.poke i v).note 2 i (peek s.l i) false
def St.can (s:St) (i old:Int):Bool:=isAt s.l i && (peek s.l i == old)
def St.swap (s:St) (i old v:Int):St:=if s.can i old=true then (s.poke i v).note 3 i (peek s.l i) true else s.note 3 i (peek s.l i) false
def St.add (s:St) (i v:Int):St:=(s.poke i (wrap64 (peek s.l i+v))).note 4 i (peek s.l i) false
def arHead (s:St) (q cap:Nat):Array Value :=
 #[.int .i64 s.l.length,.slice (some ⟨q,0,none⟩) ((s.l.length+63) / 64) cap,.int .i64 s.n,.int .i64 s.a.kind,.int .i64 s.a.at_,.int .i64 s.a.old,.int .i64 s.a.new,.bool s.a.ok]
structure Ar (w:World) (p q:Nat) (s:St):Prop where
 ne:p≠q
 lo:1≤s.l.length
 hi:s.l.length≤20000
 mem:∃ cap c,w.heap[p]? = some (.cells (arHead s q cap) 57 (0,0))∧(s.l.length+63) / 64≤cap∧cap≤maxLen ∧
  w.heap[q]? = some (.cells c 52 (0,0))∧c.size=cap * 64∧(∀ u∈c.toList.take ((s.l.length+63) / 64 * 64),u.oneCell'=true)∧∀ i,i<s.l.length→c[i]? = some (.int .i64 (nth s.l i))
theorem one_set {c:Array Value} {i n:Nat} {v:Value} (h:∀ u∈c.toList.take n,u.oneCell'=true) (hv:v.oneCell'=true):∀ u∈(c.setIfInBounds i v).toList.take n,u.oneCell'=true:=by
 intro u hu
 rw [Array.toList_setIfInBounds,List.take_set] at hu
 rcases List.mem_or_eq_of_mem_set hu with h1 | rfl
 ·exact h u h1
 ·exact hv
theorem Ar.lt {w:World} {p q:Nat} {s:St} (h:Ar w p q s):p<w.heap.size∧q<w.heap.size:=by
 obtain ⟨ne,lo,hi,cap,c,hp,hc1,hc2,hq,hs,hone,hc⟩:=h
 exact ⟨(Array.getElem?_eq_some_iff.1 hp).1,(Array.getElem?_eq_some_iff.1 hq).1⟩
theorem Ar.kept {w w':World} {p q:Nat} {s:St} {S:List Nat} (h:Ar w p q s) (f:Fr S w w') (hp:p∉S:=by simp) (hq:q∉S:=by simp):Ar w' p q s:=by
 have hlt:=h.lt
 obtain ⟨ne,lo,hi,cap,c,h1,h2,h3,h4,h5,h5',h6⟩:=h
 exact ⟨ne,lo,hi,cap,c,(f.block p hlt.1 hp).trans h1,h2,h3,(f.block q hlt.2 hq).trans h4,h5,h5',h6⟩
theorem has_in (w:World) (p q:Nat) (s:St) (k:Nat) (h:Ar w p q s) (hk:k<s.l.length) :
  Calls Tryd.prog 22 #[.pointer (some ⟨p,0,none⟩),.int .i64 k] w fun e w'=>e = .returned (.bool true)∧w=w':=by
 obtain ⟨ne,lo,hi,cap,c,hp,hc1,hc2,hq,hs,hone,hc⟩:=h
 have h0:w.cell? ⟨p,0,none⟩=some (.int .i64 s.l.length):=by rw [cell_of_row w p 0 _ _ _ hp];rfl
 clear hp hq hone hc
 go_enter Tryd.func22,Tryd.ntmps22
 go_wp2
 go_ret
 exact ⟨rfl,rfl⟩
theorem has_out (w:World) (p q:Nat) (s:St) (k:Int) (h:Ar w p q s) (hk:k<0∨s.l.length≤k) :
  Calls Tryd.prog 22 #[.pointer (some ⟨p,0,none⟩),.int .i64 k] w fun e w'=>e = .returned (.bool false)∧w=w':=by
 obtain ⟨ne,lo,hi,cap,c,hp,hc1,hc2,hq,hs,hone,hc⟩:=h
 have h0:w.cell? ⟨p,0,none⟩=some (.int .i64 s.l.length):=by rw [cell_of_row w p 0 _ _ _ hp];rfl
 clear hp hq hone hc
 by_cases hk0:k<0
 ·clear hk
  go_enter Tryd.func22,Tryd.ntmps22
  go_wp2
  go_ret
  exact ⟨rfl,rfl⟩
 ·have hf:decide (k<(s.l.length:Int))=false:=by simp;omega
  have hk1:0≤k:=by omega
  clear hk hk0
  go_enter Tryd.func22,Tryd.ntmps22
  go_wp2
  go_ret
  exact ⟨by simp,rfl⟩
theorem has_any (w:World) (p q:Nat) (s:St) (i:Int) (h:Ar w p q s) :
  Calls Tryd.prog 22 #[.pointer (some ⟨p,0,none⟩),.int .i64 i] w fun e w'=>e = .returned (.bool (isAt s.l i))∧w=w':=by
 rcases isAt_cases s.l i with ⟨k,rfl,hk,e⟩ | ⟨hk,e⟩
 ·rw [e];exact has_in w p q s k h hk
 ·rw [e];exact has_out w p q s i h hk
theorem peek_any (w:World) (p q:Nat) (s:St) (i:Int) (h:Ar w p q s) :
  Calls Tryd.prog 14 #[.pointer (some ⟨p,0,none⟩),.int .i64 i] w fun e w'=>e = .returned (.int .i64 (peek s.l i))∧w=w':=by
 have h':=h
 obtain ⟨ne,lo,hi,cap,c,hp,hc1,hc2,hq,hs,hone,hc⟩:=h
 have h0:w.cell? ⟨p,1,none⟩=some (.slice (some ⟨q,0,none⟩) ((s.l.length+63) / 64) cap):=by rw [cell_of_row w p 1 _ _ _ hp];rfl
 rcases isAt_cases s.l i with ⟨k,rfl,hk,e⟩ | ⟨hk,e⟩
 ·have h1:w.cell? ⟨q,k / 64 * 64+k % 64,none⟩=some (.int .i64 (nth s.l k)):=by rw [cell_of_row w q _ _ _ _ hq,show k / 64 * 64+k % 64=k by omega];exact hc k hk
  rw [peek_at hk]
  clear hp hq hone hc e
  go_enter Tryd.func14,Tryd.ntmps14
  go_wp2_with (go_at_call 22;refine (has_in _ p q s k h' hk).mono ?_;rintro e w' ⟨rfl,rfl⟩)
  go_ret
  exact ⟨rfl,rfl⟩
 ·rw [peek_no e]
  clear hp hq hone hc e
  go_enter Tryd.func14,Tryd.ntmps14
  go_wp2_with (go_at_call 22;refine (has_out _ p q s i h' hk).mono ?_;rintro e w' ⟨rfl,rfl⟩)
  go_ret
  exact ⟨rfl,rfl⟩
theorem poke_any (w:World) (p q:Nat) (s:St) (i v:Int) (h:Ar w p q s) :
  Calls Tryd.prog 10 #[.pointer (some ⟨p,0,none⟩),.int .i64 i,.int .i64 v] w fun e w'=>e = .returned (.tuple #[])∧Ar w' p q (s.poke i v)∧Fr [q] w w':=by
 have h':=h
 obtain ⟨ne,lo,hi,cap,c,hp,hc1,hc2,hq,hs,hone,hc⟩:=h
 have h0:w.cell? ⟨p,1,none⟩=some (.slice (some ⟨q,0,none⟩) ((s.l.length+63) / 64) cap):=by rw [cell_of_row w p 1 _ _ _ hp];rfl
 rcases isAt_cases s.l i with ⟨k,rfl,hk,e⟩ | ⟨hk,e⟩
 ·have h1:w.cell? ⟨q,k / 64 * 64+k % 64,none⟩=some (.int .i64 (nth s.l k)):=by rw [cell_of_row w q _ _ _ _ hq,show k / 64 * 64+k % 64=k by omega];exact hc k hk
  have h2:w.frozen? ⟨q,k / 64 * 64+k % 64,none⟩=false:=frozen_of_row _ _ _ _ _ hq
  have A1:Ar (w.setCell ⟨q,k / 64 * 64+k % 64,none⟩ (.int .i64 v)) p q (s.poke k v):=by
   refine ⟨ne,by simp [St.poke,length_poke];exact lo,by simp [St.poke,length_poke];exact hi,cap,_,?_,by simpa [St.poke,length_poke] using hc1,hc2,heap_setCell_same _ _ _ _ _ _ hq,by simpa using hs,by simp only [St.poke,length_poke];exact one_set hone rfl,?_⟩
   ·rw [heap_setCell_other _ _ _ _ ne];simpa [arHead,St.poke,length_poke] using hp
   ·intro j hj
    rw [show k / 64 * 64+k % 64=k by omega]
    simp only [St.poke,length_poke] at hj
    simp only [St.poke,poke_at v hk,Array.getElem?_setIfInBounds,hc j hj,nth,List.getD_eq_getElem?_getD,List.getElem?_set]
    split
    ·rename_i hkj;subst hkj
     rw [if_pos (by rw [hs];omega)];rfl
    ·rfl
  have F1:Fr [q] w (w.setCell ⟨q,k / 64 * 64+k % 64,none⟩ (.int .i64 v)):=Fr.setCell _ (by simp)
  clear hp hq hone hc e
  go_enter Tryd.func10,Tryd.ntmps10
  go_wp2_with (go_at_call 22;refine (has_in _ p q s k h' hk).mono ?_;rintro e w' ⟨rfl,rfl⟩)
  go_end0
  exact ⟨rfl,A1,F1⟩
 ·have A1:Ar w p q (s.poke i v):=by rw [show s.poke i v=s by simp [St.poke,poke_no v e]];exact h'
  clear hp hq hone hc e
  go_enter Tryd.func10,Tryd.ntmps10
  go_wp2_with (go_at_call 22;refine (has_out _ p q s i h' hk).mono ?_;rintro e w' ⟨rfl,rfl⟩)
  go_end0
  exact ⟨rfl,A1,Fr.refl _ _⟩
theorem note_any (w:World) (p q:Nat) (s:St) (kind i was:Int) (ok:Bool) (h:Ar w p q s) :
  Calls Tryd.prog 37 #[.pointer (some ⟨p,0,none⟩),.int .i64 kind,.int .i64 i,.int .i64 was,.bool ok] w fun e w'=>e = .returned (.tuple #[])∧Ar w' p q (s.note kind i was ok)∧Fr [p] w w':=by
 have h':=h
 obtain ⟨ne,lo,hi,cap,c,hp,hc1,hc2,hq,hs,hone,hc⟩:=h
 have h2:w.cell? ⟨p,2,none⟩=some (.int .i64 s.n):=by rw [cell_of_row w p 2 _ _ _ hp];rfl
 have h3:w.cell? ⟨p,3,none⟩=some (.int .i64 s.a.kind):=by rw [cell_of_row w p 3 _ _ _ hp];rfl
 have h4:w.cell? ⟨p,4,none⟩=some (.int .i64 s.a.at_):=by rw [cell_of_row w p 4 _ _ _ hp];rfl
 have h5:w.cell? ⟨p,5,none⟩=some (.int .i64 s.a.old):=by rw [cell_of_row w p 5 _ _ _ hp];rfl
 have h6:w.cell? ⟨p,6,none⟩=some (.int .i64 s.a.new):=by rw [cell_of_row w p 6 _ _ _ hp];rfl
 have h7:w.cell? ⟨p,7,none⟩=some (.bool s.a.ok):=by rw [cell_of_row w p 7 _ _ _ hp];rfl
 have hf:∀ j,w.frozen? ⟨p,j,none⟩=false:=fun j=>frozen_of_row _ _ _ _ _ hp
 have hf2:=hf 2
 have hf3:=hf 3
 have hf4:=hf 4
 have hf5:=hf 5
 have hf6:=hf 6
 have hf7:=hf 7
 have A1:Ar (w.setCell ⟨p,2,none⟩ (.int .i64 (wrap64 (s.n+1)))) p q ⟨s.l,inc s.n,s.a⟩:=by
  refine ⟨ne,lo,hi,cap,c,heap_setCell_same _ _ _ _ _ _ hp,hc1,hc2,?_,hs,hone,hc⟩
  rw [heap_setCell_other _ _ _ _ (Ne.symm ne)];exact hq
 have A2:Ar ((((((w.setCell ⟨p,2,none⟩ (.int .i64 (wrap64 (s.n+1)))).setCell ⟨p,3,none⟩ (.int .i64 kind)).setCell ⟨p,4,none⟩ (.int .i64 i)).setCell ⟨p,5,none⟩ (.int .i64 was)).setCell ⟨p,6,none⟩ (.int .i64 (peek s.l i))).setCell ⟨p,7,none⟩ (.bool ok)) p q (s.note kind i was ok):=by
  refine ⟨ne,lo,hi,cap,c,heap_setCell_same _ _ _ _ _ _ (heap_setCell_same _ _ _ _ _ _ (heap_setCell_same _ _ _ _ _ _ (heap_setCell_same _ _ _ _ _ _ (heap_setCell_same _ _ _ _ _ _ (heap_setCell_same _ _ _ _ _ _ hp))))),hc1,hc2,?_,hs,hone,hc⟩
  repeat rw [heap_setCell_other _ _ _ _ (Ne.symm ne)]
  exact hq
 have F2:Fr [p] w ((((((w.setCell ⟨p,2,none⟩ (.int .i64 (wrap64 (s.n+1)))).setCell ⟨p,3,none⟩ (.int .i64 kind)).setCell ⟨p,4,none⟩ (.int .i64 i)).setCell ⟨p,5,none⟩ (.int .i64 was)).setCell ⟨p,6,none⟩ (.int .i64 (peek s.l i))).setCell ⟨p,7,none⟩ (.bool ok)) :=
  (((((Fr.setCell _ (by simp)).setCell' _ (by simp)).setCell' _ (by simp)).setCell' _ (by simp)).setCell' _ (by simp)).setCell' _ (by simp)
 clear hf hp hq hone hc
 go_enter Tryd.func37,Tryd.ntmps37
 go_wp2_with fail
 go_wp2_with (go_at_call 14;refine (peek_any _ p q _ i A1).mono ?_;rintro e w' ⟨rfl,rfl⟩)
 go_end0
 exact ⟨rfl,A2,F2⟩
theorem load_any (w:World) (p q:Nat) (s:St) (i:Int) (h:Ar w p q s) :
  Calls Tryd.prog 30 #[.pointer (some ⟨p,0,none⟩),.int .i64 i] w fun e w'=>e = .returned (.int .i64 (peek s.l i))∧Ar w' p q (s.load i)∧Fr [p,q] w w':=by
 go_enter Tryd.func30,Tryd.ntmps30
 go_wp2_with (go_at_call 14;refine (peek_any _ p q _ i h).mono ?_;rintro e w' ⟨rfl,rfl⟩)
 refine (note_any _ p q s 1 i (peek s.l i) false h).mono ?_;rintro e w' ⟨rfl,A1,F1⟩
 go_wp2
 go_ret
 exact ⟨rfl,A1,F1.mono⟩
theorem store_any (w:World) (p q:Nat) (s:St) (i v:Int) (h:Ar w p q s) :
  Calls Tryd.prog 32 #[.pointer (some ⟨p,0,none⟩),.int .i64 i,.int .i64 v] w fun e w'=>e = .returned (.tuple #[])∧Ar w' p q (s.store i v)∧Fr [p,q] w w':=by
 go_enter Tryd.func32,Tryd.ntmps32
 go_wp2_with (go_at_call 14;refine (peek_any _ p q _ i h).mono ?_;rintro e w' ⟨rfl,rfl⟩)
 refine (poke_any _ p q s i v h).mono ?_;rintro e w1 ⟨rfl,A1,F1⟩
 go_wp2_with fail
 refine (note_any _ p q _ 2 i (peek s.l i) false A1).mono ?_;rintro e w2 ⟨rfl,A2,F2⟩
 go_wp2
 go_end0
 exact ⟨rfl,A2,(F1.mono).trans (F2.mono)⟩
theorem add_any (w:World) (p q:Nat) (s:St) (i v:Int) (h:Ar w p q s) :
  Calls Tryd.prog 31 #[.pointer (some ⟨p,0,none⟩),.int .i64 i,.int .i64 v] w fun e w'=>e = .returned (.int .i64 (peek s.l i))∧Ar w' p q (s.add i v)∧Fr [p,q] w w':=by
 go_enter Tryd.func31,Tryd.ntmps31
 go_wp2_with (go_at_call 14;refine (peek_any _ p q _ i h).mono ?_;rintro e w' ⟨rfl,rfl⟩)
 refine (poke_any _ p q s i (wrap64 (peek s.l i+v)) h).mono ?_;rintro e w1 ⟨rfl,A1,F1⟩
 go_wp2_with fail
 refine (note_any _ p q _ 4 i (peek s.l i) false A1).mono ?_;rintro e w2 ⟨rfl,A2,F2⟩
 go_wp2
 go_ret
 exact ⟨rfl,A2,(F1.mono).trans (F2.mono)⟩
theorem swap_any (w:World) (p q:Nat) (s:St) (i old v:Int) (h:Ar w p q s) :
  Calls Tryd.prog 33 #[.pointer (some ⟨p,0,none⟩),.int .i64 i,.int .i64 old,.int .i64 v] w fun e w'=>e = .returned (.bool (s.can i old))∧Ar w' p q (s.swap i old v)∧Fr [p,q] w w':=by
 cases hi:isAt s.l i
 ·have hc:s.can i old=false:=by simp [St.can,hi]
  rw [hc,show s.swap i old v=s.note 3 i (peek s.l i) false by rw [St.swap,if_neg (by simp [hc])]]
  go_enter Tryd.func33,Tryd.ntmps33
  go_wp2_with (first | (go_at_call 14;refine (peek_any _ p q _ i h).mono ?_;rintro e w' ⟨rfl,rfl⟩) | (go_at_call 22;refine (has_any _ p q _ i h).mono ?_;rintro e w' ⟨rfl,rfl⟩))
  refine (note_any _ p q _ 3 i (peek s.l i) false h).mono ?_;rintro e w2 ⟨rfl,A2,F2⟩
  go_wp2
  go_ret
  exact ⟨rfl,A2,F2.mono⟩
 ·cases ho:(peek s.l i == old)
  ·have hc:s.can i old=false:=by simp [St.can,hi,ho]
   rw [hc,show s.swap i old v=s.note 3 i (peek s.l i) false by rw [St.swap,if_neg (by simp [hc])]]
   go_enter Tryd.func33,Tryd.ntmps33
   go_wp2_with (first | (go_at_call 14;refine (peek_any _ p q _ i h).mono ?_;rintro e w' ⟨rfl,rfl⟩) | (go_at_call 22;refine (has_any _ p q _ i h).mono ?_;rintro e w' ⟨rfl,rfl⟩))
   refine (note_any _ p q _ 3 i (peek s.l i) false h).mono ?_;rintro e w2 ⟨rfl,A2,F2⟩
   go_wp2
   go_ret
   exact ⟨rfl,A2,F2.mono⟩
  ·have hc:s.can i old=true:=by simp [St.can,hi,ho]
   rw [hc,show s.swap i old v=(s.poke i v).note 3 i (peek s.l i) true by rw [St.swap,if_pos hc]]
   go_enter Tryd.func33,Tryd.ntmps33
   go_wp2_with (first | (go_at_call 14;refine (peek_any _ p q _ i h).mono ?_;rintro e w' ⟨rfl,rfl⟩) | (go_at_call 22;refine (has_any _ p q _ i h).mono ?_;rintro e w' ⟨rfl,rfl⟩))
   refine (poke_any _ p q s i v h).mono ?_;rintro e w1 ⟨rfl,A1,F1⟩
   go_wp2_with fail
   refine (note_any _ p q _ 3 i (peek s.l i) true A1).mono ?_;rintro e w2 ⟨rfl,A2,F2⟩
   go_wp2
   go_ret
   exact ⟨rfl,A2,(F1.mono).trans (F2.mono)⟩
def St.fresh (n:Nat):St:=⟨List.replicate n 0,0,⟨0,0,0,0,false⟩⟩
def Made (w:World) (s:St) (e:Ending) (w':World):Prop:=∃ p q,e = .returned (.pointer (some ⟨p,0,none⟩))∧w.heap.size≤p∧w.heap.size≤q∧Ar w' p q s∧Fr [] w w'
def page0:Value:=.agg (Array.replicate 64 (.int .i64 0))
theorem pageInfo:(Tryd.prog.info? 52).map (fun i=>(i.zero,i.size,i.bytes))=some (some page0,64,512):=by kernel_rfl
theorem page0_cells (n:Nat):∀ j,j<n→(madeCells page0.cells n).toList[j]? = some (.int .i64 0):=by
 intro j hj
 have h:j % 64<64:=Nat.mod_lt _ (by decide)
 simp [madeCells,page0,Value.cells,hj]
 rw [getElem!_pos _ _ (by simpa using h)]
 simp
theorem page_one (n:Nat):∀ u∈(madeCells page0.cells n).toList,u.oneCell'=true:=by
 intro u hu
 obtain ⟨j,hj,rfl⟩:=List.getElem_of_mem hu
 have h:=page0_cells n j (by simpa [madeCells] using hj)
 rw [List.getElem?_eq_getElem hj] at h
 rw [Option.some.inj h];rfl
theorem made_ar {w w1:World} (n:Nat) (lo:1≤n) (hi:n≤20000) (hown:w1.ownsRow 0 52 64 (.slice (some ⟨w.heap.size,0,none⟩) ((n+63) / 64) ((n+63) / 64)) ((n+63) / 64) (madeCells page0.cells ((n+63) / 64 * 64)).toList) (hg:w.grownBy w1 none) (hne:w.heap.size<w1.heap.size) :
  Made w (St.fresh n) (.returned (.pointer (some ⟨w1.heap.size,0,none⟩))) (w1.alloc (.cells #[.int .i64 n,.slice (some ⟨w.heap.size,0,none⟩) ((n+63) / 64) ((n+63) / 64),.int .i64 0,.int .i64 0,.int .i64 0,.int .i64 0,.int .i64 0,.bool false] 57)):=by
 refine ⟨w1.heap.size,w.heap.size,rfl,by omega,Nat.le_refl _,?_,(Fr.grown hg).alloc _⟩
 obtain ⟨h1,h2⟩:=hown
 rcases h2 with ⟨h2,_⟩ | ⟨g,cap,cur,hv,-,hh,hc1,hc2,hsz,htk⟩
 ·cases h2
 ·simp only [Value.slice.injEq,Option.some.injEq,Addr.mk.injEq] at hv
  obtain ⟨⟨rfl,-,-⟩,-,rfl⟩:=hv
  refine ⟨by omega,by simpa [St.fresh] using lo,by simpa [St.fresh] using hi,(n+63) / 64,cur,?_,by simp [St.fresh],hc2,?_,hsz,?_,?_⟩
  ·rw [Go.heap_alloc_new];simp [arHead,St.fresh]
  ·rw [heap_alloc_old _ _ hne];exact hh
  ·have e0:cur.toList=(madeCells page0.cells ((n+63) / 64 * 64)).toList:=by rw [← htk,List.take_of_length_le (by simp [hsz])]
   intro u hu;exact page_one _ u (e0 ▸ List.mem_of_mem_take hu)
  ·intro i hi'
   simp only [St.fresh,List.length_replicate] at hi'
   have e1:cur.toList[i]? = (madeCells page0.cells ((n+63) / 64 * 64)).toList[i]?:=by
    rw [← htk,List.getElem?_take_of_lt (by omega)]
   rw [page0_cells _ _ (by omega)] at e1
   rw [Array.getElem?_toList] at e1
   rw [e1,nth,St.fresh,List.getD_eq_getElem?_getD,List.getElem?_replicate,if_pos hi']
   rfl
theorem own_lt {w1:World} {b:Nat} {E:TypeId} {sz g n cap k:Nat} {xs:List Value} (h:w1.ownsRow b E sz (.slice (some ⟨g,0,none⟩) n cap) k xs):g<w1.heap.size:=by
 rcases h.2 with ⟨h,_⟩ | ⟨g,_,_,hv,_,hh,_⟩
 ·cases h
 ·cases hv;exact (Array.getElem?_eq_some_iff.1 hh).1
theorem new_at (n:Nat) (i:Int) (lo:1≤n) (hi:n≤20000) (hn:(i<1∧n=1)∨(1≤i∧i≤20000∧i=n)∨(20000<i∧n=20000)) (w:World) :
  Calls Tryd.prog 19 #[.int .i64 i] w (Made w (St.fresh n)):=by
 obtain ⟨i0,h0,hz0,hz1,hz2⟩:=info_parts pageInfo
 rcases hn with ⟨h1,rfl⟩ | ⟨h1,h2,rfl⟩ | ⟨h1,rfl⟩
 ·go_enter Tryd.func19,Tryd.ntmps19
  go_wp2_with (at_make;refine wpList_make_full _ rfl _ _ 53 rfl 0 52 i0 page0 64 Tryd.underlying53 h0 hz0 hz1 _ _ _ _ 1 rfl rfl rfl rfl (by rw [hz2];decide) (by decide) (Nat.zero_le _) ?_;intro w1 hown hg;have hM:=made_ar 1 lo hi hown hg (own_lt hown);clear hown)
  go_ret
  exact hM
 ·have e1:((n:Int)+64 - 1) / 64=(((n+63) / 64:Nat):Int):=by omega
  go_enter Tryd.func19,Tryd.ntmps19
  go_wp2_with (at_make;refine wpList_make_full _ rfl _ _ 53 rfl 0 52 i0 page0 64 Tryd.underlying53 h0 hz0 hz1 _ _ _ _ ((n+63) / 64) rfl rfl e1 e1 (by rw [hz2];omega) (by unfold maxLen;omega) (Nat.zero_le _) ?_;intro w1 hown hg;have hM:=made_ar n lo hi hown hg (own_lt hown);clear hown)
  go_ret
  exact hM
 ·go_enter Tryd.func19,Tryd.ntmps19
  go_wp2_with (at_make;refine wpList_make_full _ rfl _ _ 53 rfl 0 52 i0 page0 64 Tryd.underlying53 h0 hz0 hz1 _ _ _ _ 313 rfl rfl rfl rfl (by rw [hz2];decide) (by decide) (Nat.zero_le _) ?_;intro w1 hown hg;have hM:=made_ar 20000 lo hi hown hg (own_lt hown);clear hown)
  go_ret
  exact hM
end Go.Proofs.YtmdplidjkkjmmaaDoor.Ar
namespace Go.Proofs.YtmdplidjkkjmmaaDoor.Pl
open Go.RowKit Go.Proofs.YtmdplidjkkjmmaaDoor.Ar
theorem conf_any (t c wd:Int) (w:World) :
  Calls Tryd.prog 7 #[.int .i64 t,.int .i64 c,.int .i64 wd] w fun e w'=>e = .returned (.agg #[.int .i64 t,.int .i64 c,.int .i64 wd,.int .i64 1000])∧Fr [] w w':=by
 go_enter Tryd.func7,Tryd.ntmps7
 go_wp2
 exact bodyPost_ret (v:=.agg #[.int .i64 t,.int .i64 c,.int .i64 wd,.int .i64 1000]) (by simp [results,Tryd.results7,go_sem]) rfl ⟨rfl,(Fr.refl _ _).alloc _⟩
theorem size_any (t c wd v:Int) (h1:1≤c) (h2:c≤16) (w:World) :
  Calls Tryd.prog 35 #[.agg #[.int .i64 t,.int .i64 c,.int .i64 wd,.int .i64 v]] w fun e w'=>e = .returned (.int .i64 (7+3 * c))∧Fr [] w w':=by
 go_enter Tryd.func35,Tryd.ntmps35
 go_wp2
 go_ret
 exact ⟨rfl,(Fr.refl _ _).alloc _⟩
theorem psa_any (t:Int) (h1:0≤t) (h2:t≤8) (w:World) :
  Calls Tryd.prog 36 #[.int .i64 t] w fun e w'=>e = .returned (.int .i64 (3+t))∧w=w':=by
 go_enter Tryd.func36,Tryd.ntmps36
 go_wp2
 go_ret
 exact ⟨rfl,rfl⟩
theorem firstHint_any (t c wd v:Int) (h1:1≤t) (h2:t≤8) (w:World) :
  Calls Tryd.prog 28 #[.agg #[.int .i64 t,.int .i64 c,.int .i64 wd,.int .i64 v]] w fun e w'=>e = .returned (.int .i64 (3+t))∧Fr [] w w':=by
 go_enter Tryd.func28,Tryd.ntmps28
 go_wp2_with (go_at_call 36;refine (psa_any _ (by omega) h2 _).mono ?_;rintro e w' ⟨rfl,rfl⟩)
 go_ret
 exact ⟨rfl,(Fr.refl _ _).alloc _⟩
theorem head_any (t c wd v:Int) (h1:1≤t) (h2:t≤8) (w:World) :
  Calls Tryd.prog 21 #[.agg #[.int .i64 t,.int .i64 c,.int .i64 wd,.int .i64 v]] w fun e w'=>e = .returned (.int .i64 (3+t+4))∧Fr [] w w':=by
 go_enter Tryd.func21,Tryd.ntmps21
 go_wp2_with fail
 refine (firstHint_any t c wd v h1 h2 _).mono ?_;rintro e w1 ⟨rfl,F1⟩
 have G:=((Fr.refl [] w).alloc _).trans F1
 clear F1
 go_wp2
 go_ret
 exact ⟨rfl,G⟩
theorem first_any (t c wd v:Int) (h1:1≤t) (h2:t≤8) (w:World) :
  Calls Tryd.prog 9 #[.agg #[.int .i64 t,.int .i64 c,.int .i64 wd,.int .i64 v]] w fun e w'=>e = .returned (.int .i64 (3+t+4+7))∧Fr [] w w':=by
 go_enter Tryd.func9,Tryd.ntmps9
 go_wp2_with fail
 refine (head_any t c wd v h1 h2 _).mono ?_;rintro e w1 ⟨rfl,F1⟩
 have G:=((Fr.refl [] w).alloc _).trans F1
 clear F1
 go_wp2
 go_ret
 exact ⟨rfl,G⟩
theorem cells4 {w:World} {b:Nat} {t:TypeId} {x0 x1 x2 x3:Value} (h:w.heap[b]? = some (.cells #[x0,x1,x2,x3] t (0,0))) :
  w.cell? ⟨b,0,none⟩=some x0∧w.cell? ⟨b,1,none⟩=some x1∧w.cell? ⟨b,2,none⟩=some x2∧w.cell? ⟨b,3,none⟩=some x3 :=
 ⟨by rw [cell_of_row _ _ _ _ _ _ h];rfl,by rw [cell_of_row _ _ _ _ _ _ h];rfl,by rw [cell_of_row _ _ _ _ _ _ h];rfl,by rw [cell_of_row _ _ _ _ _ _ h];rfl⟩
theorem top_any (t c wd v:Int) (h1:1≤t) (h2:t≤8) (h3:1≤c) (h4:c≤16) (w:World) :
  Calls Tryd.prog 27 #[.agg #[.int .i64 t,.int .i64 c,.int .i64 wd,.int .i64 v]] w fun e w'=>e = .returned (.int .i64 (21+t+3 * c))∧Fr [] w w':=by
 go_enter Tryd.func27,Tryd.ntmps27
 go_wp2_with fail
 obtain ⟨c0,c1,c2,c3⟩:=cells4 (Go.heap_alloc_new w (.cells #[.int .i64 t,.int .i64 c,.int .i64 wd,.int .i64 v] 25))
 have k0:=In.cell c0
 have k1:=In.cell c1
 have k2:=In.cell c2
 have k3:=In.cell c3
 clear c0 c1 c2 c3
 refine wiq ?_
 repeat (go_big_quiet_step ((first | (go_at_call 9;exact Calls.in_ (first_any _ _ _ _ h1 h2 _)) | (go_at_call 35;exact Calls.in_ (size_any _ _ _ _ h3 h4 _)))))
 refine wpQuiet_nil ?_
 intro w1 F1
 go_wp2
 go_ret
 exact ⟨ret_eq (by omega),((Fr.refl [] w).alloc _).trans F1⟩
theorem state_any (a i:Int) (h1:0≤a) (h2:a≤1000000) (h3:0≤i) (h4:i≤1000) (w:World) :
  Calls Tryd.prog 12 #[.int .i64 a,.int .i64 i] w fun e w'=>e = .returned (.int .i64 (a+7+3 * i))∧w=w':=by
 go_enter Tryd.func12,Tryd.ntmps12
 go_wp2
 go_ret
 exact ⟨rfl,rfl⟩
theorem within_true (n a b:Int) (h1:a≤n) (h2:n≤b) (w:World) :
  Calls Tryd.prog 26 #[.int .i64 n,.int .i64 a,.int .i64 b] w fun e w'=>e = .returned (.bool true)∧w=w':=by
 go_enter Tryd.func26,Tryd.ntmps26
 go_wp2
 go_ret
 exact ⟨rfl,rfl⟩
theorem within_false (n a b:Int) (h:n<a∨b<n) (w:World) :
  Calls Tryd.prog 26 #[.int .i64 n,.int .i64 a,.int .i64 b] w fun e w'=>e = .returned (.bool false)∧w=w':=by
 by_cases h1:n<a
 ·clear h
  go_enter Tryd.func26,Tryd.ntmps26
  go_wp2
  go_ret
  exact ⟨rfl,rfl⟩
 ·have h2:b<n:=by omega
  have h3:a≤n:=by omega
  have hf:decide (n≤b)=false:=by simp;omega
  clear h h1 h2
  go_enter Tryd.func26,Tryd.ntmps26
  go_wp2
  go_ret
  exact ⟨rfl,rfl⟩
def errv (n:Int):Value:=if n=0 then .nilIface else .iface 64 (.int .i64 n)
def form (t c wd v:Int):Bool:=decide (1≤t) && decide (t≤8) && decide (t+2≤c) && decide (c≤16) && decide (1≤v) && decide (v≤1048576) && decide (1≤wd) && decide (wd≤20000)
def code (t c wd v:Int):Int:=if form t c wd v=true then (if 21+t+3 * c≤wd then 0 else 14) else 10
theorem form_iff {t c wd v:Int}:form t c wd v=true↔(1≤t∧t≤8∧t+2≤c∧c≤16∧1≤v∧v≤1048576∧1≤wd∧wd≤20000):=by
 simp only [form,Bool.and_eq_true,decide_eq_true_eq,and_assoc]
theorem is_form (t c wd v:Int) (h:t<1∨8<t∨c<t+2∨16<c∨v<1∨1048576<v∨wd<1∨20000<wd) (w:World) :
  Calls Tryd.prog 18 #[.agg #[.int .i64 t,.int .i64 c,.int .i64 wd,.int .i64 v]] w fun e w'=>e = .returned (.iface 64 (.int .i64 10))∧Fr [] w w':=by
 by_cases hh:t<1∨8<t
 ·clear h
  have F:=within_false t 1 8 hh
  have H:=Lib.hid F
  clear F hh
  go_enter Tryd.func18,Tryd.ntmps18
  go_wp2_with fail
  refine (H.out _).mono ?_;rintro e w1 ⟨rfl,rfl⟩
  go_wp2
  go_ret
  exact ⟨rfl,(Fr.refl _ _).alloc _⟩
 ·have T:=Lib.hid (within_true t 1 8 (by omega) (by omega))
  have t1:1≤t:=by omega
  have t2:t≤8:=by omega
  by_cases hc:c<t+2∨16<c
  ·have H:=Lib.hid (within_false c (t+2) 16 hc)
   clear h hh hc
   go_enter Tryd.func18,Tryd.ntmps18
   go_wp2_with fail
   refine (T.out _).mono ?_;rintro e w1 ⟨rfl,rfl⟩
   go_wp2_with fail
   refine (H.out _).mono ?_;rintro e w1 ⟨rfl,rfl⟩
   go_wp2
   go_ret
   exact ⟨rfl,(Fr.refl _ _).alloc _⟩
  ·have C:=Lib.hid (within_true c (t+2) 16 (by omega) (by omega))
   by_cases hv:v<1∨1048576<v
   ·have H:=Lib.hid (within_false v 1 1048576 hv)
    clear h hh hc hv
    go_enter Tryd.func18,Tryd.ntmps18
    go_wp2_with fail
    refine (T.out _).mono ?_;rintro e w1 ⟨rfl,rfl⟩
    go_wp2_with fail
    refine (C.out _).mono ?_;rintro e w1 ⟨rfl,rfl⟩
    go_wp2_with fail
    refine (H.out _).mono ?_;rintro e w1 ⟨rfl,rfl⟩
    go_wp2
    go_ret
    exact ⟨rfl,(Fr.refl _ _).alloc _⟩
   ·have V:=Lib.hid (within_true v 1 1048576 (by omega) (by omega))
    have H:=Lib.hid (within_false wd 1 20000 (by omega))
    clear h hh hc hv
    go_enter Tryd.func18,Tryd.ntmps18
    go_wp2_with fail
    refine (T.out _).mono ?_;rintro e w1 ⟨rfl,rfl⟩
    go_wp2_with fail
    refine (C.out _).mono ?_;rintro e w1 ⟨rfl,rfl⟩
    go_wp2_with fail
    refine (V.out _).mono ?_;rintro e w1 ⟨rfl,rfl⟩
    go_wp2_with fail
    refine (H.out _).mono ?_;rintro e w1 ⟨rfl,rfl⟩
    go_wp2
    go_ret
    exact ⟨rfl,(Fr.refl _ _).alloc _⟩
theorem is_well (t c wd v:Int) (h:form t c wd v=true) (w:World) :
  Calls Tryd.prog 18 #[.agg #[.int .i64 t,.int .i64 c,.int .i64 wd,.int .i64 v]] w fun e w'=>e = .returned (errv (if 21+t+3 * c≤wd then 0 else 14))∧Fr [] w w':=by
 obtain ⟨t1,t2,c1,c2,v1,v2,w1,w2⟩:=form_iff.1 h
 have T:=Lib.hid (within_true t 1 8 t1 t2)
 have C:=Lib.hid (within_true c (t+2) 16 c1 c2)
 have V:=Lib.hid (within_true v 1 1048576 v1 v2)
 have W:=Lib.hid (within_true wd 1 20000 w1 w2)
 have TP:=Lib.hid (top_any t c wd v t1 t2 (by omega) c2)
 clear h c1
 by_cases hf:21+t+3 * c≤wd
 all_goals
  first | rw [if_pos hf] | rw [if_neg hf]
  go_enter Tryd.func18,Tryd.ntmps18
  go_wp2_with fail
  refine (T.out _).mono ?_;rintro e w1 ⟨rfl,rfl⟩
  go_wp2_with fail
  refine (C.out _).mono ?_;rintro e w1 ⟨rfl,rfl⟩
  go_wp2_with fail
  refine (V.out _).mono ?_;rintro e w1 ⟨rfl,rfl⟩
  go_wp2_with fail
  refine (W.out _).mono ?_;rintro e w1 ⟨rfl,rfl⟩
  go_wp2_with fail
  obtain ⟨c0,c1,c2,c3⟩:=cells4 (Go.heap_alloc_new w (.cells #[.int .i64 t,.int .i64 c,.int .i64 wd,.int .i64 v] 25))
  have k0:=In.cell c0
  have k1:=In.cell c1
  have k2:=In.cell c2
  have k3:=In.cell c3
  clear c0 c1 c2 c3
  refine wiq ?_
  repeat (go_big_quiet_step ((go_at_call 27;exact Calls.in_ (TP.out _))))
  refine wpQuiet_nil ?_
  intro w1 F1
  have G:=((Fr.refl [] w).alloc _).trans F1
  clear F1
  go_wp2
  go_ret
  exact ⟨rfl,G⟩
theorem is_any (t c wd v:Int) (w:World) :
  Calls Tryd.prog 18 #[.agg #[.int .i64 t,.int .i64 c,.int .i64 wd,.int .i64 v]] w fun e w'=>e = .returned (errv (code t c wd v))∧Fr [] w w':=by
 cases h:form t c wd v
 ·have hn:¬ form t c wd v=true:=by simp [h]
  rw [form_iff] at hn
  rw [code,if_neg (by simp [h])]
  exact is_form t c wd v (by omega) w
 ·rw [code,if_pos h];exact is_well t c wd v h w
end Go.Proofs.YtmdplidjkkjmmaaDoor.Pl
namespace Go.Proofs.YtmdplidjkkjmmaaDoor.Word
open Go.RowKit
def Dr (w w':World):Prop:=∃ m,w'=w.drewN m
def Tab (w:World):Prop :=
 w.cell? ⟨0,0,none⟩=some (.int .i64 0)∧w.cell? ⟨0,1,none⟩=some (.int .i64 1073741824) ∧
 w.cell? ⟨0,2,none⟩=some (.int .i64 0)∧w.cell? ⟨0,3,none⟩=some (.int .i64 1073741824) ∧
 w.cell? ⟨0,4,none⟩=some (.int .i64 0)∧w.cell? ⟨0,5,none⟩=some (.int .i64 16777212) ∧
 w.cell? ⟨0,6,none⟩=some (.int .i64 0)∧w.cell? ⟨0,7,none⟩=some (.int .i64 16777212) ∧
 w.cell? ⟨0,8,none⟩=some (.int .i64 0)∧w.cell? ⟨0,9,none⟩=some (.int .i64 1048576) ∧
 w.cell? ⟨0,10,none⟩=some (.int .i64 (-1))∧w.cell? ⟨0,11,none⟩=some (.int .i64 1048576)
def heldI (lo hi n:Int):Int:=if hi<(if n<lo then lo else n) then hi else (if n<lo then lo else n)
theorem heldI_bd {lo hi:Int} (n:Int) (a:lo≤hi):lo≤heldI lo hi n∧heldI lo hi n≤hi:=by unfold heldI;split <;> split <;> omega
theorem ret_dr {k:IntKind} {a b:Int} {w w':World} (h:a=b) (d:Dr w w'):Ending.returned (.int k a) = .returned (.int k b)∧Dr w w':=⟨by rw [h],d⟩
theorem ret_same {k:IntKind} {a b:Int} {w:World} (h:a=b):Ending.returned (.int k a) = .returned (.int k b)∧w=w:=⟨by rw [h],rfl⟩
/-! ### held: each row of the table -/
theorem held0 (n:Int) (w:World) (t:Tab w):Calls Tryd.prog 38 #[.int .i64 n,.int .i64 0] w fun e w'=>e = .returned (.int .i64 (heldI 0 1073741824 n))∧Dr w w':=by
 obtain ⟨h0,h1,-⟩:=t
 go_enter Tryd.func38,Tryd.ntmps38
 go_wp2
 go_quiet (fail)
 go_wp2
 all_goals go_ret
 all_goals exact ret_dr (by unfold heldI;repeat (first | rw [if_pos (by assumption)] | rw [if_neg (by omega)])) ⟨_,rfl⟩
theorem held2 (n:Int) (w:World) (t:Tab w):Calls Tryd.prog 38 #[.int .i64 n,.int .i64 2] w fun e w'=>e = .returned (.int .i64 (heldI 0 16777212 n))∧Dr w w':=by
 obtain ⟨-,-,-,-,h0,h1,-⟩:=t
 go_enter Tryd.func38,Tryd.ntmps38
 go_wp2
 go_quiet (fail)
 go_wp2
 all_goals go_ret
 all_goals exact ret_dr (by unfold heldI;repeat (first | rw [if_pos (by assumption)] | rw [if_neg (by omega)])) ⟨_,rfl⟩
/-! ### join,upper,lower -/
/-! ### The face -/
def stateI (v:Int):Int:=heldI 0 16777212 v+3
def versionI (s:Int):Int:=if s<3 then -1 else s - 3
theorem state_any (v:Int) (w:World) (t:Tab w):Calls Tryd.prog 34 #[.int .i64 v] w fun e w'=>e = .returned (.int .i64 (stateI v))∧Dr w w':=by
 have hb:=heldI_bd (lo:=0) (hi:=16777212) v (by decide)
 go_enter Tryd.func34,Tryd.ntmps34
 go_wp2_with fail
 refine (held2 _ _ t).mono ?_
 rintro e w' ⟨rfl,m,rfl⟩
 go_wp2
 go_ret
 exact ret_dr rfl ⟨_,rfl⟩
theorem version_any (s:Int) (w:World) (h:s≤9223372036854775807):Calls Tryd.prog 25 #[.int .i64 s] w fun e w'=>e = .returned (.int .i64 (versionI s))∧w'=w:=by
 by_cases c:s<3
 all_goals
  go_enter Tryd.func25,Tryd.ntmps25
  go_wp2
  go_ret
  exact ret_same (by unfold versionI;first | rw [if_pos (by omega)] | rw [if_neg (by omega)])
end Go.Proofs.YtmdplidjkkjmmaaDoor.Word
namespace Go.Proofs.YtmdplidjkkjmmaaDoor.Ref
end Go.Proofs.YtmdplidjkkjmmaaDoor.Ref
