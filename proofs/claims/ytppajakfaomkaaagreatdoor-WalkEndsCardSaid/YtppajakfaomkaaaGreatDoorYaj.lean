/- Parts. -/
import Derived.Test.YtppajakfaomkaaaGreatDoorYaa
import Derived.StillTail
set_option linter.unusedVariables false
set_option linter.unusedSimpArgs false
set_option maxRecDepth 100000
set_option maxHeartbeats 12800000
namespace Go.Proofs.YtppajakfaomkaaaGreatDoor.Ar
open Go.RowKit
section
variable {P:Program} {ops:Array Oper} {Q:Exit->Act->World->Prop} {md:Region.Mode} {w0:World} {S:List Nat} {LA:Array Bool} {g:Nat}
def Qr (P:Program) (md:Region.Mode) (ops:Array Oper) (Q:Exit->Act->World->Prop) (S:List Nat) (w0:World) (LA:Array Bool) (g:Nat):Nat->Array Bool->Act->World->Prop
 | 0,listed,a,w=>∀ w2,Fr [] w w2->listed=LA/\wpAny P md ops Q g LA a w2
 | f+1,listed,a,w=>∀ w2,Fr [] w w2->Region.ready md ops listed≠[] /\
   ∀ i∈Region.ready md ops listed,wpOp P ops Q i (fun a' w'=>Fr S w0 w'/\Qr P md ops Q S w0 LA g f (listed.setIfInBounds i true) a' w') a w2
theorem Qr.more {f:Nat} {listed:Array Bool} {a:Act} {w w':World} (h:Qr P md ops Q S w0 LA g f listed a w) (k:Fr [] w w'):Qr P md ops Q S w0 LA g f listed a w':=by
 cases f with
 | zero=>exact fun w2 h2=>h w2 (k.trans h2)
 | succ f=>exact fun w2 h2=>h w2 (k.trans h2)
theorem Qr.sound:∀ (f:Nat) (listed:Array Bool) (a:Act) (w:World),Qr P md ops Q S w0 LA g f listed a w->wpAny P md ops Q (f+g) listed a w
 | 0,listed,a,w,h=>by obtain ⟨rfl,h1⟩:=h w (Fr.refl _ _);rw [Nat.zero_add];exact h1
 | f+1,_,_,w,h=>by
  rw [show f+1+g=(f+g)+1 by omega]
  exact ⟨fun h0=>absurd h0 (h w (Fr.refl _ _)).1,fun i hi=>wpOp_mono (fun a' w' hh=>Qr.sound f _ a' w' hh.2) ((h w (Fr.refl _ _)).2 i hi)⟩
def Ki (md:Region.Mode) (ops:Array Oper) (LA:Array Bool) (i:Nat):Bool:=(List.range LA.size).all fun j=>LA.getD j true || Region.waitsFor md ops j i
theorem Xg {i j:Nat} (h:Ki md ops LA i=true) (hj:LA.getD j true=false):∃ oj,ops[j]? = some oj/\∃ e∈oj.after,Region.binds md e=true/\e.on=i:=by
 unfold Ki at h
 have hlt:j<LA.size:=by
  rcases Nat.lt_or_ge j LA.size with h' | h'
  ·exact h'
  ·simp [Array.getElem?_eq_none h'] at hj
 have:=List.all_eq_true.1 h j (List.mem_range.2 hlt)
 rw [hj] at this
 exact Region.waitsFor_spec (by simpa using this)
theorem Qr.first {i:Nat} {oi:Oper} {v:Value} (hi:ops[i]? = some oi) (hsel:Region.noSelect ops=true) (hLB:Ki md ops LA i=true)
  (hQ:∀ c a d v w,Q (.panic c) (a.put d v) w->Q (.panic c) a w):∀ (f:Nat) (listed:Array Bool) (a:Act) (w:World),
   (∀ j oj,ops[j]? = some oj->j≠i->listed.getD j true=false->(∀ e∈oj.after,Region.binds md e=true->e.on≠i)->oi.apart ops oj=true) ->
   i∈Region.ready md ops listed->Ws P ops S w0 oi v a->Fr S w0 w ->
   Qr P md ops Q S w0 LA g f (listed.setIfInBounds i true) (a.put oi.dst v) w->Qr P md ops Q S w0 LA g (f+1) listed a w
 | f,listed,a,w,hfree,hr,hy,hw,H=>fun w2 h2=>by
  refine ⟨fun h=>(by rw [h] at hr;cases hr),fun j hj=>?_⟩
  by_cases hji:j=i
  ·subst hji;exact hy.wpOp hi (hw.then h2) fun w' hw'=>⟨(hw.then h2).then hw',H.more (h2.trans hw')⟩
  ·have hj':=ready_mono (i:=i) hj hji
   obtain ⟨hjun,oj,hoj,hall⟩:=mem_ready.1 hj
   have hnot:∀ e∈oj.after,Region.binds md e=true->e.on≠i:=fun e he hb heq=>by
    have g1:=hall e he hb
    have g0:=(mem_ready.1 hr).1
    rw [heq] at g1
    rcases Nat.lt_or_ge i listed.size with h' | h'
    ·simp [h'] at g0 g1;rw [g0] at g1;cases g1
    ·simp [Array.getElem?_eq_none h'] at g1
   cases f with
   | zero =>
    have hLA:=(H w2 h2).1
    rw [hLA] at hj'
    obtain ⟨ok,hok,e,he,hb,hon⟩:=Xg hLB (mem_ready.1 hj').1
    rw [hoj] at hok
    cases hok
    exact absurd hon (hnot e he hb)
   | succ f =>
    have h1:=(H w2 h2).2 j hj'
    have g2:=hy.other hoj (hfree j oj hoj hji hjun hnot) (fun cs b=>Region.noSelect_spec hsel i oi cs b hi) (fun cs b=>Region.noSelect_spec hsel j oj cs b hoj) hQ h1
    have hfree':∀ k ok,ops[k]? = some ok->k≠i->(listed.setIfInBounds j true).getD k true=false ->
      (∀ e∈ok.after,Region.binds md e=true->e.on≠i)->oi.apart ops ok=true:=fun k ok hk hki hun hno=>by
     refine hfree k ok hk hki ?_ hno
     by_cases hjk:j=k
     ·subst hjk;exact hjun
     ·rw [getD_set_ne true hjk] at hun;exact hun
    refine wpOp_mono (fun a' w' h3=>⟨h3.2.1,Qr.first hi hsel hLB hQ f (listed.setIfInBounds j true) a' w' hfree' (ready_mono hr (Ne.symm hji)) h3.1 h3.2.1 ?_⟩) g2
    rw [Array.setIfInBounds_comm _ _ hji]
    exact h3.2.2
def Vi (md:Region.Mode) (ops:Array Oper) (LA:Array Bool):Nat->List Bool->Bool
 | k,true :: m=>Ki md ops LA k && Vi md ops LA (k+1) m
 | k,false :: m=>Vi md ops LA (k+1) m
 | _,[]=>true
theorem Q0 (hs:Region.noSelect ops=true) (hQ:∀ c a d v w,Q (.panic c) (a.put d v) w->Q (.panic c) a w) {aE:Act} {n f:Nat} :
  ∀ (m:List Bool) (L:List Oper) (k:Nat) (listed:Array Bool) (a:Act) (w:World),(∀ j,L[j]? = ops[k+j]?)->Qd md ops k m listed=true->Vi md ops LA k m=true->Uu n (sel m L)=true->a.tmps.size=n->Fr S w0 w ->
   (∀ wf,Fr S w0 wf->wpQuiet P ops (fun w'=>∃ s:In wf,w'=s.at_) (fun a'=>a'=aE) (sel m L) a)->Qr P md ops Q S w0 LA g f (Vt k m listed) aE w->Qr P md ops Q S w0 LA g (f+countB m) listed a w
 | [],L,k,listed,a,w,_,_,_,_,_,_,h,H=>by
  have h0:a=aE:=by have:=h w0 (Fr.refl _ _);cases L <;> exact this
  subst h0;exact H
 | false :: m,[],k,listed,a,w,hL,hB,hW,hd,hn,hw,h,H=>Q0 hs hQ m [] (k+1) listed a w (fun j=>by have:=hL (j+1);simpa [Nat.add_assoc,Nat.add_comm 1 j] using this) hB hW (by cases m with | nil=>rfl | cons b m=>cases b <;> rfl) hn hw (fun wf hf=>by have:=h wf hf;cases m with | nil=>exact this | cons b m=>cases b <;> exact this) H
 | false :: m,o :: L,k,listed,a,w,hL,hB,hW,hd,hn,hw,h,H=>Q0 hs hQ m L (k+1) listed a w (fun j=>by have:=hL (j+1);simpa [Nat.add_assoc,Nat.add_comm 1 j] using this) hB hW hd hn hw h H
 | true :: m,[],k,listed,a,w,hL,hB,_,_,_,_,_,_=>by
  exfalso
  simp only [Qd,Bool.and_eq_true] at hB
  have hr:k∈Region.ready md ops listed:=by simpa using hB.1.1
  obtain ⟨_,o,ho,_⟩:=mem_ready.1 hr
  have:=hL 0
  simp [ho] at this
 | true :: m,o :: L,k,listed,a,w,hL,hB,hW,hd,hn,hw,h,H=>by
  simp only [Vi,Bool.and_eq_true] at hW
  obtain ⟨hW1,hW2⟩:=hW
  have h0:ops[k]? = some o:=by simpa using (hL 0).symm
  simp only [Qd,Bool.and_eq_true] at hB
  obtain ⟨⟨hr,hf⟩,hB'⟩:=hB
  simp only [sel,Uu,Bool.and_eq_true] at hd
  obtain ⟨hd1,hd2⟩:=hd
  -- the value,and what follows
  have key:∃ v,Ws P ops S w0 o v a/\∀ wf,Fr S w0 wf->wpQuiet P ops (fun w'=>∃ s:In wf,w'=s.at_) (fun a'=>a'=aE) (sel m L) (a.put o.dst v):=by
   by_cases hw1:Region.wanted o (yielded ops a.tmps)=true
   ·have h':∀ wf,Fr S w0 wf->o.quiet P a (fun w'=>∃ s:In wf,w'=s.at_) (wpQuiet P ops (fun w'=>∃ s:In wf,w'=s.at_) (fun a'=>a'=aE) (sel m L)):=fun wf hf=>by
     have:=h wf hf
     simp only [sel,wpQuiet] at this
     rwa [qf hw1] at this
    obtain ⟨v,_,hv2⟩:=h' w0 (Fr.refl _ _)
    have same:∀ wf,Fr S w0 wf->∀ u,wpQuiet P ops (fun w'=>∃ s:In wf,w'=s.at_) (fun a'=>a'=aE) (sel m L) (a.put o.dst u)->o.dst=none\/u=v:=fun wf hf u hu=>by
     cases hod:o.dst with
     | none=>exact .inl rfl
     | some d =>
      rw [hod] at hd1 hu hv2
      simp only [Bool.and_eq_true,decide_eq_true_eq] at hd1
      have e1:=vg (sel m L) _ hd1.2 hu
      have e2:=vg (sel m L) _ hd1.2 hv2
      have hlt:d<a.tmps.size:=by rw [hn];exact hd1.1
      rw [e1] at e2
      simp [Act.put,hlt] at e2
      exact .inr e2
    refine ⟨v,.inl ⟨hw1,fun wf hf=>?_⟩,fun wf hf=>?_⟩
    ·obtain ⟨u,hu1,hu2⟩:=h' wf hf
     refine ⟨u,?_,same wf hf u hu2⟩
     have hq:=hu1 wf ⟨⟨wf,Fr.refl _ _⟩,rfl⟩
     unfold Oper.quietAt at hq ⊢
     generalize (execOp a.eval o).run P wf=r at *
     cases r with
     | ok x w' =>
      cases x <;> simp only [Oper.quietUpon] at hq ⊢
      case value=>exact hq
      case skip=>exact hq
      case enter g args=>exact ⟨hq.1,hq.2.mono fun e w'' ⟨he,s,hs⟩=>⟨he,hs ▸ s.fr⟩⟩
     | halt x w'=>exact hq
    ·obtain ⟨u,_,hu2⟩:=h' wf hf
     rw [<- Zm (same wf hf u hu2)];exact hu2
   ·refine ⟨undef,.inr ⟨by simpa using hw1,rfl⟩,fun wf hf=>?_⟩
    have:=h wf hf
    simp only [sel,wpQuiet] at this
    rwa [qd hw1] at this
  obtain ⟨v,hy,hK⟩:=key
  exact Qr.first h0 hs hW1 hQ (f+countB m) listed a w (Region.free_spec h0 hf) (by simpa using hr) hy hw
   (Q0 hs hQ m L (k+1) _ _ w (fun j=>by have:=hL (j+1);simpa [Nat.add_assoc,Nat.add_comm 1 j] using this) hB' hW2 hd2 (by rw [size_put];exact hn) hw hK H)
end
section
variable {P:Program} {l:List Oper} {Q:Exit->Act->World->Prop} {w0:World} {S:List Nat} {LA:Array Bool} {g:Nat}
theorem q6v (m:List Bool) (f:Nat) {g' n:Nat} {listed listed':Array Bool} {a:Act} {w:World} (hf:f+countB m=g') (hs:Region.noSelect l.toArray=true) (hB:Qd .any l.toArray 0 m listed=true) (hW:Vi .any l.toArray LA 0 m=true)
  (hd:Uu n (sel m l)=true) (hn:a.tmps.size=n) (hl:Vt 0 m listed=listed') (hQ:∀ c a d v w,Q (.panic c) (a.put d v) w->Q (.panic c) a w) (hw:Fr S w0 w)
  (h:∃ aE,(∀ wf,Fr S w0 wf->wpQuiet P l.toArray (fun w'=>∃ s:In wf,w'=s.at_) (fun a'=>a'=aE) (sel m l) a)/\Qr P .any l.toArray Q S w0 LA g f listed' aE w):Qr P .any l.toArray Q S w0 LA g g' listed a w:=by
 subst hf;subst hl
 obtain ⟨aE,h,H⟩:=h
 exact Q0 hs hQ m l 0 listed a w (by simp) hB hW hd hn hw h H
theorem lpq (m:List Bool) (f:Nat) {g' n:Nat} {listed listed':Array Bool} {a:Act} {w:World} (hw:Fr S w0 w) (h:∃ aE,(∀ wf,Fr S w0 wf->wpQuiet P l.toArray (fun w'=>∃ s:In wf,w'=s.at_) (fun a'=>a'=aE) (sel m l) a)/\Qr P .any l.toArray Q S w0 LA g f listed' aE w) (hn:a.tmps.size=n:=by exact rfl) (hl:Vt 0 m listed=listed':=by exact rfl) (hf:f+countB m=g':=by exact rfl) (hs:Region.noSelect l.toArray=true:=by kernel_rfl) (hB:Qd .any l.toArray 0 m listed=true:=by kernel_rfl) (hW:Vi .any l.toArray LA 0 m=true:=by kernel_rfl) (hd:Uu n (sel m l)=true:=by kernel_rfl) (hQ:∀ c a d v w,Q (.panic c) (a.put d v) w->Q (.panic c) a w:=by intro _ _ d _ _ h;cases d <;> exact h):Qr P .any l.toArray Q S w0 LA g g' listed a w:=q6v m f hf hs hB hW hd hn hl hQ hw h
theorem ji (rs:List Nat) {f:Nat} {listed:Array Bool} {a:Act} {w:World} (hr:Region.ready .any l.toArray listed=rs) (hne:rs≠[])
  (h:∀ w2,Fr [] w w2->∀ i∈rs,∀ o,l[i]? = some o->wpList P l.toArray (Nx Q (fun a' w'=>Fr S w0 w'/\Qr P .any l.toArray Q S w0 LA g f (listed.setIfInBounds i true) a' w')) [o] a w2):Qr P .any l.toArray Q S w0 LA g (f+1) listed a w:=by
 intro w2 h2
 refine ⟨fun h0=>hne (hr.symm.trans h0),fun i hi=>?_⟩
 have hi':=hi
 rw [hr] at hi'
 obtain ⟨_,o,ho,_⟩:=mem_ready.1 hi
 have ho':l[i]? = some o:=by simpa using ho
 exact Qt ho' Xh (h w2 h2 i hi' o ho')
theorem q97 (i:Nat) {o:Oper} {f:Nat} {listed listed':Array Bool} {a:Act} {w:World} (hr:Region.ready .any l.toArray listed=[i]) (ho:l[i]? = some o) (hl:listed.setIfInBounds i true=listed')
  (h:∀ w2,Fr [] w w2->wpList P l.toArray (Nx Q (fun a' w'=>Fr S w0 w'/\Qr P .any l.toArray Q S w0 LA g f listed' a' w')) [o] a w2):Qr P .any l.toArray Q S w0 LA g (f+1) listed a w:=by
 subst hl
 intro w2 h2
 refine ⟨fun h0=>(by rw [hr] at h0;cases h0),fun j hj=>?_⟩
 rw [hr] at hj
 simp only [List.mem_singleton] at hj
 subst hj
 exact Qt ho Xh (h w2 h2)
theorem loq (i:Nat) {o:Oper} {f:Nat} {listed listed':Array Bool} {a:Act} {w:World} (h:∀ w2,Fr [] w w2->wpList P l.toArray (Nx Q (fun a' w'=>Fr S w0 w'/\Qr P .any l.toArray Q S w0 LA g f listed' a' w')) [o] a w2) (hl:listed.setIfInBounds i true=listed':=by exact rfl) (hr:Region.ready .any l.toArray listed=[i]:=by kernel_rfl) (ho:l[i]? = some o:=by exact rfl):Qr P .any l.toArray Q S w0 LA g (f+1) listed a w:=q97 i hr ho hl h
theorem qx {k:Nat} {a:Act} {w:World} (hg:(l.drop k).length=g) (hB:Region.seqB .any l.toArray g k LA=true) (h:∀ w2,Fr [] w w2->wpList P l.toArray Q (l.drop k) a w2):Qr P .any l.toArray Q S w0 LA g 0 LA a w:=by
 intro w2 h2
 subst hg
 exact ⟨rfl,wpAny_of_seq (md:=.any) (l.drop k) k LA a w2 (fun j=>by simp [List.getElem?_drop]) hB (h w2 h2)⟩
theorem yh (i:Nat) {d:Tmp} {x:Operand} {ty:TypeId} {ps:String} {af:Array Edge} {f:Nat} {listed listed':Array Bool} {a:Act} {w:World} (hi:l[i]? = some { dst:=some d,op:=Op.move x,type:=ty,pos:=ps,after:=af,guard:=none })
  (hs:Region.noSelect l.toArray=true) (hf:Region.free .any l.toArray listed i=true) (hr:(Region.ready .any l.toArray listed).contains i=true) (hl:listed.setIfInBounds i true=listed') (hQ:∀ c a d v w,Q (.panic c) (a.put d v) w->Q (.panic c) a w)
  (h:wpAny P .any l.toArray Q f listed' (a.put (some d) (a.eval x)) w):wpAny P .any l.toArray Q (f+1) listed a w:=by
 subst hl
 exact wpAny_take (by simpa using hi) hs hf hr (fun c a w=>hQ c a (some d) _ w) (.inl ⟨rfl,fun w=>rfl⟩) h
theorem z6 {n:Nat} {listed:Array Bool} {a:Act} {w:World} (S:List Nat) (w0:World) (LA:Array Bool) (f g:Nat) (hl:f+g=n) (h:Qr P .any l.toArray Q S w0 LA g f listed a w):wpAny P .any l.toArray Q n listed a w:=by
 subst hl;exact Qr.sound _ _ _ _ h
theorem qo {id:Nat} {a:Act} {w:World} (hm:P.follows .mixedOrders=true) (h:wpAny P .any l.toArray Q l.length (Array.replicate l.length false) a w.drew):(Code.region id l.toArray true).wp P Q a w :=
 wp_region_any hm (by simpa using h)
end
section
variable {P:Program} {ops:Array Oper} {Q:Exit->Act->World->Prop} {md:Region.Mode} {w0:World} {S:List Nat} {LA:Array Bool} {g:Nat}
def Vs (md:Region.Mode) (ops:Array Oper) (LA:Array Bool) (i:Nat):Bool:=(List.range LA.size).any fun k=>k != i && LA.getD k false && Region.waitsFor md ops k i
theorem Kg {i:Nat} (h:Vs md ops LA i=true):∃ k,k≠i/\LA.getD k false=true/\Region.waitsFor md ops k i=true:=by
 unfold Vs at h
 obtain ⟨k,-,hk⟩:=List.any_eq_true.1 h
 simp only [Bool.and_eq_true,bne_iff_ne,ne_eq] at hk
 exact ⟨k,hk.1.1,hk.1.2,hk.2⟩
def Qp (md:Region.Mode) (ops:Array Oper) (listed:Array Bool) (i:Nat):Bool:=(List.range listed.size).all fun k=>!(listed.getD k false) || !Region.waitsFor md ops k i
theorem Xt {listed:Array Bool} {i k:Nat} (h:Qp md ops listed i=true) (hk:listed.getD k false=true):Region.waitsFor md ops k i=false:=by
 unfold Qp at h
 have hlt:k<listed.size:=by
  rcases Nat.lt_or_ge k listed.size with h' | h'
  ·exact h'
  ·simp [Array.getElem?_eq_none h'] at hk
 have:=List.all_eq_true.1 h k (List.mem_range.2 hlt)
 rw [hk] at this
 simpa using this
theorem getD_set_ne' {listed:Array Bool} {j k:Nat} (d:Bool) (h:j≠k):(listed.setIfInBounds j true).getD k d=listed.getD k d:=by
 simp [Array.getD_eq_getD_getElem?,Array.getElem?_setIfInBounds,h]
theorem U6 {listed:Array Bool} {i j:Nat} (h:Qp md ops listed i=true) (hj:¬ Region.waitsFor md ops j i=true):Qp md ops (listed.setIfInBounds j true) i=true:=by
 unfold Qp
 rw [List.all_eq_true]
 intro k hk
 by_cases e:j=k
 ·subst e
  cases hw:Region.waitsFor md ops j i with
  | true=>exact absurd hw hj
  | false=>simp
 ·rw [getD_set_ne' false e]
  cases hl:listed.getD k false with
  | false=>rfl
  | true=>rw [Xt h hl];rfl
theorem Qr.first2 {i:Nat} {oi:Oper} {v:Value} (hi:ops[i]? = some oi) (hsel:Region.noSelect ops=true) (hLB:(Ki md ops LA i || Vs md ops LA i)=true)
  (hQ:∀ c a d v w,Q (.panic c) (a.put d v) w->Q (.panic c) a w):∀ (f:Nat) (listed:Array Bool) (a:Act) (w:World),
   (∀ j oj,ops[j]? = some oj->j≠i->listed.getD j true=false->(∀ e∈oj.after,Region.binds md e=true->e.on≠i)->oi.apart ops oj=true) ->
   Qp md ops listed i=true->i∈Region.ready md ops listed->Ws P ops S w0 oi v a->Fr S w0 w ->
   Qr P md ops Q S w0 LA g f (listed.setIfInBounds i true) (a.put oi.dst v) w->Qr P md ops Q S w0 LA g (f+1) listed a w
 | f,listed,a,w,hfree,hnw,hr,hy,hw,H=>fun w2 h2=>by
  refine ⟨fun h=>(by rw [h] at hr;cases hr),fun j hj=>?_⟩
  by_cases hji:j=i
  ·subst hji;exact hy.wpOp hi (hw.then h2) fun w' hw'=>⟨(hw.then h2).then hw',H.more (h2.trans hw')⟩
  ·have hj':=ready_mono (i:=i) hj hji
   obtain ⟨hjun,oj,hoj,hall⟩:=mem_ready.1 hj
   have hnot:∀ e∈oj.after,Region.binds md e=true->e.on≠i:=fun e he hb heq=>by
    have g1:=hall e he hb
    have g0:=(mem_ready.1 hr).1
    rw [heq] at g1
    rcases Nat.lt_or_ge i listed.size with h' | h'
    ·simp [h'] at g0 g1;rw [g0] at g1;cases g1
    ·simp [Array.getElem?_eq_none h'] at g1
   cases f with
   | zero =>
    have hLA:=(H w2 h2).1
    have hLB:Ki md ops LA i=true:=by
     rcases Bool.or_eq_true_iff.1 hLB with h | h
     ·exact h
     ·obtain ⟨k,hki,hk,hkw⟩:=Kg h
      rw [<- hLA,getD_set_ne' false (Ne.symm hki)] at hk
      rw [Xt hnw hk] at hkw;cases hkw
    rw [hLA] at hj'
    obtain ⟨ok,hok,e,he,hb,hon⟩:=Xg hLB (mem_ready.1 hj').1
    rw [hoj] at hok
    cases hok
    exact absurd hon (hnot e he hb)
   | succ f =>
    have h1:=(H w2 h2).2 j hj'
    have g2:=hy.other hoj (hfree j oj hoj hji hjun hnot) (fun cs b=>Region.noSelect_spec hsel i oi cs b hi) (fun cs b=>Region.noSelect_spec hsel j oj cs b hoj) hQ h1
    have hfree':∀ k ok,ops[k]? = some ok->k≠i->(listed.setIfInBounds j true).getD k true=false ->
      (∀ e∈ok.after,Region.binds md e=true->e.on≠i)->oi.apart ops ok=true:=fun k ok hk hki hun hno=>by
     refine hfree k ok hk hki ?_ hno
     by_cases hjk:j=k
     ·subst hjk;exact hjun
     ·rw [getD_set_ne true hjk] at hun;exact hun
    refine wpOp_mono (fun a' w' h3=>⟨h3.2.1,Qr.first2 hi hsel hLB hQ f (listed.setIfInBounds j true) a' w' hfree' (U6 hnw (fun h=>by obtain ⟨ok,hok,e,he,hb,hon⟩:=Region.waitsFor_spec h;rw [hoj] at hok;cases hok;exact hnot e he hb hon)) (ready_mono hr (Ne.symm hji)) h3.1 h3.2.1 ?_⟩) g2
    rw [Array.setIfInBounds_comm _ _ hji]
    exact h3.2.2
def Jp (md:Region.Mode) (ops:Array Oper) (LA:Array Bool):Nat->List Bool->Array Bool->Bool
 | k,true :: m,listed=>(Ki md ops LA k || Vs md ops LA k) && Qp md ops listed k && Jp md ops LA (k+1) m (listed.setIfInBounds k true)
 | k,false :: m,listed=>Jp md ops LA (k+1) m listed
 | _,[],_=>true
theorem jy (hs:Region.noSelect ops=true) (hQ:∀ c a d v w,Q (.panic c) (a.put d v) w->Q (.panic c) a w) {aE:Act} {n f:Nat} :
  ∀ (m:List Bool) (L:List Oper) (k:Nat) (listed:Array Bool) (a:Act) (w:World),(∀ j,L[j]? = ops[k+j]?)->Qd md ops k m listed=true->Jp md ops LA k m listed=true->Uu n (sel m L)=true->a.tmps.size=n->Fr S w0 w ->
   (∀ wf,Fr S w0 wf->wpQuiet P ops (fun w'=>∃ s:In wf,w'=s.at_) (fun a'=>a'=aE) (sel m L) a)->Qr P md ops Q S w0 LA g f (Vt k m listed) aE w->Qr P md ops Q S w0 LA g (f+countB m) listed a w
 | [],L,k,listed,a,w,_,_,_,_,_,_,h,H=>by
  have h0:a=aE:=by have:=h w0 (Fr.refl _ _);cases L <;> exact this
  subst h0;exact H
 | false :: m,[],k,listed,a,w,hL,hB,hW,hd,hn,hw,h,H=>jy hs hQ m [] (k+1) listed a w (fun j=>by have:=hL (j+1);simpa [Nat.add_assoc,Nat.add_comm 1 j] using this) hB hW (by cases m with | nil=>rfl | cons b m=>cases b <;> rfl) hn hw (fun wf hf=>by have:=h wf hf;cases m with | nil=>exact this | cons b m=>cases b <;> exact this) H
 | false :: m,o :: L,k,listed,a,w,hL,hB,hW,hd,hn,hw,h,H=>jy hs hQ m L (k+1) listed a w (fun j=>by have:=hL (j+1);simpa [Nat.add_assoc,Nat.add_comm 1 j] using this) hB hW hd hn hw h H
 | true :: m,[],k,listed,a,w,hL,hB,_,_,_,_,_,_=>by
  exfalso
  simp only [Qd,Bool.and_eq_true] at hB
  have hr:k∈Region.ready md ops listed:=by simpa using hB.1.1
  obtain ⟨_,o,ho,_⟩:=mem_ready.1 hr
  have:=hL 0
  simp [ho] at this
 | true :: m,o :: L,k,listed,a,w,hL,hB,hW,hd,hn,hw,h,H=>by
  simp only [Jp,Bool.and_eq_true] at hW
  obtain ⟨⟨hW1,hW3⟩,hW2⟩:=hW
  have h0:ops[k]? = some o:=by simpa using (hL 0).symm
  simp only [Qd,Bool.and_eq_true] at hB
  obtain ⟨⟨hr,hf⟩,hB'⟩:=hB
  simp only [sel,Uu,Bool.and_eq_true] at hd
  obtain ⟨hd1,hd2⟩:=hd
  -- the value,and what follows
  have key:∃ v,Ws P ops S w0 o v a/\∀ wf,Fr S w0 wf->wpQuiet P ops (fun w'=>∃ s:In wf,w'=s.at_) (fun a'=>a'=aE) (sel m L) (a.put o.dst v):=by
   by_cases hw1:Region.wanted o (yielded ops a.tmps)=true
   ·have h':∀ wf,Fr S w0 wf->o.quiet P a (fun w'=>∃ s:In wf,w'=s.at_) (wpQuiet P ops (fun w'=>∃ s:In wf,w'=s.at_) (fun a'=>a'=aE) (sel m L)):=fun wf hf=>by
     have:=h wf hf
     simp only [sel,wpQuiet] at this
     rwa [qf hw1] at this
    obtain ⟨v,_,hv2⟩:=h' w0 (Fr.refl _ _)
    have same:∀ wf,Fr S w0 wf->∀ u,wpQuiet P ops (fun w'=>∃ s:In wf,w'=s.at_) (fun a'=>a'=aE) (sel m L) (a.put o.dst u)->o.dst=none\/u=v:=fun wf hf u hu=>by
     cases hod:o.dst with
     | none=>exact .inl rfl
     | some d =>
      rw [hod] at hd1 hu hv2
      simp only [Bool.and_eq_true,decide_eq_true_eq] at hd1
      have e1:=vg (sel m L) _ hd1.2 hu
      have e2:=vg (sel m L) _ hd1.2 hv2
      have hlt:d<a.tmps.size:=by rw [hn];exact hd1.1
      rw [e1] at e2
      simp [Act.put,hlt] at e2
      exact .inr e2
    refine ⟨v,.inl ⟨hw1,fun wf hf=>?_⟩,fun wf hf=>?_⟩
    ·obtain ⟨u,hu1,hu2⟩:=h' wf hf
     refine ⟨u,?_,same wf hf u hu2⟩
     have hq:=hu1 wf ⟨⟨wf,Fr.refl _ _⟩,rfl⟩
     unfold Oper.quietAt at hq ⊢
     generalize (execOp a.eval o).run P wf=r at *
     cases r with
     | ok x w' =>
      cases x <;> simp only [Oper.quietUpon] at hq ⊢
      case value=>exact hq
      case skip=>exact hq
      case enter g args=>exact ⟨hq.1,hq.2.mono fun e w'' ⟨he,s,hs⟩=>⟨he,hs ▸ s.fr⟩⟩
     | halt x w'=>exact hq
    ·obtain ⟨u,_,hu2⟩:=h' wf hf
     rw [<- Zm (same wf hf u hu2)];exact hu2
   ·refine ⟨undef,.inr ⟨by simpa using hw1,rfl⟩,fun wf hf=>?_⟩
    have:=h wf hf
    simp only [sel,wpQuiet] at this
    rwa [qd hw1] at this
  obtain ⟨v,hy,hK⟩:=key
  exact Qr.first2 h0 hs hW1 hQ (f+countB m) listed a w (Region.free_spec h0 hf) hW3 (by simpa using hr) hy hw
   (jy hs hQ m L (k+1) _ _ w (fun j=>by have:=hL (j+1);simpa [Nat.add_assoc,Nat.add_comm 1 j] using this) hB' hW2 hd2 (by rw [size_put];exact hn) hw hK H)
end
section
variable {P:Program} {l:List Oper} {Q:Exit->Act->World->Prop} {w0:World} {S:List Nat} {LA:Array Bool} {g:Nat}
theorem yx (m:List Bool) (f:Nat) {g' n:Nat} {listed listed':Array Bool} {a:Act} {w:World} (hf:f+countB m=g') (hs:Region.noSelect l.toArray=true) (hB:Qd .any l.toArray 0 m listed=true) (hW:Jp .any l.toArray LA 0 m listed=true)
  (hd:Uu n (sel m l)=true) (hn:a.tmps.size=n) (hl:Vt 0 m listed=listed') (hQ:∀ c a d v w,Q (.panic c) (a.put d v) w->Q (.panic c) a w) (hw:Fr S w0 w)
  (h:∃ aE,(∀ wf,Fr S w0 wf->wpQuiet P l.toArray (fun w'=>∃ s:In wf,w'=s.at_) (fun a'=>a'=aE) (sel m l) a)/\Qr P .any l.toArray Q S w0 LA g f listed' aE w):Qr P .any l.toArray Q S w0 LA g g' listed a w:=by
 subst hf;subst hl
 obtain ⟨aE,h,H⟩:=h
 exact jy hs hQ m l 0 listed a w (by simp) hB hW hd hn hw h H
end
section
variable {P:Program} {ops:Array Oper} {Q:Exit->Act->World->Prop} {md:Region.Mode} {C:World->Prop} {LA:Array Bool} {g:Nat}
def Vq (P:Program) (ops:Array Oper) (C:World->Prop) (o:Oper) (v:Value) (a:Act):Prop :=
 (Region.wanted o (yielded ops a.tmps)=true/\∀ w,C w->∃ u,o.quietAt P a (fun w'=>Fr [] w w') w u/\(o.dst=none\/u=v)) \/
 (Region.wanted o (yielded ops a.tmps)=false/\v=undef)
theorem Vq.wpOp {i:Nat} {o:Oper} {v:Value} {a:Act} (hi:ops[i]? = some o) (hy:Vq P ops C o v a) {K:Act->World->Prop} {w:World} (hw:C w)
  (h:∀ w',Fr [] w w'->K (a.put o.dst v) w'):wpOp P ops Q i K a w:=by
 unfold Go.wpOp
 simp only [hi]
 rcases hy with ⟨hw1,hv⟩ | ⟨hw1,rfl⟩
 ·simp only [hw1,if_true]
  obtain ⟨u,hu,he⟩:=hv w hw
  exact .inl (Vo hu fun w' hw'=>by rw [Zm he];exact h w' hw')
 ·simp only [hw1,Bool.false_eq_true,if_false];exact h w (Fr.refl _ _)
theorem Vq.of_same {o:Oper} {v:Value} {a a':Act} (hy:Vq P ops C o v a) (he:execOp a'.eval o=execOp a.eval o)
  (hw:Region.wanted o (yielded ops a'.tmps)=Region.wanted o (yielded ops a.tmps)):Vq P ops C o v a':=by
 unfold Vq Oper.quietAt at *
 rw [he,hw];exact hy
theorem Vq.other {j:Nat} {oi oj:Oper} {v:Value} (hj:ops[j]? = some oj) (hap:oi.apart ops oj=true)
  (hsi:∀ cs b,oi.op ≠ .select cs b) (hsj:∀ cs b,oj.op ≠ .select cs b)
  (hQ:∀ c a d v w,Q (.panic c) (a.put d v) w->Q (.panic c) a w) {K:Act->World->Prop} {a:Act} {w:World}
  (hy:Vq P ops C oi v a) (h:Go.wpOp P ops Q j K (a.put oi.dst v) w) :
  Go.wpOp P ops Q j (fun a' w'=>Vq P ops C oi v a'/\K (a'.put oi.dst v) w') a w:=by
 obtain ⟨h1,h2,h3⟩:=Oper.apart_spec hap
 have keep:∀ (a:Act),Vq P ops C oi v a->∀ u,Vq P ops C oi v (a.put oj.dst u):=fun a hy u =>
  hy.of_same (execOp_put oi hsi a oj.dst u h3) (wanted_put oi a oj.dst u h3)
 have keepD:∀ d,Vq P ops C oi v { a with defers:=d :: a.defers }:=fun d=>hy.of_same rfl rfl
 unfold Go.wpOp at *
 simp only [hj] at *
 rw [wanted_put oj a oi.dst v h1] at h
 by_cases hw:Region.wanted oj (yielded ops a.tmps)=true
 ·rw [qf hw] at h ⊢
  refine h.imp (fun h=>?_) (fun ⟨hasks,hlets⟩=>⟨by unfold Oper.asks at *;rw [execOp_put oj hsj a oi.dst v h1] at hasks;exact hasks,hlets⟩)
  unfold Oper.wp at *
  rw [execOp_put oj hsj a oi.dst v h1] at h
  generalize (execOp a.eval oj).run P w=r at *
  cases r with
  | ok n w' =>
   cases n <;> simp only [Oper.upon] at h ⊢
   case value u=>exact ⟨keep a hy u,by rw [<- Act.put_comm a v u h2];exact h⟩
   case skip=>exact ⟨keep a hy _,by rw [<- Act.put_comm a v undef h2];exact h⟩
   case defer d=>exact ⟨keep _ (keepD d) _,by rw [<- Act.put_comm _ v undef h2,<- Act.put_defers];exact h⟩
   case enter f args =>
    refine Calls.mono h fun e w'' he=>?_
    cases e with
    | returned u=>exact ⟨keep a hy u,by rw [<- Act.put_comm a v u h2];exact he⟩
    | panicked c=>exact hQ _ _ _ _ _ he
    | outgrown=>exact he
   case row row args=>exact Rows.mono h fun u w'' he=>⟨keep a hy u,by rw [<- Act.put_comm a v u h2];exact he⟩
  | halt x w' =>
   cases x <;> simp only [Oper.upon] at h ⊢
   case panic u=>exact hQ _ _ _ _ _ h
 ·rw [qd hw] at h ⊢
  exact ⟨keep a hy _,by rw [<- Act.put_comm a v undef h2];exact h⟩
def Jn (P:Program) (md:Region.Mode) (ops:Array Oper) (Q:Exit->Act->World->Prop) (C:World->Prop) (LA:Array Bool) (g:Nat):Nat->Array Bool->Act->World->Prop
 | 0,listed,a,w=>∀ w2,Fr [] w w2->listed=LA/\wpAny P md ops Q g LA a w2
 | f+1,listed,a,w=>∀ w2,Fr [] w w2->Region.ready md ops listed≠[] /\
   ∀ i∈Region.ready md ops listed,wpOp P ops Q i (fun a' w'=>C w'/\Jn P md ops Q C LA g f (listed.setIfInBounds i true) a' w') a w2
theorem Jn.more {f:Nat} {listed:Array Bool} {a:Act} {w w':World} (h:Jn P md ops Q C LA g f listed a w) (k:Fr [] w w'):Jn P md ops Q C LA g f listed a w':=by
 cases f with
 | zero=>exact fun w2 h2=>h w2 (k.trans h2)
 | succ f=>exact fun w2 h2=>h w2 (k.trans h2)
theorem Jn.sound:∀ (f:Nat) (listed:Array Bool) (a:Act) (w:World),Jn P md ops Q C LA g f listed a w->wpAny P md ops Q (f+g) listed a w
 | 0,listed,a,w,h=>by obtain ⟨rfl,h1⟩:=h w (Fr.refl _ _);rw [Nat.zero_add];exact h1
 | f+1,_,_,w,h=>by
  rw [show f+1+g=(f+g)+1 by omega]
  exact ⟨fun h0=>absurd h0 (h w (Fr.refl _ _)).1,fun i hi=>wpOp_mono (fun a' w' hh=>Jn.sound f _ a' w' hh.2) ((h w (Fr.refl _ _)).2 i hi)⟩
theorem Jn.first (hC:∀ w w2,C w->Fr [] w w2->C w2) {i:Nat} {oi:Oper} {v:Value} (hi:ops[i]? = some oi) (hsel:Region.noSelect ops=true) (hLB:Ki md ops LA i=true)
  (hQ:∀ c a d v w,Q (.panic c) (a.put d v) w->Q (.panic c) a w):∀ (f:Nat) (listed:Array Bool) (a:Act) (w:World),
   (∀ j oj,ops[j]? = some oj->j≠i->listed.getD j true=false->(∀ e∈oj.after,Region.binds md e=true->e.on≠i)->oi.apart ops oj=true) ->
   i∈Region.ready md ops listed->Vq P ops C oi v a->C w ->
   Jn P md ops Q C LA g f (listed.setIfInBounds i true) (a.put oi.dst v) w->Jn P md ops Q C LA g (f+1) listed a w
 | f,listed,a,w,hfree,hr,hy,hw,H=>fun w2 h2=>by
  refine ⟨fun h=>(by rw [h] at hr;cases hr),fun j hj=>?_⟩
  by_cases hji:j=i
  ·subst hji;exact hy.wpOp hi (hC _ _ hw h2) fun w' hw'=>⟨hC _ _ (hC _ _ hw h2) hw',H.more (h2.trans hw')⟩
  ·have hj':=ready_mono (i:=i) hj hji
   obtain ⟨hjun,oj,hoj,hall⟩:=mem_ready.1 hj
   have hnot:∀ e∈oj.after,Region.binds md e=true->e.on≠i:=fun e he hb heq=>by
    have g1:=hall e he hb
    have g0:=(mem_ready.1 hr).1
    rw [heq] at g1
    rcases Nat.lt_or_ge i listed.size with h' | h'
    ·simp [h'] at g0 g1;rw [g0] at g1;cases g1
    ·simp [Array.getElem?_eq_none h'] at g1
   cases f with
   | zero =>
    have hLA:=(H w2 h2).1
    rw [hLA] at hj'
    obtain ⟨ok,hok,e,he,hb,hon⟩:=Xg hLB (mem_ready.1 hj').1
    rw [hoj] at hok
    cases hok
    exact absurd hon (hnot e he hb)
   | succ f =>
    have h1:=(H w2 h2).2 j hj'
    have g2:=hy.other hoj (hfree j oj hoj hji hjun hnot) (fun cs b=>Region.noSelect_spec hsel i oi cs b hi) (fun cs b=>Region.noSelect_spec hsel j oj cs b hoj) hQ h1
    have hfree':∀ k ok,ops[k]? = some ok->k≠i->(listed.setIfInBounds j true).getD k true=false ->
      (∀ e∈ok.after,Region.binds md e=true->e.on≠i)->oi.apart ops ok=true:=fun k ok hk hki hun hno=>by
     refine hfree k ok hk hki ?_ hno
     by_cases hjk:j=k
     ·subst hjk;exact hjun
     ·rw [getD_set_ne true hjk] at hun;exact hun
    refine wpOp_mono (fun a' w' h3=>⟨h3.2.1,Jn.first hC hi hsel hLB hQ f (listed.setIfInBounds j true) a' w' hfree' (ready_mono hr (Ne.symm hji)) h3.1 h3.2.1 ?_⟩) g2
    rw [Array.setIfInBounds_comm _ _ hji]
    exact h3.2.2
theorem Q4 (hC:∀ w w2,C w->Fr [] w w2->C w2) (hs:Region.noSelect ops=true) (hQ:∀ c a d v w,Q (.panic c) (a.put d v) w->Q (.panic c) a w) {aE:Act} {n f:Nat} :
  ∀ (m:List Bool) (L:List Oper) (k:Nat) (listed:Array Bool) (a:Act) (w:World),(∀ j,L[j]? = ops[k+j]?)->Qd md ops k m listed=true->Vi md ops LA k m=true->Uu n (sel m L)=true->a.tmps.size=n->C w ->
   (∀ wf,C wf->wpQuiet P ops (fun w'=>∃ s:In wf,w'=s.at_) (fun a'=>a'=aE) (sel m L) a)->Jn P md ops Q C LA g f (Vt k m listed) aE w->Jn P md ops Q C LA g (f+countB m) listed a w
 | [],L,k,listed,a,w,_,_,_,_,_,hw,h,H=>by
  have h0:a=aE:=by have:=h w hw;cases L <;> exact this
  subst h0;exact H
 | false :: m,[],k,listed,a,w,hL,hB,hW,hd,hn,hw,h,H=>Q4 hC hs hQ m [] (k+1) listed a w (fun j=>by have:=hL (j+1);simpa [Nat.add_assoc,Nat.add_comm 1 j] using this) hB hW (by cases m with | nil=>rfl | cons b m=>cases b <;> rfl) hn hw (fun wf hf=>by have:=h wf hf;cases m with | nil=>exact this | cons b m=>cases b <;> exact this) H
 | false :: m,o :: L,k,listed,a,w,hL,hB,hW,hd,hn,hw,h,H=>Q4 hC hs hQ m L (k+1) listed a w (fun j=>by have:=hL (j+1);simpa [Nat.add_assoc,Nat.add_comm 1 j] using this) hB hW hd hn hw h H
 | true :: m,[],k,listed,a,w,hL,hB,_,_,_,_,_,_=>by
  exfalso
  simp only [Qd,Bool.and_eq_true] at hB
  have hr:k∈Region.ready md ops listed:=by simpa using hB.1.1
  obtain ⟨_,o,ho,_⟩:=mem_ready.1 hr
  have:=hL 0
  simp [ho] at this
 | true :: m,o :: L,k,listed,a,w,hL,hB,hW,hd,hn,hw,h,H=>by
  simp only [Vi,Bool.and_eq_true] at hW
  obtain ⟨hW1,hW2⟩:=hW
  have h0:ops[k]? = some o:=by simpa using (hL 0).symm
  simp only [Qd,Bool.and_eq_true] at hB
  obtain ⟨⟨hr,hf⟩,hB'⟩:=hB
  simp only [sel,Uu,Bool.and_eq_true] at hd
  obtain ⟨hd1,hd2⟩:=hd
  -- the value,and what follows
  have key:∃ v,Vq P ops C o v a/\∀ wf,C wf->wpQuiet P ops (fun w'=>∃ s:In wf,w'=s.at_) (fun a'=>a'=aE) (sel m L) (a.put o.dst v):=by
   by_cases hw1:Region.wanted o (yielded ops a.tmps)=true
   ·have h':∀ wf,C wf->o.quiet P a (fun w'=>∃ s:In wf,w'=s.at_) (wpQuiet P ops (fun w'=>∃ s:In wf,w'=s.at_) (fun a'=>a'=aE) (sel m L)):=fun wf hf=>by
     have:=h wf hf
     simp only [sel,wpQuiet] at this
     rwa [qf hw1] at this
    obtain ⟨v,_,hv2⟩:=h' w hw
    have same:∀ wf,C wf->∀ u,wpQuiet P ops (fun w'=>∃ s:In wf,w'=s.at_) (fun a'=>a'=aE) (sel m L) (a.put o.dst u)->o.dst=none\/u=v:=fun wf hf u hu=>by
     cases hod:o.dst with
     | none=>exact .inl rfl
     | some d =>
      rw [hod] at hd1 hu hv2
      simp only [Bool.and_eq_true,decide_eq_true_eq] at hd1
      have e1:=vg (sel m L) _ hd1.2 hu
      have e2:=vg (sel m L) _ hd1.2 hv2
      have hlt:d<a.tmps.size:=by rw [hn];exact hd1.1
      rw [e1] at e2
      simp [Act.put,hlt] at e2
      exact .inr e2
    refine ⟨v,.inl ⟨hw1,fun wf hf=>?_⟩,fun wf hf=>?_⟩
    ·obtain ⟨u,hu1,hu2⟩:=h' wf hf
     refine ⟨u,?_,same wf hf u hu2⟩
     have hq:=hu1 wf ⟨⟨wf,Fr.refl _ _⟩,rfl⟩
     unfold Oper.quietAt at hq ⊢
     generalize (execOp a.eval o).run P wf=r at *
     cases r with
     | ok x w' =>
      cases x <;> simp only [Oper.quietUpon] at hq ⊢
      case value=>exact hq
      case skip=>exact hq
      case enter g args=>exact ⟨hq.1,hq.2.mono fun e w'' ⟨he,s,hs⟩=>⟨he,hs ▸ s.fr⟩⟩
     | halt x w'=>exact hq
    ·obtain ⟨u,_,hu2⟩:=h' wf hf
     rw [<- Zm (same wf hf u hu2)];exact hu2
   ·refine ⟨undef,.inr ⟨by simpa using hw1,rfl⟩,fun wf hf=>?_⟩
    have:=h wf hf
    simp only [sel,wpQuiet] at this
    rwa [qd hw1] at this
  obtain ⟨v,hy,hK⟩:=key
  exact Jn.first hC h0 hs hW1 hQ (f+countB m) listed a w (Region.free_spec h0 hf) (by simpa using hr) hy hw
   (Q4 hC hs hQ m L (k+1) _ _ w (fun j=>by have:=hL (j+1);simpa [Nat.add_assoc,Nat.add_comm 1 j] using this) hB' hW2 hd2 (by rw [size_put];exact hn) hw hK H)
end
section
variable {P:Program} {l:List Oper} {Q:Exit->Act->World->Prop} {C:World->Prop} {LA:Array Bool} {g:Nat}
theorem R3 (hC:∀ w w2,C w->Fr [] w w2->C w2) (m:List Bool) (f:Nat) {g' n:Nat} {listed listed':Array Bool} {a:Act} {w:World} (hf:f+countB m=g') (hs:Region.noSelect l.toArray=true) (hB:Qd .any l.toArray 0 m listed=true) (hW:Vi .any l.toArray LA 0 m=true)
  (hd:Uu n (sel m l)=true) (hn:a.tmps.size=n) (hl:Vt 0 m listed=listed') (hQ:∀ c a d v w,Q (.panic c) (a.put d v) w->Q (.panic c) a w) (hw:C w)
  (h:∃ aE,(∀ wf,C wf->wpQuiet P l.toArray (fun w'=>∃ s:In wf,w'=s.at_) (fun a'=>a'=aE) (sel m l) a)/\Jn P .any l.toArray Q C LA g f listed' aE w):Jn P .any l.toArray Q C LA g g' listed a w:=by
 subst hf;subst hl
 obtain ⟨aE,h,H⟩:=h
 exact Q4 hC hs hQ m l 0 listed a w (by simp) hB hW hd hn hw h H
theorem jh (i:Nat) {o:Oper} {f:Nat} {listed listed':Array Bool} {a:Act} {w:World} (hr:Region.ready .any l.toArray listed=[i]) (ho:l[i]? = some o) (hl:listed.setIfInBounds i true=listed')
  (h:∀ w2,Fr [] w w2->wpList P l.toArray (Nx Q (fun a' w'=>C w'/\Jn P .any l.toArray Q C LA g f listed' a' w')) [o] a w2):Jn P .any l.toArray Q C LA g (f+1) listed a w:=by
 subst hl
 intro w2 h2
 refine ⟨fun h0=>(by rw [hr] at h0;cases h0),fun j hj=>?_⟩
 rw [hr] at hj
 simp only [List.mem_singleton] at hj
 subst hj
 exact Qt ho Xh (h w2 h2)
theorem Rc {k:Nat} {a:Act} {w:World} (hg:(l.drop k).length=g) (hB:Region.seqB .any l.toArray g k LA=true) (h:∀ w2,Fr [] w w2->wpList P l.toArray Q (l.drop k) a w2):Jn P .any l.toArray Q C LA g 0 LA a w:=by
 intro w2 h2
 subst hg
 exact ⟨rfl,wpAny_of_seq (md:=.any) (l.drop k) k LA a w2 (fun j=>by simp [List.getElem?_drop]) hB (h w2 h2)⟩
theorem q1t {n:Nat} {listed:Array Bool} {a:Act} {w:World} (C:World->Prop) (LA:Array Bool) (f g:Nat) (hl:f+g=n) (h:Jn P .any l.toArray Q C LA g f listed a w):wpAny P .any l.toArray Q n listed a w:=by
 subst hl;exact Jn.sound _ _ _ _ h
theorem q6b {k:Nat} {a:Act} {w:World} (hd:(l.drop k).length=0) (hB:Region.seqB .any l.toArray 0 k LA=true) (h:∀ w2,Fr [] w w2->Q .normal a w2):Jn P .any l.toArray Q C LA 0 0 LA a w :=
 Rc hd hB (fun w2 h2=>by rw [List.eq_nil_of_length_eq_zero hd];exact h w2 h2)
end
section
variable {P:Program} {ops:Array Oper} {Q:Exit->Act->World->Prop} {md:Region.Mode} {w0:World} {S:List Nat} {LA:Array Bool} {g:Nat}
def Clo (md:Region.Mode) (ops:Array Oper) (listed:Array Bool):Prop:=∀ k ok,listed.getD k false=true->ops[k]? = some ok->∀ e∈ok.after,Region.binds md e=true->listed.getD e.on false=true
def cloB (md:Region.Mode) (ops:Array Oper) (listed:Array Bool):Bool:=(List.range listed.size).all fun k=>!(listed.getD k false) || (match ops[k]? with | none=>true | some ok=>ok.after.all fun e=>!(Region.binds md e) || listed.getD e.on false)
theorem q6a {listed:Array Bool} (h:cloB md ops listed=true):Clo md ops listed:=by
 intro k ok hk ho e he hb
 have hlt:k<listed.size:=by
  rcases Nat.lt_or_ge k listed.size with h' | h'
  ·exact h'
  ·simp [Array.getElem?_eq_none h'] at hk
 have:=List.all_eq_true.1 h k (List.mem_range.2 hlt)
 rw [hk,ho] at this
 simp only [Bool.not_true,Bool.false_or,Array.all_eq_true] at this
 obtain ⟨i,hi,rfl⟩:=Array.mem_iff_getElem.1 he
 have h2:=this i hi
 rw [hb] at h2
 simpa using h2
theorem Clo.set {listed:Array Bool} {i:Nat} (h:Clo md ops listed) (hr:i∈Region.ready md ops listed):Clo md ops (listed.setIfInBounds i true):=by
 have keep:∀ k,listed.getD k false=true->(listed.setIfInBounds i true).getD k false=true:=fun k hk=>by
  by_cases e:i=k
  ·subst e
   rcases Nat.lt_or_ge i listed.size with h' | h'
   ·simp [h']
   ·simp [Array.getElem?_eq_none h'] at hk
  ·rw [getD_set_ne false e];exact hk
 obtain ⟨_,o,ho,hall⟩:=mem_ready.1 hr
 intro k ok hk hok e he hb
 by_cases e1:i=k
 ·subst e1;rw [ho] at hok;cases hok
  exact keep _ (hall e he hb)
 ·rw [getD_set_ne false e1] at hk
  exact keep _ (h k ok hk hok e he hb)
def q8q (md:Region.Mode) (ops:Array Oper) (LA:Array Bool) (i:Nat):Bool:=Ki md ops LA i || ((List.range LA.size).any fun k=>LA.getD k false && (!(decide (k=i)) && Region.waitsFor md ops k i))
theorem q2o {i:Nat} (h:q8q md ops LA i=true):Ki md ops LA i=true\/∃ k ok,k<LA.size/\LA.getD k false=true/\k≠i/\ops[k]? = some ok/\∃ e∈ok.after,Region.binds md e=true/\e.on=i:=by
 unfold q8q at h
 rcases Bool.or_eq_true_iff.1 h with h | h
 ·exact .inl h
 ·obtain ⟨k,hk,h2⟩:=List.any_eq_true.1 h
  simp only [Bool.and_eq_true,Bool.not_eq_true',decide_eq_false_iff_not] at h2
  obtain ⟨ok,h3,h4⟩:=Region.waitsFor_spec h2.2.2
  have hlt:=List.mem_range.1 hk
  exact .inr ⟨k,ok,hlt,h2.1,h2.2.1,h3,h4⟩
theorem Qr.firstT {i:Nat} {oi:Oper} {v:Value} (hi:ops[i]? = some oi) (hsel:Region.noSelect ops=true) (hLB:q8q md ops LA i=true)
  (hQ:∀ c a d v w,Q (.panic c) (a.put d v) w->Q (.panic c) a w):∀ (f:Nat) (listed:Array Bool) (a:Act) (w:World),
   (∀ j oj,ops[j]? = some oj->j≠i->listed.getD j true=false->(∀ e∈oj.after,Region.binds md e=true->e.on≠i)->oi.apart ops oj=true) ->
   Clo md ops listed->i∈Region.ready md ops listed->Ws P ops S w0 oi v a->Fr S w0 w ->
   Qr P md ops Q S w0 LA g f (listed.setIfInBounds i true) (a.put oi.dst v) w->Qr P md ops Q S w0 LA g (f+1) listed a w
 | f,listed,a,w,hfree,hcl,hr,hy,hw,H=>fun w2 h2=>by
  refine ⟨fun h=>(by rw [h] at hr;cases hr),fun j hj=>?_⟩
  by_cases hji:j=i
  ·subst hji;exact hy.wpOp hi (hw.then h2) fun w' hw'=>⟨(hw.then h2).then hw',H.more (h2.trans hw')⟩
  ·have hj':=ready_mono (i:=i) hj hji
   obtain ⟨hjun,oj,hoj,hall⟩:=mem_ready.1 hj
   have hnot:∀ e∈oj.after,Region.binds md e=true->e.on≠i:=fun e he hb heq=>by
    have g1:=hall e he hb
    have g0:=(mem_ready.1 hr).1
    rw [heq] at g1
    rcases Nat.lt_or_ge i listed.size with h' | h'
    ·simp [h'] at g0 g1;rw [g0] at g1;cases g1
    ·simp [Array.getElem?_eq_none h'] at g1
   cases f with
   | zero =>
    have hLA:=(H w2 h2).1
    rcases q2o hLB with hLB | ⟨k,ok,klt,k1,k2,k3,e,he,hb,hon⟩
    ·rw [hLA] at hj'
     obtain ⟨ok,hok,e,he,hb,hon⟩:=Xg hLB (mem_ready.1 hj').1
     rw [hoj] at hok
     cases hok
     exact absurd hon (hnot e he hb)
    ·rw [<- hLA,getD_set_ne false (Ne.symm k2)] at k1
     have c1:=hcl k ok k1 k3 e he hb
     rw [hon] at c1
     have g0:=(mem_ready.1 hr).1
     rcases Nat.lt_or_ge i listed.size with h' | h'
     ·simp [h'] at g0 c1;rw [g0] at c1;cases c1
     ·have:=Array.getElem?_eq_none h'
      simp [this] at g0
   | succ f =>
    have h1:=(H w2 h2).2 j hj'
    have g2:=hy.other hoj (hfree j oj hoj hji hjun hnot) (fun cs b=>Region.noSelect_spec hsel i oi cs b hi) (fun cs b=>Region.noSelect_spec hsel j oj cs b hoj) hQ h1
    have hfree':∀ k ok,ops[k]? = some ok->k≠i->(listed.setIfInBounds j true).getD k true=false ->
      (∀ e∈ok.after,Region.binds md e=true->e.on≠i)->oi.apart ops ok=true:=fun k ok hk hki hun hno=>by
     refine hfree k ok hk hki ?_ hno
     by_cases hjk:j=k
     ·subst hjk;exact hjun
     ·rw [getD_set_ne true hjk] at hun;exact hun
    refine wpOp_mono (fun a' w' h3=>⟨h3.2.1,Qr.firstT hi hsel hLB hQ f (listed.setIfInBounds j true) a' w' hfree' (hcl.set hj) (ready_mono hr (Ne.symm hji)) h3.1 h3.2.1 ?_⟩) g2
    rw [Array.setIfInBounds_comm _ _ hji]
    exact h3.2.2
def Sj (md:Region.Mode) (ops:Array Oper) (LA:Array Bool):Nat->List Bool->Bool
 | k,true :: m=>q8q md ops LA k && Sj md ops LA (k+1) m
 | k,false :: m=>Sj md ops LA (k+1) m
 | _,[]=>true
theorem Q3 (hs:Region.noSelect ops=true) (hQ:∀ c a d v w,Q (.panic c) (a.put d v) w->Q (.panic c) a w) {aE:Act} {n f:Nat} :
  ∀ (m:List Bool) (L:List Oper) (k:Nat) (listed:Array Bool) (a:Act) (w:World),(∀ j,L[j]? = ops[k+j]?)->Clo md ops listed->Qd md ops k m listed=true->Sj md ops LA k m=true->Uu n (sel m L)=true->a.tmps.size=n->Fr S w0 w ->
   (∀ wf,Fr S w0 wf->wpQuiet P ops (fun w'=>∃ s:In wf,w'=s.at_) (fun a'=>a'=aE) (sel m L) a)->Qr P md ops Q S w0 LA g f (Vt k m listed) aE w->Qr P md ops Q S w0 LA g (f+countB m) listed a w
 | [],L,k,listed,a,w,_,_,_,_,_,_,_,h,H=>by
  have h0:a=aE:=by have:=h w0 (Fr.refl _ _);cases L <;> exact this
  subst h0;exact H
 | false :: m,[],k,listed,a,w,hL,hC,hB,hW,hd,hn,hw,h,H=>Q3 hs hQ m [] (k+1) listed a w (fun j=>by have:=hL (j+1);simpa [Nat.add_assoc,Nat.add_comm 1 j] using this) hC hB hW (by cases m with | nil=>rfl | cons b m=>cases b <;> rfl) hn hw (fun wf hf=>by have:=h wf hf;cases m with | nil=>exact this | cons b m=>cases b <;> exact this) H
 | false :: m,o :: L,k,listed,a,w,hL,hC,hB,hW,hd,hn,hw,h,H=>Q3 hs hQ m L (k+1) listed a w (fun j=>by have:=hL (j+1);simpa [Nat.add_assoc,Nat.add_comm 1 j] using this) hC hB hW hd hn hw h H
 | true :: m,[],k,listed,a,w,hL,hC,hB,_,_,_,_,_,_=>by
  exfalso
  simp only [Qd,Bool.and_eq_true] at hB
  have hr:k∈Region.ready md ops listed:=by simpa using hB.1.1
  obtain ⟨_,o,ho,_⟩:=mem_ready.1 hr
  have:=hL 0
  simp [ho] at this
 | true :: m,o :: L,k,listed,a,w,hL,hC,hB,hW,hd,hn,hw,h,H=>by
  simp only [Sj,Bool.and_eq_true] at hW
  obtain ⟨hW1,hW2⟩:=hW
  have h0:ops[k]? = some o:=by simpa using (hL 0).symm
  simp only [Qd,Bool.and_eq_true] at hB
  obtain ⟨⟨hr,hf⟩,hB'⟩:=hB
  simp only [sel,Uu,Bool.and_eq_true] at hd
  obtain ⟨hd1,hd2⟩:=hd
  -- the value,and what follows
  have key:∃ v,Ws P ops S w0 o v a/\∀ wf,Fr S w0 wf->wpQuiet P ops (fun w'=>∃ s:In wf,w'=s.at_) (fun a'=>a'=aE) (sel m L) (a.put o.dst v):=by
   by_cases hw1:Region.wanted o (yielded ops a.tmps)=true
   ·have h':∀ wf,Fr S w0 wf->o.quiet P a (fun w'=>∃ s:In wf,w'=s.at_) (wpQuiet P ops (fun w'=>∃ s:In wf,w'=s.at_) (fun a'=>a'=aE) (sel m L)):=fun wf hf=>by
     have:=h wf hf
     simp only [sel,wpQuiet] at this
     rwa [qf hw1] at this
    obtain ⟨v,_,hv2⟩:=h' w0 (Fr.refl _ _)
    have same:∀ wf,Fr S w0 wf->∀ u,wpQuiet P ops (fun w'=>∃ s:In wf,w'=s.at_) (fun a'=>a'=aE) (sel m L) (a.put o.dst u)->o.dst=none\/u=v:=fun wf hf u hu=>by
     cases hod:o.dst with
     | none=>exact .inl rfl
     | some d =>
      rw [hod] at hd1 hu hv2
      simp only [Bool.and_eq_true,decide_eq_true_eq] at hd1
      have e1:=vg (sel m L) _ hd1.2 hu
      have e2:=vg (sel m L) _ hd1.2 hv2
      have hlt:d<a.tmps.size:=by rw [hn];exact hd1.1
      rw [e1] at e2
      simp [Act.put,hlt] at e2
      exact .inr e2
    refine ⟨v,.inl ⟨hw1,fun wf hf=>?_⟩,fun wf hf=>?_⟩
    ·obtain ⟨u,hu1,hu2⟩:=h' wf hf
     refine ⟨u,?_,same wf hf u hu2⟩
     have hq:=hu1 wf ⟨⟨wf,Fr.refl _ _⟩,rfl⟩
     unfold Oper.quietAt at hq ⊢
     generalize (execOp a.eval o).run P wf=r at *
     cases r with
     | ok x w' =>
      cases x <;> simp only [Oper.quietUpon] at hq ⊢
      case value=>exact hq
      case skip=>exact hq
      case enter g args=>exact ⟨hq.1,hq.2.mono fun e w'' ⟨he,s,hs⟩=>⟨he,hs ▸ s.fr⟩⟩
     | halt x w'=>exact hq
    ·obtain ⟨u,_,hu2⟩:=h' wf hf
     rw [<- Zm (same wf hf u hu2)];exact hu2
   ·refine ⟨undef,.inr ⟨by simpa using hw1,rfl⟩,fun wf hf=>?_⟩
    have:=h wf hf
    simp only [sel,wpQuiet] at this
    rwa [qd hw1] at this
  obtain ⟨v,hy,hK⟩:=key
  exact Qr.firstT h0 hs hW1 hQ (f+countB m) listed a w (Region.free_spec h0 hf) hC (by simpa using hr) hy hw
   (Q3 hs hQ m L (k+1) _ _ w (fun j=>by have:=hL (j+1);simpa [Nat.add_assoc,Nat.add_comm 1 j] using this) (hC.set (by simpa using hr)) hB' hW2 hd2 (by rw [size_put];exact hn) hw hK H)
end
section
variable {P:Program} {l:List Oper} {Q:Exit->Act->World->Prop} {w0:World} {S:List Nat} {LA:Array Bool} {g:Nat}
theorem Zc (m:List Bool) (f:Nat) {g' n:Nat} {listed listed':Array Bool} {a:Act} {w:World} (hf:f+countB m=g') (hs:Region.noSelect l.toArray=true) (hC:cloB .any l.toArray listed=true) (hB:Qd .any l.toArray 0 m listed=true) (hW:Sj .any l.toArray LA 0 m=true)
  (hd:Uu n (sel m l)=true) (hn:a.tmps.size=n) (hl:Vt 0 m listed=listed') (hQ:∀ c a d v w,Q (.panic c) (a.put d v) w->Q (.panic c) a w) (hw:Fr S w0 w)
  (h:∃ aE,(∀ wf,Fr S w0 wf->wpQuiet P l.toArray (fun w'=>∃ s:In wf,w'=s.at_) (fun a'=>a'=aE) (sel m l) a)/\Qr P .any l.toArray Q S w0 LA g f listed' aE w):Qr P .any l.toArray Q S w0 LA g g' listed a w:=by
 subst hf;subst hl
 obtain ⟨aE,h,H⟩:=h
 exact Q3 hs hQ m l 0 listed a w (by simp) (q6a hC) hB hW hd hn hw h H
end
end Go.Proofs.YtppajakfaomkaaaGreatDoor.Ar
