/- Parts. -/
import Derived.Test.YtbddhncgemeohaaGreatDoorYaa
import Derived.Test.YtbddhncgemeohaaGreatDoorYab
import Derived.Test.YtbddhncgemeohaaGreatDoorYad
import Derived.Laws.BitsAllLaws
import Derived.StillTail
import Derived.WalkArith
set_option linter.unusedVariables false
set_option linter.unusedSimpArgs false
set_option maxRecDepth 100000
set_option maxHeartbeats 12800000
namespace Go.Proofs.YtbddhncgemeohaaGreatDoor.Ar
open Go.RowKit
section
variable {P:Program} {ops:Array Oper} {Q:Exit->Act->World->Prop} {md:Region.Mode} {w0:World} {S:List Nat} {LA:Array Bool} {g:Nat}
def Qy (P:Program) (md:Region.Mode) (ops:Array Oper) (Q:Exit->Act->World->Prop) (S:List Nat) (w0:World) (LA:Array Bool) (g:Nat):Nat->Array Bool->Act->World->Prop
 | 0,listed,a,w=>∀ w2,Fr [] w w2->listed=LA/\wpAny P md ops Q g LA a w2
 | f+1,listed,a,w=>∀ w2,Fr [] w w2->Region.ready md ops listed≠[] /\
   ∀ i∈Region.ready md ops listed,wpOp P ops Q i (fun a' w'=>Fr S w0 w'/\Qy P md ops Q S w0 LA g f (listed.setIfInBounds i true) a' w') a w2
theorem Qy.more {f:Nat} {listed:Array Bool} {a:Act} {w w':World} (h:Qy P md ops Q S w0 LA g f listed a w) (k:Fr [] w w'):Qy P md ops Q S w0 LA g f listed a w':=Ey
theorem Qy.sound:∀ (f:Nat) (listed:Array Bool) (a:Act) (w:World),Qy P md ops Q S w0 LA g f listed a w->wpAny P md ops Q (f+g) listed a w
 | 0,listed,a,w,h=>by obtain ⟨rfl,h1⟩:=h w (Fr.refl _ _);rw [Nat.zero_add];exact h1
 | f+1,_,_,w,h=>by
  rw [show f+1+g=(f+g)+1 by omega];exact ⟨fun h0=>absurd h0 (h w (Fr.refl _ _)).1,fun i hi=>wpOp_mono (fun a' w' hh=>Qy.sound f _ a' w' hh.2) ((h w (Fr.refl _ _)).2 i hi)⟩
def Kt (md:Region.Mode) (ops:Array Oper) (LA:Array Bool) (i:Nat):Bool:=(List.range LA.size).all fun j=>LA.getD j true || Region.waitsFor md ops j i
theorem Xq {i j:Nat} (h:Kt md ops LA i=true) (hj:LA.getD j true=false):∃ oj,ops[j]? = some oj/\∃ e∈oj.after,Region.binds md e=true/\e.on=i:=by
 unfold Kt at h
 have hlt:j<LA.size:=by
  rcases Nat.lt_or_ge j LA.size with h' | h'
  ·exact h'
  ·simp [Array.getElem?_eq_none h'] at hj
 have:=List.all_eq_true.1 h j (List.mem_range.2 hlt);rw [hj] at this;exact Region.waitsFor_spec (by simpa using this)
theorem Qy.first {i:Nat} {oi:Oper} {v:Value} (hi:ops[i]? = some oi) (hsel:Region.noSelect ops=true) (hLB:Kt md ops LA i=true)
  (hQ:∀ c a d v w,Q (.panic c) (a.put d v) w->Q (.panic c) a w):∀ (f:Nat) (listed:Array Bool) (a:Act) (w:World),
   (∀ j oj,ops[j]? = some oj->j≠i->listed.getD j true=false->(∀ e∈oj.after,Region.binds md e=true->e.on≠i)->oi.apart ops oj=true) ->
   i∈Region.ready md ops listed->We P ops S w0 oi v a->Fr S w0 w ->
   Qy P md ops Q S w0 LA g f (listed.setIfInBounds i true) (a.put oi.dst v) w->Qy P md ops Q S w0 LA g (f+1) listed a w
 | f,listed,a,w,hfree,hr,hy,hw,H=>fun w2 h2=>by
  refine ⟨fun h=>Oc,fun j hj=>?_⟩;by_cases hji:j=i
  ·exact Co
  ·have hj':=ready_mono (i:=i) hj hji;obtain ⟨hjun,oj,hoj,hall⟩:=mem_ready.1 hj
   have hnot:∀ e∈oj.after,Region.binds md e=true->e.on≠i:=fun e he hb heq=>Aq
   cases f with
   | zero =>
    have hLA:=(H w2 h2).1;exact Bi
   | succ f =>
    have h1:=(H w2 h2).2 j hj';have g2:=hy.other hoj (hfree j oj hoj hji hjun hnot) (fun cs b=>Region.noSelect_spec hsel i oi cs b hi) (fun cs b=>Region.noSelect_spec hsel j oj cs b hoj) hQ h1
    have hfree':∀ k ok,ops[k]? = some ok->k≠i->(listed.setIfInBounds j true).getD k true=false ->
      (∀ e∈ok.after,Region.binds md e=true->e.on≠i)->oi.apart ops ok=true:=fun k ok hk hki hun hno=>by
     refine hfree k ok hk hki ?_ hno
     by_cases hjk:j=k
     ·subst hjk;exact hjun
     ·rw [getD_set_ne true hjk] at hun;exact hun
    refine wpOp_mono (fun a' w' h3=>⟨h3.2.1,Qy.first hi hsel hLB hQ f (listed.setIfInBounds j true) a' w' hfree' (ready_mono hr (Ne.symm hji)) h3.1 h3.2.1 ?_⟩) g2;exact Dy
def Vm (md:Region.Mode) (ops:Array Oper) (LA:Array Bool):Nat->List Bool->Bool
 | k,true :: m=>Kt md ops LA k && Vm md ops LA (k+1) m
 | k,false :: m=>Vm md ops LA (k+1) m
 | _,[]=>true
theorem Qd (hs:Region.noSelect ops=true) (hQ:∀ c a d v w,Q (.panic c) (a.put d v) w->Q (.panic c) a w) {aE:Act} {n f:Nat} :
  ∀ (m:List Bool) (L:List Oper) (k:Nat) (listed:Array Bool) (a:Act) (w:World),(∀ j,L[j]? = ops[k+j]?)->Ql md ops k m listed=true->Vm md ops LA k m=true->Tm n (sel m L)=true->a.tmps.size=n->Fr S w0 w ->
   (∀ wf,Fr S w0 wf->wpQuiet P ops (fun w'=>∃ s:In wf,w'=s.at_) (fun a'=>a'=aE) (sel m L) a)->Qy P md ops Q S w0 LA g f (Y0 k m listed) aE w->Qy P md ops Q S w0 LA g (f+countB m) listed a w
 | [],L,k,listed,a,w,_,_,_,_,_,_,h,H=>by
  exact Dc
 | false :: m,[],k,listed,a,w,hL,hB,hW,hd,hn,hw,h,H=>Qd hs hQ m [] (k+1) listed a w (fun j=>by have:=hL (j+1);simpa [Nat.add_assoc,Nat.add_comm 1 j] using this) hB hW N9 hn hw (fun wf hf=>by have:=h wf hf;cases m with | nil=>exact this | cons b m=>cases b <;> exact this) H
 | false :: m,o :: L,k,listed,a,w,hL,hB,hW,hd,hn,hw,h,H=>Qd hs hQ m L (k+1) listed a w (fun j=>by have:=hL (j+1);simpa [Nat.add_assoc,Nat.add_comm 1 j] using this) hB hW hd hn hw h H
 | true :: m,[],k,listed,a,w,hL,hB,_,_,_,_,_,_=>by
  exfalso
  simp only [Ql,Bool.and_eq_true] at hB
  have hr:k∈Region.ready md ops listed:=by simpa using hB.1.1
  obtain ⟨_,o,ho,_⟩:=mem_ready.1 hr
  have:=hL 0
  simp [ho] at this
 | true :: m,o :: L,k,listed,a,w,hL,hB,hW,hd,hn,hw,h,H=>by
  simp only [Vm,Bool.and_eq_true] at hW
  obtain ⟨hW1,hW2⟩:=hW
  have h0:ops[k]? = some o:=by simpa using (hL 0).symm
  simp only [Ql,Bool.and_eq_true] at hB
  obtain ⟨⟨hr,hf⟩,hB'⟩:=hB
  simp only [sel,Tm,Bool.and_eq_true] at hd
  obtain ⟨hd1,hd2⟩:=hd
  have key:∃ v,We P ops S w0 o v a/\∀ wf,Fr S w0 wf->wpQuiet P ops (fun w'=>∃ s:In wf,w'=s.at_) (fun a'=>a'=aE) (sel m L) (a.put o.dst v):=by
   by_cases hw1:Region.wanted o (yielded ops a.tmps)=true
   ·have h':∀ wf,Fr S w0 wf->o.quiet P a (fun w'=>∃ s:In wf,w'=s.at_) (wpQuiet P ops (fun w'=>∃ s:In wf,w'=s.at_) (fun a'=>a'=aE) (sel m L)):=fun wf hf=>by
     have:=h wf hf
     simp only [sel,wpQuiet] at this
     rwa [qg hw1] at this
    obtain ⟨v,_,hv2⟩:=h' w0 (Fr.refl _ _)
    have same:∀ wf,Fr S w0 wf->∀ u,wpQuiet P ops (fun w'=>∃ s:In wf,w'=s.at_) (fun a'=>a'=aE) (sel m L) (a.put o.dst u)->o.dst=none\/u=v:=fun wf hf u hu=>by
     cases hod:o.dst with
     | none=>exact .inl rfl
     | some d =>
      rw [hod] at hd1 hu hv2
      simp only [Bool.and_eq_true,decide_eq_true_eq] at hd1
      have e1:=yc (sel m L) _ hd1.2 hu
      have e2:=yc (sel m L) _ hd1.2 hv2
      have hlt:d<a.tmps.size:=by rw [hn];exact hd1.1
      rw [e1] at e2
      simp [Act.put,hlt] at e2
      exact .inr e2
    refine ⟨v,.inl ⟨hw1,fun wf hf=>?_⟩,fun wf hf=>?_⟩
    ·obtain ⟨u,hu1,hu2⟩:=h' wf hf
     refine ⟨u,?_,same wf hf u hu2⟩
     have hq:=hu1 wf ⟨⟨wf,Fr.refl _ _⟩,rfl⟩
     unfold Oper.quietAt at hq ⊢
     generalize (execOp a.eval o).run P wf=r at *
     cases r with
     | ok x w' =>
      cases x <;> simp only [Oper.quietUpon] at hq ⊢
      case value=>exact hq
      case skip=>exact hq
      case enter g args=>exact ⟨hq.1,hq.2.mono fun e w'' ⟨he,s,hs⟩=>⟨he,hs ▸ s.fr⟩⟩
     | halt x w'=>exact hq
    ·obtain ⟨u,_,hu2⟩:=h' wf hf
     rw [<- Zt (same wf hf u hu2)];exact hu2
   ·refine ⟨undef,.inr ⟨by simpa using hw1,rfl⟩,fun wf hf=>?_⟩
    have:=h wf hf
    simp only [sel,wpQuiet] at this
    rwa [qf hw1] at this
  obtain ⟨v,hy,hK⟩:=key
  exact Qy.first h0 hs hW1 hQ (f+countB m) listed a w (Region.free_spec h0 hf) Ou hy hw
   (Qd hs hQ m L (k+1) _ _ w (fun j=>by have:=hL (j+1);simpa [Nat.add_assoc,Nat.add_comm 1 j] using this) hB' hW2 hd2 O9 hw hK H)
end
section
variable {P:Program} {l:List Oper} {Q:Exit->Act->World->Prop} {w0:World} {S:List Nat} {LA:Array Bool} {g:Nat}
theorem q7w (m:List Bool) (f:Nat) {g' n:Nat} {listed listed':Array Bool} {a:Act} {w:World} (hf:f+countB m=g') (hs:Region.noSelect l.toArray=true) (hB:Ql .any l.toArray 0 m listed=true) (hW:Vm .any l.toArray LA 0 m=true)
  (hd:Tm n (sel m l)=true) (hn:a.tmps.size=n) (hl:Y0 0 m listed=listed') (hQ:∀ c a d v w,Q (.panic c) (a.put d v) w->Q (.panic c) a w) (hw:Fr S w0 w)
  (h:∃ aE,(∀ wf,Fr S w0 wf->wpQuiet P l.toArray (fun w'=>∃ s:In wf,w'=s.at_) (fun a'=>a'=aE) (sel m l) a)/\Qy P .any l.toArray Q S w0 LA g f listed' aE w):Qy P .any l.toArray Q S w0 LA g g' listed a w:=by
 subst hf;subst hl;obtain ⟨aE,h,H⟩:=h;exact Qd hs hQ m l 0 listed a w Ma hB hW hd hn hw h H
theorem lpq (m:List Bool) (f:Nat) {g' n:Nat} {listed listed':Array Bool} {a:Act} {w:World} (hw:Fr S w0 w) (h:∃ aE,(∀ wf,Fr S w0 wf->wpQuiet P l.toArray (fun w'=>∃ s:In wf,w'=s.at_) (fun a'=>a'=aE) (sel m l) a)/\Qy P .any l.toArray Q S w0 LA g f listed' aE w) (hn:a.tmps.size=n:=by exact rfl) (hl:Y0 0 m listed=listed':=by exact rfl) (hf:f+countB m=g':=by exact rfl) (hs:Region.noSelect l.toArray=true:=by kernel_rfl) (hB:Ql .any l.toArray 0 m listed=true:=by kernel_rfl) (hW:Vm .any l.toArray LA 0 m=true:=by kernel_rfl) (hd:Tm n (sel m l)=true:=by kernel_rfl) (hQ:∀ c a d v w,Q (.panic c) (a.put d v) w->Q (.panic c) a w:=by intro _ _ d _ _ h;cases d <;> exact h):Qy P .any l.toArray Q S w0 LA g g' listed a w:=q7w m f hf hs hB hW hd hn hl hQ hw h
theorem jc (rs:List Nat) {f:Nat} {listed:Array Bool} {a:Act} {w:World} (hr:Region.ready .any l.toArray listed=rs) (hne:rs≠[])
  (h:∀ w2,Fr [] w w2->∀ i∈rs,∀ o,l[i]? = some o->wpList P l.toArray (Nx Q (fun a' w'=>Fr S w0 w'/\Qy P .any l.toArray Q S w0 LA g f (listed.setIfInBounds i true) a' w')) [o] a w2):Qy P .any l.toArray Q S w0 LA g (f+1) listed a w:=by
 intro w2 h2;refine ⟨fun h0=>hne (hr.symm.trans h0),fun i hi=>?_⟩;exact Dh
theorem qa0 (i:Nat) {o:Oper} {f:Nat} {listed listed':Array Bool} {a:Act} {w:World} (hr:Region.ready .any l.toArray listed=[i]) (ho:l[i]? = some o) (hl:listed.setIfInBounds i true=listed')
  (h:∀ w2,Fr [] w w2->wpList P l.toArray (Nx Q (fun a' w'=>Fr S w0 w'/\Qy P .any l.toArray Q S w0 LA g f listed' a' w')) [o] a w2):Qy P .any l.toArray Q S w0 LA g (f+1) listed a w:=by
 exact Cz
theorem loq (i:Nat) {o:Oper} {f:Nat} {listed listed':Array Bool} {a:Act} {w:World} (h:∀ w2,Fr [] w w2->wpList P l.toArray (Nx Q (fun a' w'=>Fr S w0 w'/\Qy P .any l.toArray Q S w0 LA g f listed' a' w')) [o] a w2) (hl:listed.setIfInBounds i true=listed':=by exact rfl) (hr:Region.ready .any l.toArray listed=[i]:=by kernel_rfl) (ho:l[i]? = some o:=by exact rfl):Qy P .any l.toArray Q S w0 LA g (f+1) listed a w:=qa0 i hr ho hl h
theorem qy {k:Nat} {a:Act} {w:World} (hg:(l.drop k).length=g) (hB:Region.seqB .any l.toArray g k LA=true) (h:∀ w2,Fr [] w w2->wpList P l.toArray Q (l.drop k) a w2):Qy P .any l.toArray Q S w0 LA g 0 LA a w:=Dv
theorem yl (i:Nat) {d:Tmp} {x:Operand} {ty:TypeId} {ps:String} {af:Array Edge} {f:Nat} {listed listed':Array Bool} {a:Act} {w:World} (hi:l[i]? = some { dst:=some d,op:=Op.move x,type:=ty,pos:=ps,after:=af,guard:=none })
  (hs:Region.noSelect l.toArray=true) (hf:Region.free .any l.toArray listed i=true) (hr:(Region.ready .any l.toArray listed).contains i=true) (hl:listed.setIfInBounds i true=listed') (hQ:∀ c a d v w,Q (.panic c) (a.put d v) w->Q (.panic c) a w)
  (h:wpAny P .any l.toArray Q f listed' (a.put (some d) (a.eval x)) w):wpAny P .any l.toArray Q (f+1) listed a w:=by
 subst hl;exact wpAny_take (by simpa using hi) hs hf hr (fun c a w=>hQ c a (some d) _ w) (.inl ⟨rfl,fun w=>rfl⟩) h
theorem za {n:Nat} {listed:Array Bool} {a:Act} {w:World} (S:List Nat) (w0:World) (LA:Array Bool) (f g:Nat) (hl:f+g=n) (h:Qy P .any l.toArray Q S w0 LA g f listed a w):wpAny P .any l.toArray Q n listed a w:=by subst hl;exact Qy.sound _ _ _ _ h
theorem qq {id:Nat} {a:Act} {w:World} (hm:P.follows .mixedOrders=true) (h:wpAny P .any l.toArray Q l.length (Array.replicate l.length false) a w.drew):(Code.region id l.toArray true).wp P Q a w :=
 wp_region_any hm Pz
end
end Go.Proofs.YtbddhncgemeohaaGreatDoor.Ar
namespace Go.Proofs.YtbddhncgemeohaaGreatDoor.Mx
open Go.RowKit Ar Ref
def hd (n a b:Int):Int:=max a (min n b)
theorem q2z (n:Int) {a b:Int} (h:a<=b):a<=hd n a b/\hd n a b<=b:=by unfold hd;omega
theorem w64 {a:Int} (h0:-9223372036854775808<=a) (h1:a<=9223372036854775807):wrap64 a=a:=IntWalk.wrap64_in a ⟨h0,h1⟩
theorem qdv (a b:Int) (i:Nat) (hi:i<=24) (h0:0<=a) (h1:a<=1073741824) (h2:0<=b) (h3:b<2 ^ i):wrap64 (bits .or .u64 (a * 2 ^ i) b)=a * 2 ^ i+b:=by
 obtain ⟨x,rfl⟩:=Int.eq_ofNat_of_zero_le h0;obtain ⟨y,rfl⟩:=Int.eq_ofNat_of_zero_le h2;have hp:2 ^ i<=2 ^ 24:=Nat.pow_le_pow_right Mg hi
 have hy:y<2 ^ i:=by
  have:((2 ^ i:Nat):Int)=(2:Int) ^ i:=by simp
  omega
 have hx:x * 2 ^ i<=1073741824 * 2 ^ 24:=Nat.mul_le_mul Ly hp;have e:((x:Int) * 2 ^ i)=((x * 2 ^ i:Nat):Int):=by simp
 rw [e,u64_or_nat _ _ Ly Ly,nat_join i _ _ (Nat.mul_mod_left _ _) hy,IntWalk.wrap64_in _ ⟨by omega,by omega⟩];omega
def un (a:Int):Int:=a % 18446744073709551616
theorem Ta (a:Int):IntKind.u64.wrap a=un a:=IntKind.wrap_u64 a
theorem qcb (a:Int):0<=un a/\un a<18446744073709551616:=by unfold un;omega
theorem qbm (a:Int) (i m:Nat) (hm:m+1=2 ^ i) (hi:i<=24):wrap64 (bits .and .u64 (IntKind.u64.wrap a) (m:Int))=a % ((m+1:Nat):Int):=by
 have hb:=qcb a;rw [Ta];obtain ⟨x,hx⟩:=Int.eq_ofNat_of_zero_le hb.1;have hp:2 ^ i<=2 ^ 24:=Nat.pow_le_pow_right Mg hi;have hpos:0<2 ^ i:=Nat.two_pow_pos i;have hlt:x % 2 ^ i<2 ^ i:=Nat.mod_lt _ hpos;rw [hx,u64_and_nat _ _ Ly Ly,show m=2 ^ i - 1 by omega,Nat.and_two_pow_sub_one_eq_mod,IntWalk.wrap64_in _ ⟨by omega,by omega⟩,show 2 ^ i - 1+1=2 ^ i by omega,Int.natCast_emod,<- hx];unfold un;refine Int.emod_emod_of_dvd _ ?_;have:(18446744073709551616:Nat)=2 ^ i * 2 ^ (64 - i):=by rw [<- Nat.pow_add,show i+(64 - i)=64 by omega]
 exact ⟨((2 ^ (64 - i):Nat):Int),by rw [<- Int.natCast_mul,<- this];rfl⟩
theorem bv_u (a:Int):BitVec.ofInt 64 (IntKind.u64.wrap a)=BitVec.ofInt 64 a:=by
 rw [Ta];unfold un;apply BitVec.eq_of_toNat_eq;rw [BitVec.toNat_ofInt,BitVec.toNat_ofInt]
 have:a % 18446744073709551616 % ((2 ^ 64:Nat):Int)=a % ((2 ^ 64:Nat):Int):=by rw [show ((2 ^ 64:Nat):Int)=18446744073709551616 by decide];omega
 rw [this]
theorem Wy (n:Int):IntKind.i64.wrap n=wrap64 n:=by unfold wrap64;rw [IntKind.wrap_i64]
theorem qb7 (a b:Int):bits .and .i64 a b=wrap64 (bits .and .u64 (IntKind.u64.wrap a) b):=by show IntKind.i64.wrap ((BitVec.ofInt 64 a &&& BitVec.ofInt 64 b).toNat:Int)=wrap64 (IntKind.u64.wrap ((BitVec.ofInt 64 (IntKind.u64.wrap a) &&& BitVec.ofInt 64 b).toNat:Int));rw [bv_u];have h:=(BitVec.ofInt 64 a &&& BitVec.ofInt 64 b).isLt;generalize (BitVec.ofInt 64 a &&& BitVec.ofInt 64 b).toNat=n at *;exact Gq
theorem qdj (a b:Int):bits .or .i64 a b=wrap64 (bits .or .u64 a b):=by show IntKind.i64.wrap ((BitVec.ofInt 64 a ||| BitVec.ofInt 64 b).toNat:Int)=wrap64 (IntKind.u64.wrap ((BitVec.ofInt 64 a ||| BitVec.ofInt 64 b).toNat:Int));have h:=(BitVec.ofInt 64 a ||| BitVec.ofInt 64 b).isLt;generalize (BitVec.ofInt 64 a ||| BitVec.ofInt 64 b).toNat=n at *;exact Gq
theorem q1j (a:Int) (i m:Nat) (hm:m+1=2 ^ i) (hi:i<=24):bits .and .i64 a (m:Int)=a % ((m+1:Nat):Int):=by rw [qb7,qbm a i m hm hi]
theorem U8 (a b:Int) (i:Nat) (hi:i<=24) (h0:0<=a) (h1:a<=1073741824) (h2:0<=b) (h3:b<2 ^ i):bits .or .i64 (a * 2 ^ i) b=a * 2 ^ i+b:=by rw [qdj,qdv a b i hi h0 h1 h2 h3]
theorem Yr {a b:Int} {w:World} (h:a=b):Ending.returned (.int .i64 a) = .returned (.int .i64 b)/\w=w:=⟨by rw [h],rfl⟩
theorem ret_b {a b:Bool} {w:World} (h:a=b):Ending.returned (.bool a) = .returned (.bool b)/\w=w:=⟨by rw [h],rfl⟩
theorem Zu (n a b:Int) (w:World):Calls Tryz.prog 46 #[.int .i64 n,.int .i64 a,.int .i64 b] w fun e w'=>e = .returned (.int .i64 (hd n a b))/\w=w':=by
 generalize hm:hd n a b=m;have hm':=qb hm;clear hm;go_enter Tryz.func46,Tryz.ntmps46;go_wp2;all_goals go_ret
 all_goals exact Yr (by rw [<- hm'.out];unfold hd;(repeat' split at *) <;> omega)
def jv (a:Int) (m:Bool):Int:=hd a 0 1073741824 * 2+(if m then 1 else 0)
def atW (a:Int):Int:=a / 2
def K8 (a:Int):Bool:=decide (a % 2=1)
def yg (v:Int):Int:=hd v 0 16777212+3
def Vg (s:Int):Int:=if s<3 then -1 else wrap64 (s - 3)
def Qi (s p:Int):Int:=hd s 0 1073741824 * 16777216+hd p 0 16777212
def q58 (a:Int):Int:=a / 16777216
def wm (a:Int):Int:=a % 16777216
def Kv (d v:Int):Int:=hd d 0 1048576 * 2097152+(hd v (-1) 1048576+1)
def qae (a:Int):Int:=a / 2097152
def q3d (a:Int):Int:=a % 2097152 - 1
theorem Vj (a:Int) (m:Bool) (w:World):Calls Tryz.prog 60 #[.int .i64 a,.bool m] w fun e w'=>e = .returned (.int .i64 (jv a m))/\w=w':=by
 have hb:=q2z a (show (0:Int)<=1073741824 by decide);have hw:wrap64 (hd a 0 1073741824 * 2)=hd a 0 1073741824 * 2:=w64 Ly Ly;have hj:=U8 (hd a 0 1073741824) 1 1 Mg hb.1 hb.2 Mg Mg;simp only [Int.pow_one,Int.reducePow] at hj;cases m
 ·go_enter Tryz.func60,Tryz.ntmps60;go_wp2_with (go_at_call 46;refine (Zu _ _ _ _).mono ?_;rintro e _ ⟨rfl,rfl⟩);go_ret;exact Yr (by unfold jv;simp [hw])
 ·go_enter Tryz.func60,Tryz.ntmps60;go_wp2_with (go_at_call 46;refine (Zu _ _ _ _).mono ?_;rintro e _ ⟨rfl,rfl⟩);go_ret;exact Yr (by unfold jv;simp [hw,hj])
theorem Xb (a:Int) (w:World):Calls Tryz.prog 34 #[.int .i64 a] w fun e w'=>e = .returned (.int .i64 (atW a))/\w=w':=by go_enter Tryz.func34,Tryz.ntmps34;go_wp2;go_ret;exact Yr rfl
theorem Yn (a:Int) (w:World):Calls Tryz.prog 117 #[.int .i64 a] w fun e w'=>e = .returned (.bool (K8 a))/\w=w':=by go_enter Tryz.func117,Tryz.ntmps117;go_wp2;go_ret;exact ret_b (by unfold K8;rw [show bits .and .i64 a 1=a % 2 from q1j a 1 1 Mg Mg,Bool.eq_iff_iff];simp)
theorem Vq (v:Int) (w:World):Calls Tryz.prog 108 #[.int .i64 v] w fun e w'=>e = .returned (.int .i64 (yg v))/\w=w':=by go_enter Tryz.func108,Tryz.ntmps108;go_wp2_with (go_at_call 46;refine (Zu _ _ _ _).mono ?_;rintro e _ ⟨rfl,rfl⟩);go_ret;exact Yr (by unfold yg;have hb:=q2z v (show (0:Int)<=16777212 by decide);first | rfl | (rw [w64 Ly Ly]))
theorem Ve (s:Int) (w:World):Calls Tryz.prog 75 #[.int .i64 s] w fun e w'=>e = .returned (.int .i64 (Vg s))/\w=w':=by
 by_cases c:s<3
 all_goals
  go_enter Tryz.func75,Tryz.ntmps75
  go_wp2
  go_ret
  exact Yr (by unfold Vg;first | rw [qg Ly] | rw [qf Ly])
theorem Y2 (a b:Int) (w:World):Calls Tryz.prog 95 #[.int .i64 a,.int .i64 b] w fun e w'=>e = .returned (.int .i64 (Qi a b))/\w=w':=by go_enter Tryz.func95,Tryz.ntmps95;go_wp2_with (go_at_call 46;refine (Zu _ _ _ _).mono ?_;rintro e _ ⟨rfl,rfl⟩);go_ret;have hb:=q2z a (show (0:Int)<=1073741824 by decide);have hc:=q2z b (show (0:Int)<=16777212 by decide);have hw:wrap64 (hd a 0 1073741824 * 16777216)=hd a 0 1073741824 * 16777216:=w64 Ly Ly;have hj:=U8 (hd a 0 1073741824) (hd b 0 16777212) 24 Mg hb.1 hb.2 hc.1 (by simp only [Int.reducePow];omega);simp only [Int.reducePow] at hj;exact Yr (by unfold Qi;rw [<- hj];first | rfl | (simp only [hw]))
theorem q2m (a b:Int) (w:World):Calls Tryz.prog 64 #[.int .i64 a,.int .i64 b] w fun e w'=>e = .returned (.int .i64 (Kv a b))/\w=w':=by go_enter Tryz.func64,Tryz.ntmps64;go_wp2_with (go_at_call 46;refine (Zu _ _ _ _).mono ?_;rintro e _ ⟨rfl,rfl⟩);go_ret;have hb:=q2z a (show (0:Int)<=1048576 by decide);have hc:=q2z b (show (-1:Int)<=1048576 by decide);have hw:wrap64 (hd a 0 1048576 * 2097152)=hd a 0 1048576 * 2097152:=w64 Ly Ly;have hw2:wrap64 (hd b (-1) 1048576+1)=hd b (-1) 1048576+1:=w64 Ly Ly;have hj:=U8 (hd a 0 1048576) (hd b (-1) 1048576+1) 21 Mg hb.1 Ly Ly (by simp only [Int.reducePow];omega);simp only [Int.reducePow] at hj;exact Yr (by unfold Kv;rw [<- hj];first | rfl | (simp only [hw,hw2]))
theorem q0j (a:Int) (w:World):Calls Tryz.prog 136 #[.int .i64 a] w fun e w'=>e = .returned (.int .i64 (q58 a))/\w=w':=by go_enter Tryz.func136,Tryz.ntmps136;go_wp2;go_ret;exact Yr rfl
theorem Y5 (a:Int) (w:World):Calls Tryz.prog 115 #[.int .i64 a] w fun e w'=>e = .returned (.int .i64 (wm a))/\w=w':=by go_enter Tryz.func115,Tryz.ntmps115;go_wp2;go_ret;exact Yr (by unfold wm;exact q1j a 24 16777215 Mg Mg)
theorem q7z (a:Int) (w:World):Calls Tryz.prog 74 #[.int .i64 a] w fun e w'=>e = .returned (.int .i64 (qae a))/\w=w':=by go_enter Tryz.func74,Tryz.ntmps74;go_wp2;go_ret;exact Yr rfl
theorem q7y (a:Int) (w:World):Calls Tryz.prog 96 #[.int .i64 a] w fun e w'=>e = .returned (.int .i64 (q3d a))/\w=w':=by go_enter Tryz.func96,Tryz.ntmps96;go_wp2;go_ret;exact Yr (by unfold q3d;have e:=q1j a 21 2097151 Mg Mg;simp only [Int.reduceToNat,Nat.reduceAdd] at e;first | (rw [e];done) | (have h1:=Int.emod_nonneg a (show (2097152:Int)≠0 by decide);have h2:=Int.emod_lt_of_pos a (show (0:Int)<2097152 by decide);simp [e];omega) | (rw [show bits .and .i64 a 2097151=a % 2097152 from e];have h1:=Int.emod_nonneg a (show (2097152:Int)≠0 by decide);have h2:=Int.emod_lt_of_pos a (show (0:Int)<2097152 by decide);exact w64 Ly Ly))
def Ob (w:World) (b:Nat) (T:TypeId) (cs:Array Value):Prop:=w.heap[b]? = some (.cells cs T (0,0))
theorem Ob.lt {w:World} {b:Nat} {T:TypeId} {cs:Array Value} (h:Ob w b T cs):b<w.heap.size:=(Array.getElem?_eq_some_iff.1 h).1
theorem Ob.kept {S:List Nat} {w w':World} {b:Nat} {T:TypeId} {cs:Array Value} (h:Ob w b T cs) (f:Fr S w w') (hb:b∉S):Ob w' b T cs:=f.heap h hb
theorem Ob.up {w w':World} {b:Nat} {T:TypeId} {cs:Array Value} (h:Ob w b T cs) (f:Fr [] w w'):Ob w' b T cs:=f.heap h Ma
theorem Ob.set {w:World} {b i:Nat} {T:TypeId} {cs:Array Value} (h:Ob w b T cs) (v:Value):Ob (w.setCell ⟨b,i,none⟩ v) b T (cs.setIfInBounds i v):=heap_setCell_same _ b i _ _ v h
theorem Ob.other {w:World} {b b' i:Nat} {T:TypeId} {cs:Array Value} (h:Ob w b T cs) (hb:b≠b') (v:Value):Ob (w.setCell ⟨b',i,none⟩ v) b T cs:=by unfold Ob;rw [heap_setCell_other _ _ _ _ hb];exact h
theorem Ob.new (w:World) (T:TypeId) (cs:Array Value):Ob (w.alloc (.cells cs T (0,0))) w.heap.size T cs:=Go.heap_alloc_new w _
theorem Vz (w:World) (o:Obj):(w.alloc o).heap.size=w.heap.size+1:=by unfold World.alloc;simp
theorem Ob.newAt {w:World} {n:Nat} (hs:w.heap.size=n) (T:TypeId) (cs:Array Value):Ob (w.alloc (.cells cs T (0,0))) n T cs:=by subst hs;exact Ob.new w T cs
theorem Ob.cell {w:World} {b:Nat} {T:TypeId} {cs:Array Value} (h:Ob w b T cs) {i:Nat} {v:Value} (hv:cs[i]? = some v):w.cell? ⟨b,i,none⟩=some v:=by rw [cell_of_row _ _ _ _ _ _ h];exact hv
theorem Ob.frozen {w:World} {b:Nat} {T:TypeId} {cs:Array Value} (h:Ob w b T cs) (i:Nat):w.frozen? ⟨b,i,none⟩=false:=frozen_of_row _ _ _ _ _ h
theorem Ob.ne {w:World} {b b':Nat} {T T':TypeId} {cs cs':Array Value} (h:Ob w b T cs) (k:Ob w b' T' cs') (hT:T≠T'):b≠b':=by rintro rfl;unfold Ob at h k;rw [h] at k;simp only [Option.some.injEq,Obj.cells.injEq] at k;exact hT k.2.1
theorem _root_.Go.Proofs.YtbddhncgemeohaaGreatDoor.Ref.Rar.set {w:World} {p q b i:Nat} {s:St} (h:Rar w p q s) (hp:b≠p) (hq:b≠q) (v:Value):Rar (w.setCell ⟨b,i,none⟩ v) p q s :=
 h.kept (Fr.setCell (S:=[b]) v (List.mem_singleton.2 rfl)) (by simpa using hp.symm) (by simpa using hq.symm)
theorem zo {S T:List Nat} {w w' w'':World} (h:Fr S w w') (k:Fr T w' w'') (hT:∀ i,i∈T->i∈S):Fr S w w'':=h.trans (k.mono hT)
structure Cf where
 t:Int
 c:Int
 wd:Int
 v:Int
def Cf.val (c:Cf):Value:=.agg #[.int .i64 c.t,.int .i64 c.c,.int .i64 c.wd,.int .i64 c.v]
structure Cf.Ok (c:Cf):Prop where
 t1:1<=c.t
 t8:c.t<=8
 c2:c.t+2<=c.c
 c16:c.c<=16
 w1:1<=c.wd
 w2:c.wd<=20000
 v1:1<=c.v
 v2:c.v<=1048576
 top:21+c.t+3 * c.c<=c.wd
def z8 (c:Cf):Int:=7+3 * c.c
def qab (t:Int):Int:=3+t
def yn (c:Cf) (k:Int):Int:=3+c.t+k / 16
def zq (c:Cf):Int:=7+c.t
def jk (c:Cf):Int:=14+c.t
def topP (c:Cf):Int:=21+c.t+3 * c.c
def Qo (a i:Int):Int:=wrap64 (a+7+3 * i)
theorem w64w (a b:Int):wrap64 (wrap64 a+wrap64 b)=wrap64 (a+b):=by unfold wrap64;omega
theorem w64l (a b:Int):wrap64 (wrap64 a+b)=wrap64 (a+b):=by unfold wrap64;omega
theorem w64r (a b:Int):wrap64 (a+wrap64 b)=wrap64 (a+b):=by unfold wrap64;omega
theorem w64i (a:Int):wrap64 (wrap64 a)=wrap64 a:=by unfold wrap64;omega
theorem vq (a i:Int) (w:World):Calls Tryz.prog 105 #[.int .i64 a,.int .i64 i] w fun e w'=>e = .returned (.int .i64 (Qo a i))/\w=w':=by go_enter Tryz.func105,Tryz.ntmps105;go_wp2;go_ret;exact Yr (by unfold Qo;first | rw [w64w] | (simp only [w64l,w64r,w64i,w64w]))
structure Wk where
 c:Cf
 key:Int
 line:Int
 x:Int
 cur:Int
 n:Int
 at_:Int
def Wk.cells (x:Wk):Array Value:=#[.int .i64 x.c.t,.int .i64 x.c.c,.int .i64 x.c.wd,.int .i64 x.c.v,.int .i64 x.key,.int .i64 x.line,.int .i64 x.x,.int .i64 x.cur,.int .i64 x.n,.int .i64 x.at_]
def Wk.new (c:Cf) (key:Int):Wk:=⟨c,key,1,0,0,0,0⟩
def Wk.head (x:Wk):Wk:={ x with cur:=zq x.c,line:=5 }
def Wk.ends (x:Wk):Wk:={ x with at_:=x.cur,line:=0 }
def Wk.looks (x:Wk):Int :=
 if x.line=1 then yn x.c x.key else if x.line=2 then wrap64 (x.x+6) else if x.line=3 then wrap64 x.x else if x.line=5 then wrap64 (x.cur+2) else wrap64 x.n
def Wk.next (x:Wk) (v:Int):Wk :=
 if x.line=1 then (if v=0 then { x with x:=v,line:=2 }.head else { x with x:=v,line:=2 })
 else if x.line=2 then (if v=0 then { x with line:=3 } else { x with line:=3 }.head)
 else if x.line=3 then (if v<=x.key then { x with cur:=x.x,line:=5 } else x.head)
 else if x.line=5 then (if atW v=0 then { x with n:=0,line:=6 }.ends else { x with n:=atW v,line:=6 })
 else (if v<=x.key then { x with cur:=x.n,line:=5 } else x.ends)
def Wk.live (x:Wk):Bool:=decide (x.line=1) || decide (x.line=2) || decide (x.line=3) || decide (x.line=5) || decide (x.line=6)
def Wk.step (x:Wk) (s:St):Wk×St:=if x.live=true then (x.next (qx s.l x.looks),s.load x.looks) else (x,s)
def Z8 (w:World) (b:Nat) (x:Wk):Prop:=Ob w b 136 x.cells
theorem xh {w:World} {b:Nat} {x:Wk} (h:Z8 w b x):w.cell? ⟨b,0,none⟩=some (.int .i64 x.c.t)/\w.cell? ⟨b,1,none⟩=some (.int .i64 x.c.c)/\w.cell? ⟨b,2,none⟩=some (.int .i64 x.c.wd)/\w.cell? ⟨b,3,none⟩=some (.int .i64 x.c.v)/\w.cell? ⟨b,4,none⟩=some (.int .i64 x.key)/\w.cell? ⟨b,5,none⟩=some (.int .i64 x.line)/\w.cell? ⟨b,6,none⟩=some (.int .i64 x.x)/\w.cell? ⟨b,7,none⟩=some (.int .i64 x.cur)/\w.cell? ⟨b,8,none⟩=some (.int .i64 x.n)/\w.cell? ⟨b,9,none⟩=some (.int .i64 x.at_) :=
 ⟨h.cell rfl,h.cell rfl,h.cell rfl,h.cell rfl,h.cell rfl,h.cell rfl,h.cell rfl,h.cell rfl,h.cell rfl,h.cell rfl⟩
theorem X6 (c:Cf) (key:Int) (w:World):Calls Tryz.prog 79 #[c.val,.int .i64 key] w fun e w'=>∃ b,e = .returned (.pointer (some ⟨b,0,none⟩))/\w.heap.size<=b/\Z8 w' b (Wk.new c key)/\Fr [] w w':=by unfold Cf.val;have F0:=(Fr.refl [] w).alloc (.cells #[.int .i64 c.t,.int .i64 c.c,.int .i64 c.wd,.int .i64 c.v] 23);obtain ⟨c0,c1,c2,c3⟩:=Pl.xj (Go.heap_alloc_new w (.cells #[.int .i64 c.t,.int .i64 c.c,.int .i64 c.wd,.int .i64 c.v] 23));go_enter Tryz.func79,Tryz.ntmps79;exact Bh
theorem Jv (x:Wk) (hc:x.c.Ok) (b:Nat) (w:World) (h:Z8 w b x):Calls Tryz.prog 110 #[.pointer (some ⟨b,0,none⟩)] w fun e w'=>e = .returned (.tuple #[])/\Z8 w' b x.head/\Fr [b] w w':=by
 obtain ⟨c0,c1,c2,c3,-,-,-,-,-,-⟩:=xh h;have z:=h.frozen;go_enter Tryz.func110,Tryz.ntmps110;go_wp2_with fail;refine (Ref.Qb x.c.t x.c.c x.c.wd x.c.v hc.t1 hc.t8 _).mono ?_;rintro e w1 ⟨rfl,F1⟩;have h1:Z8 w1 b x:=h.up F1;have z1:=h1.frozen;clear c0 c1 c2 c3 z;obtain ⟨-,-,-,-,-,c5,-,c7,-,-⟩:=xh h1;go_wp2;go_end0
 exact ⟨rfl,by
  have e:3+x.c.t+4=zq x.c:=by unfold zq;omega
  rw [e];exact (h1.set _).set _,(F1.mono).trans ((Fr.setCell _ Ma).setCell' _ Ma)⟩
theorem Ru (x:Wk) (b:Nat) (w:World) (h:Z8 w b x):Calls Tryz.prog 111 #[.pointer (some ⟨b,0,none⟩)] w fun e w'=>e = .returned (.tuple #[])/\Z8 w' b x.ends/\Fr [b] w w':=by obtain ⟨-,-,-,-,-,c5,-,c7,-,c9⟩:=xh h;have z:=h.frozen;go_enter Tryz.func111,Tryz.ntmps111;go_wp2;go_end0;exact ⟨rfl,(h.set _).set _,(Fr.setCell _ Ma).setCell' _ Ma⟩
theorem q43 (x:Wk) (hl:x.line=1) (hc:x.c.Ok) (hk:0<=x.key/\x.key<=63) (b p q:Nat) (s:St) (w:World) (h:Z8 w b x) (hA:Rar w p q s) (hp:b≠p) (hq:b≠q) :
  Calls Tryz.prog 84 #[.pointer (some ⟨b,0,none⟩),.pointer (some ⟨p,0,none⟩)] w fun e w'=>e = .returned (.bool (decide ((x.next (qx s.l (yn x.c x.key))).line=0)))/\Z8 w' b (x.next (qx s.l (yn x.c x.key)))/\Rar w' p q (s.load (yn x.c x.key))/\Fr [b,p,q] w w':=by
 generalize hy:x.next (qx s.l (yn x.c x.key))=y;have HY:=qb hy;clear hy;obtain ⟨c0,c1,c2,c3,c4,c5,c6,c7,c8,c9⟩:=xh h;go_enter Tryz.func84,Tryz.ntmps84;go_wp2_with fail;clear c0 c1 c2 c3 c4 c5 c6 c7 c8 c9;have hkw:(Lit.int .i64 x.key).wf=true:=WalkArith.wf_i64 Ly;refine qq Me ?_;refine yl 1 rfl Me Me Me rfl (fun _ _ d _ _ h=>by cases d <;> exact h) ?_;go_frame;refine za [p,q] w #[true,true,true,true,true,true,true,true,true,true,true,true,true,false,false,false,false,false,false] 12 6 rfl ?_;refine lpq [true,false,true,true,true,true,true,true,true,true,true,true,false,false,false,false,false,false,false] 1 ((Fr.refl _ w).drew) ?_;apply qh;refine ⟨fun wf Ff=>?_,?_⟩
 ·have hf:Z8 wf b x:=Ob.kept h Ff Mf;obtain ⟨c0,c1,c2,c3,c4,-,-,-,-,-⟩:=xh hf;have k0:=qc c0;have k1:=qc c1;have k2:=qc c2;have k3:=qc c3;have k4:=qc c4;clear c0 c1 c2 c3 c4;simp only [sel];repeat (go_big_quiet_step ((go_at_call 20;exact Calls.in_ (Ref.Vu x.c.t x.c.c x.c.wd x.c.v x.key hc.t1 hc.t8 hk.1 hk.2 _))))
  exact wpQuiet_nil rfl
 refine loq 12 (fun w3 F3=>?_);have D3:=(Fr.refl [] w).drew.trans F3;have A3:=hA.kept D3;have h3:=Ob.up h D3;clear hA h F3;go_wp2_with fail;refine (Ref.zl _ p q s _ A3).mono ?_;rintro e w4 ⟨rfl,A4,F4⟩;go_wp2_with fail;refine qo ⟨(D3.mono).trans F4,?_⟩;refine qy (k:=13) rfl Me (fun w5 F5=>?_);have A5:=A4.kept F5;have h5:Z8 w5 b x:=(h3.kept F4 Mf).up F5;have D5:Fr [b,p,q] w w5:=((D3.mono).trans (F4.mono)).then F5;clear A3 A4 h3 F4 F5 D3;have e2:3+x.c.t+x.key / 16=yn x.c x.key:=rfl;rw [e2] at A5 ⊢;obtain ⟨c0,c1,c2,c3,c4,c5,c6,c7,c8,c9⟩:=xh h5;have z:=h5.frozen;generalize hv:qx s.l (yn x.c x.key)=v at *;by_cases hv0:v=0
 ·have hn:y=({ x with x:=0,line:=2 }:Wk).head:=by rw [<- HY.out];subst hv0;unfold Wk.next;simp [hl]
  subst hn;go_wp2_with fail;have h6:Z8 _ b ({ x with x:=0,line:=2 }:Wk):=(h5.set (i:=6) (.int .i64 0)).set (i:=5) (.int .i64 2);have A6:=(A5.set hp hq (i:=6) (.int .i64 0)).set hp hq (i:=5) (.int .i64 2);have D6:=(D5.setCell' (b:=b) (i:=6) (.int .i64 0) Ma).setCell' (b:=b) (i:=5) (.int .i64 2) Ma;generalize ((w5.setCell ⟨b,6,none⟩ (.int .i64 0)).setCell ⟨b,5,none⟩ (.int .i64 2))=w6 at *;clear c0 c1 c2 c3 c4 c5 c6 c7 c8 c9 z h5 A5 D5;refine (Jv { x with x:=0,line:=2 } hc b _ h6).mono ?_;rintro e w7 ⟨rfl,h7,F7⟩;have A7:=A6.kept F7 Mi Mj;have D7:=zo D6 F7 Ma;clear h6 A6 D6 F7;exact Cj
 ·have hn:y = { x with x:=v,line:=2 }:=by rw [<- HY.out];unfold Wk.next;simp [hl,hv0]
  exact Dk
theorem q35 (x:Wk) (hl:x.line=2) (hc:x.c.Ok) (b p q:Nat) (s:St) (w:World) (h:Z8 w b x) (hA:Rar w p q s) (hp:b≠p) (hq:b≠q) :
  Calls Tryz.prog 84 #[.pointer (some ⟨b,0,none⟩),.pointer (some ⟨p,0,none⟩)] w fun e w'=>e = .returned (.bool (decide ((x.next (qx s.l (wrap64 (x.x+6)))).line=0)))/\Z8 w' b (x.next (qx s.l (wrap64 (x.x+6))))/\Rar w' p q (s.load (wrap64 (x.x+6)))/\Fr [b,p,q] w w':=by
 generalize hy:x.next (qx s.l (wrap64 (x.x+6)))=y;have HY:=qb hy;clear hy;obtain ⟨c0,c1,c2,c3,c4,c5,c6,c7,c8,c9⟩:=xh h;have z:=h.frozen;go_enter Tryz.func84,Tryz.ntmps84;go_wp2_with fail;have A1:=hA.set hp hq (i:=5) (.int .i64 3);have h1:Z8 _ b ({ x with line:=3 }:Wk):=Ob.set h (i:=5) (.int .i64 3);have D1:Fr [b,p,q] w (w.setCell ⟨b,5,none⟩ (.int .i64 3)):=Fr.setCell (b:=b) _ Ma;clear c0 c1 c2 c3 c4 c5 c6 c7 c8 c9 z;generalize (w.setCell ⟨b,5,none⟩ (.int .i64 3))=w1 at *;refine (Ref.zl _ p q s _ A1).mono ?_;rintro e w5 ⟨rfl,A5,F5⟩;have h5:=Ob.kept h1 F5 Mf;have D5:=zo D1 F5 Ma;clear A1 h1 D1 F5 hA h;obtain ⟨c0,c1,c2,c3,c4,c5,c6,c7,c8,c9⟩:=xh h5;generalize hv:qx s.l (wrap64 (x.x+6))=v at *;by_cases hv0:v=0
 ·have hn:y = { x with line:=3 }:=by rw [<- HY.out];subst hv0;unfold Wk.next;simp [hl]
  subst hn;exact Eb
 ·have hn:y=({ x with line:=3 }:Wk).head:=by rw [<- HY.out];unfold Wk.next;simp [hl,hv0]
  subst hn;go_wp2_with fail;refine (Jv { x with line:=3 } hc b _ h5).mono ?_;rintro e w7 ⟨rfl,h7,F7⟩;have A7:=(A5).kept F7 Mi Mj;have D7:=zo (D5) F7 Ma;exact Cj
theorem q39 (x:Wk) (hl:x.line=3) (hc:x.c.Ok) (b p q:Nat) (s:St) (w:World) (h:Z8 w b x) (hA:Rar w p q s) (hp:b≠p) (hq:b≠q) :
  Calls Tryz.prog 84 #[.pointer (some ⟨b,0,none⟩),.pointer (some ⟨p,0,none⟩)] w fun e w'=>e = .returned (.bool (decide ((x.next (qx s.l (wrap64 x.x))).line=0)))/\Z8 w' b (x.next (qx s.l (wrap64 x.x)))/\Rar w' p q (s.load (wrap64 x.x))/\Fr [b,p,q] w w':=by
 generalize hy:x.next (qx s.l (wrap64 x.x))=y;have HY:=qb hy;clear hy;obtain ⟨c0,c1,c2,c3,c4,c5,c6,c7,c8,c9⟩:=xh h;have z:=h.frozen;go_enter Tryz.func84,Tryz.ntmps84;go_wp2_with fail;clear c0 c1 c2 c3 c4 c5 c6 c7 c8 c9 z;refine ze Me [p,q] (fun w2 F2=>?_);refine epq [true,true,true,true,true,true,false,true,true,true,true,false] 2 (F2.mono) ?_;apply qh;refine ⟨fun wf Ff=>?_,?_⟩
 ·exact L9
 refine eoq 6 (fun w3 F3=>?_);have D3:=F2.trans F3;have A3:=hA.kept D3;have h3:=Ob.up h D3;clear hA h F2 F3;go_wp2_with fail;refine (Ref.zl _ p q s _ A3).mono ?_;rintro e w4 ⟨rfl,A4,F4⟩;have D4:=(D3.mono (T:=[p,q]) Ma).trans F4;have h4:=h3.kept F4 Mf;clear A3 h3 F4 D3;go_wp2_with fail;refine qo ⟨D4,?_⟩;refine eoq 11 (fun w5 F5=>?_);have D5:=D4.then F5;have h5:=h4.up F5;have A5:=A4.kept F5;clear A4 h4 F5 D4;go_wp2;refine qo ⟨D5,?_⟩;refine zw Me (fun w6 F6=>?_);have D6:Fr [b,p,q] w w6:=(D5.then F6).mono Ma;have h6:Z8 w6 b x:=h5.up F6;have A6:=A5.kept F6;clear A5 h5 F6 D5;obtain ⟨c0,c1,c2,c3,c4,c5,c6,c7,c8,c9⟩:=xh h6;have z:=h6.frozen;generalize hv:qx s.l (wrap64 x.x)=v at *;by_cases hv0:v<=x.key
 ·have hn:y = { x with cur:=x.x,line:=5 }:=by rw [<- HY.out];unfold Wk.next;simp [hl,hv0]
  exact Cr
 ·have hn:y=x.head:=by rw [<- HY.out];unfold Wk.next;simp [hl,hv0]
  subst hn;have g:decide (v<=x.key)=false:=by simpa using hv0
  go_wp2_with fail;refine (Jv x hc b _ h6).mono ?_;rintro e w7 ⟨rfl,h7,F7⟩;exact Bo
theorem q3g (x:Wk) (hl:x.line=6) (hc:x.c.Ok) (b p q:Nat) (s:St) (w:World) (h:Z8 w b x) (hA:Rar w p q s) (hp:b≠p) (hq:b≠q) :
  Calls Tryz.prog 84 #[.pointer (some ⟨b,0,none⟩),.pointer (some ⟨p,0,none⟩)] w fun e w'=>e = .returned (.bool (decide ((x.next (qx s.l (wrap64 x.n))).line=0)))/\Z8 w' b (x.next (qx s.l (wrap64 x.n)))/\Rar w' p q (s.load (wrap64 x.n))/\Fr [b,p,q] w w':=by
 generalize hy:x.next (qx s.l (wrap64 x.n))=y;have HY:=qb hy;clear hy;obtain ⟨c0,c1,c2,c3,c4,c5,c6,c7,c8,c9⟩:=xh h;have z:=h.frozen;go_enter Tryz.func84,Tryz.ntmps84;go_wp2_with fail;clear c0 c1 c2 c3 c4 c5 c6 c7 c8 c9 z;refine ze Me [p,q] (fun w2 F2=>?_);refine epq [true,true,true,true,true,true,false,true,true,true,true,false] 2 (F2.mono) ?_;apply qh;refine ⟨fun wf Ff=>?_,?_⟩
 ·exact L9
 refine eoq 6 (fun w3 F3=>?_);have D3:=F2.trans F3;have A3:=hA.kept D3;have h3:=Ob.up h D3;clear hA h F2 F3;go_wp2_with fail;refine (Ref.zl _ p q s _ A3).mono ?_;rintro e w4 ⟨rfl,A4,F4⟩;have D4:=(D3.mono (T:=[p,q]) Ma).trans F4;have h4:=h3.kept F4 Mf;clear A3 h3 F4 D3;go_wp2_with fail;refine qo ⟨D4,?_⟩;refine eoq 11 (fun w5 F5=>?_);have D5:=D4.then F5;have h5:=h4.up F5;have A5:=A4.kept F5;clear A4 h4 F5 D4;go_wp2;refine qo ⟨D5,?_⟩;refine zw Me (fun w6 F6=>?_);have D6:Fr [b,p,q] w w6:=(D5.then F6).mono Ma;have h6:Z8 w6 b x:=h5.up F6;have A6:=A5.kept F6;clear A5 h5 F6 D5;obtain ⟨c0,c1,c2,c3,c4,c5,c6,c7,c8,c9⟩:=xh h6;have z:=h6.frozen;generalize hv:qx s.l (wrap64 x.n)=v at *;by_cases hv0:v<=x.key
 ·have hn:y = { x with cur:=x.n,line:=5 }:=by rw [<- HY.out];unfold Wk.next;simp [hl,hv0]
  exact Cr
 ·have hn:y=x.ends:=by rw [<- HY.out];unfold Wk.next;simp [hl,hv0]
  subst hn;have g:decide (v<=x.key)=false:=by simpa using hv0
  go_wp2_with fail;exact Lr
theorem q3q (x:Wk) (hl:x.line=5) (hc:x.c.Ok) (b p q:Nat) (s:St) (w:World) (h:Z8 w b x) (hA:Rar w p q s) (hp:b≠p) (hq:b≠q) :
  Calls Tryz.prog 84 #[.pointer (some ⟨b,0,none⟩),.pointer (some ⟨p,0,none⟩)] w fun e w'=>e = .returned (.bool (decide ((x.next (qx s.l (wrap64 (x.cur+2)))).line=0)))/\Z8 w' b (x.next (qx s.l (wrap64 (x.cur+2))))/\Rar w' p q (s.load (wrap64 (x.cur+2)))/\Fr [b,p,q] w w':=by
 generalize hy:x.next (qx s.l (wrap64 (x.cur+2)))=y;have HY:=qb hy;clear hy;obtain ⟨c0,c1,c2,c3,c4,c5,c6,c7,c8,c9⟩:=xh h;have z:=h.frozen;go_enter Tryz.func84,Tryz.ntmps84;go_wp2_with fail;refine (Ref.zl _ p q s _ hA).mono ?_;rintro e w5 ⟨rfl,A5,F5⟩;have h5:Z8 w5 b x:=Ob.kept h F5 Mf;have D5:Fr [b,p,q] w w5:=F5.mono;clear c0 c1 c2 c3 c4 c5 c6 c7 c8 c9 z;clear F5 hA h;go_wp2_with fail;refine (Xb _ _).mono ?_;rintro e _ ⟨rfl,rfl⟩;obtain ⟨c0,c1,c2,c3,c4,c5,c6,c7,c8,c9⟩:=xh h5;have z:=h5.frozen;generalize hv:atW (qx s.l (wrap64 (x.cur+2)))=v at *;by_cases hv0:v=0
 ·have hn:y=({ x with n:=0,line:=6 }:Wk).ends:=by rw [<- HY.out];unfold Wk.next;simp [hl,hv,hv0]
  subst hn;go_wp2_with fail;have h6:Z8 _ b ({ x with n:=0,line:=6 }:Wk):=(h5.set (i:=8) (.int .i64 0)).set (i:=5) (.int .i64 6);have A6:=(A5.set hp hq (i:=8) (.int .i64 0)).set hp hq (i:=5) (.int .i64 6);have D6:=(D5.setCell' (b:=b) (i:=8) (.int .i64 0) Ma).setCell' (b:=b) (i:=5) (.int .i64 6) Ma;generalize ((w5.setCell ⟨b,8,none⟩ (.int .i64 0)).setCell ⟨b,5,none⟩ (.int .i64 6))=w6 at *;clear c0 c1 c2 c3 c4 c5 c6 c7 c8 c9 z h5 A5 D5;exact Lr
 ·have hn:y = { x with n:=v,line:=6 }:=by rw [<- HY.out];unfold Wk.next;simp [hl,hv,hv0]
  exact Dk
theorem q4o (x:Wk) (hl:x.live=false) (b p q:Nat) (w:World) (h:Z8 w b x) :
  Calls Tryz.prog 84 #[.pointer (some ⟨b,0,none⟩),.pointer (some ⟨p,0,none⟩)] w fun e w'=>e = .returned (.bool (decide (x.line=0)))/\w=w':=by
 obtain ⟨-,-,-,-,-,c5,-,-,-,-⟩:=xh h;unfold Wk.live at hl;simp only [Bool.or_eq_false_iff] at hl;obtain ⟨⟨⟨⟨l1,l2⟩,l3⟩,l5⟩,l6⟩:=hl;go_enter Tryz.func84,Tryz.ntmps84;simp only [decide_eq_false_iff_not] at l1 l2 l3 l5 l6;exact Ej
theorem Kl (x:Wk) (hc:x.c.Ok) (hk:0<=x.key/\x.key<=63) (b p q:Nat) (s:St) (w:World) (h:Z8 w b x) (hA:Rar w p q s) (hp:b≠p) (hq:b≠q) :
  Calls Tryz.prog 84 #[.pointer (some ⟨b,0,none⟩),.pointer (some ⟨p,0,none⟩)] w fun e w'=>e = .returned (.bool (decide ((x.step s).1.line=0)))/\Z8 w' b (x.step s).1/\Rar w' p q (x.step s).2/\Fr [b,p,q] w w':=by
 unfold Wk.step;cases hl:x.live with
 | false=>exact (q4o x hl b p q w h).mono (by rintro e w' ⟨rfl,rfl⟩;exact ⟨rfl,h,hA,Fr.refl _ _⟩)
 | true =>
  unfold Wk.live at hl;simp only [Bool.or_eq_true,decide_eq_true_eq] at hl;rcases hl with (((l | l) | l) | l) | l
  ·rw [qg rfl,show x.looks=yn x.c x.key by unfold Wk.looks;simp [l]];exact q43 x l hc hk b p q s w h hA hp hq
  ·rw [qg rfl,show x.looks=wrap64 (x.x+6) by unfold Wk.looks;simp [l]];exact q35 x l hc b p q s w h hA hp hq
  ·rw [qg rfl,show x.looks=wrap64 x.x by unfold Wk.looks;simp [l]];exact q39 x l hc b p q s w h hA hp hq
  ·rw [qg rfl,show x.looks=wrap64 (x.cur+2) by unfold Wk.looks;simp [l]];exact q3q x l hc b p q s w h hA hp hq
  ·rw [qg rfl,show x.looks=wrap64 x.n by unfold Wk.looks;simp [l]];exact q3g x l hc b p q s w h hA hp hq
end Go.Proofs.YtbddhncgemeohaaGreatDoor.Mx
namespace Go.Proofs.YtbddhncgemeohaaGreatDoor.Ar
open Go.RowKit
section
variable {P:Program} {ops:Array Oper} {Q:Exit->Act->World->Prop} {md:Region.Mode} {w0:World} {S:List Nat} {LA:Array Bool} {g:Nat}
def Y4 (md:Region.Mode) (ops:Array Oper) (LA:Array Bool) (i:Nat):Bool:=(List.range LA.size).any fun k=>k != i && LA.getD k false && Region.waitsFor md ops k i
theorem Kz {i:Nat} (h:Y4 md ops LA i=true):∃ k,k≠i/\LA.getD k false=true/\Region.waitsFor md ops k i=true:=by unfold Y4 at h;obtain ⟨k,-,hk⟩:=List.any_eq_true.1 h;simp only [Bool.and_eq_true,bne_iff_ne,ne_eq] at hk;exact ⟨k,hk.1.1,hk.1.2,hk.2⟩
def Qx (md:Region.Mode) (ops:Array Oper) (listed:Array Bool) (i:Nat):Bool:=(List.range listed.size).all fun k=>!(listed.getD k false) || !Region.waitsFor md ops k i
theorem Xw {listed:Array Bool} {i k:Nat} (h:Qx md ops listed i=true) (hk:listed.getD k false=true):Region.waitsFor md ops k i=false:=by
 unfold Qx at h
 have hlt:k<listed.size:=Ez
 have:=List.all_eq_true.1 h k (List.mem_range.2 hlt);rw [hk] at this;simpa using this
theorem getD_set_ne' {listed:Array Bool} {j k:Nat} (d:Bool) (h:j≠k):(listed.setIfInBounds j true).getD k d=listed.getD k d:=by simp [Array.getD_eq_getD_getElem?,Array.getElem?_setIfInBounds,h]
theorem Ul {listed:Array Bool} {i j:Nat} (h:Qx md ops listed i=true) (hj:¬ Region.waitsFor md ops j i=true):Qx md ops (listed.setIfInBounds j true) i=true:=by
 unfold Qx;rw [List.all_eq_true];intro k hk;by_cases e:j=k
 ·subst e;cases hw:Region.waitsFor md ops j i with
  | true=>exact absurd hw hj
  | false=>simp
 ·rw [getD_set_ne' false e];cases hl:listed.getD k false with
  | false=>rfl
  | true=>rw [Xw h hl];rfl
theorem Qy.first2 {i:Nat} {oi:Oper} {v:Value} (hi:ops[i]? = some oi) (hsel:Region.noSelect ops=true) (hLB:(Kt md ops LA i || Y4 md ops LA i)=true)
  (hQ:∀ c a d v w,Q (.panic c) (a.put d v) w->Q (.panic c) a w):∀ (f:Nat) (listed:Array Bool) (a:Act) (w:World),
   (∀ j oj,ops[j]? = some oj->j≠i->listed.getD j true=false->(∀ e∈oj.after,Region.binds md e=true->e.on≠i)->oi.apart ops oj=true) ->
   Qx md ops listed i=true->i∈Region.ready md ops listed->We P ops S w0 oi v a->Fr S w0 w ->
   Qy P md ops Q S w0 LA g f (listed.setIfInBounds i true) (a.put oi.dst v) w->Qy P md ops Q S w0 LA g (f+1) listed a w
 | f,listed,a,w,hfree,hnw,hr,hy,hw,H=>fun w2 h2=>by
  refine ⟨fun h=>Oc,fun j hj=>?_⟩;by_cases hji:j=i
  ·exact Co
  ·have hj':=ready_mono (i:=i) hj hji;obtain ⟨hjun,oj,hoj,hall⟩:=mem_ready.1 hj
   have hnot:∀ e∈oj.after,Region.binds md e=true->e.on≠i:=fun e he hb heq=>Aq
   cases f with
   | zero =>
    have hLA:=(H w2 h2).1
    have hLB:Kt md ops LA i=true:=by
     rcases Bool.or_eq_true_iff.1 hLB with h | h
     ·exact h
     ·obtain ⟨k,hki,hk,hkw⟩:=Kz h;rw [<- hLA,getD_set_ne' false (Ne.symm hki)] at hk;rw [Xw hnw hk] at hkw;cases hkw
    exact Bi
   | succ f =>
    have h1:=(H w2 h2).2 j hj';have g2:=hy.other hoj (hfree j oj hoj hji hjun hnot) (fun cs b=>Region.noSelect_spec hsel i oi cs b hi) (fun cs b=>Region.noSelect_spec hsel j oj cs b hoj) hQ h1
    have hfree':∀ k ok,ops[k]? = some ok->k≠i->(listed.setIfInBounds j true).getD k true=false ->
      (∀ e∈ok.after,Region.binds md e=true->e.on≠i)->oi.apart ops ok=true:=fun k ok hk hki hun hno=>by
     refine hfree k ok hk hki ?_ hno
     by_cases hjk:j=k
     ·subst hjk;exact hjun
     ·rw [getD_set_ne true hjk] at hun;exact hun
    refine wpOp_mono (fun a' w' h3=>⟨h3.2.1,Qy.first2 hi hsel hLB hQ f (listed.setIfInBounds j true) a' w' hfree' (Ul hnw (fun h=>by obtain ⟨ok,hok,e,he,hb,hon⟩:=Region.waitsFor_spec h;rw [hoj] at hok;cases hok;exact hnot e he hb hon)) (ready_mono hr (Ne.symm hji)) h3.1 h3.2.1 ?_⟩) g2;exact Dy
def Jz (md:Region.Mode) (ops:Array Oper) (LA:Array Bool):Nat->List Bool->Array Bool->Bool
 | k,true :: m,listed=>(Kt md ops LA k || Y4 md ops LA k) && Qx md ops listed k && Jz md ops LA (k+1) m (listed.setIfInBounds k true)
 | k,false :: m,listed=>Jz md ops LA (k+1) m listed
 | _,[],_=>true
theorem Q6 (hs:Region.noSelect ops=true) (hQ:∀ c a d v w,Q (.panic c) (a.put d v) w->Q (.panic c) a w) {aE:Act} {n f:Nat} :
  ∀ (m:List Bool) (L:List Oper) (k:Nat) (listed:Array Bool) (a:Act) (w:World),(∀ j,L[j]? = ops[k+j]?)->Ql md ops k m listed=true->Jz md ops LA k m listed=true->Tm n (sel m L)=true->a.tmps.size=n->Fr S w0 w ->
   (∀ wf,Fr S w0 wf->wpQuiet P ops (fun w'=>∃ s:In wf,w'=s.at_) (fun a'=>a'=aE) (sel m L) a)->Qy P md ops Q S w0 LA g f (Y0 k m listed) aE w->Qy P md ops Q S w0 LA g (f+countB m) listed a w
 | [],L,k,listed,a,w,_,_,_,_,_,_,h,H=>by
  exact Dc
 | false :: m,[],k,listed,a,w,hL,hB,hW,hd,hn,hw,h,H=>Q6 hs hQ m [] (k+1) listed a w (fun j=>by have:=hL (j+1);simpa [Nat.add_assoc,Nat.add_comm 1 j] using this) hB hW N9 hn hw (fun wf hf=>by have:=h wf hf;cases m with | nil=>exact this | cons b m=>cases b <;> exact this) H
 | false :: m,o :: L,k,listed,a,w,hL,hB,hW,hd,hn,hw,h,H=>Q6 hs hQ m L (k+1) listed a w (fun j=>by have:=hL (j+1);simpa [Nat.add_assoc,Nat.add_comm 1 j] using this) hB hW hd hn hw h H
 | true :: m,[],k,listed,a,w,hL,hB,_,_,_,_,_,_=>by
  exfalso
  simp only [Ql,Bool.and_eq_true] at hB
  have hr:k∈Region.ready md ops listed:=by simpa using hB.1.1
  obtain ⟨_,o,ho,_⟩:=mem_ready.1 hr
  have:=hL 0
  simp [ho] at this
 | true :: m,o :: L,k,listed,a,w,hL,hB,hW,hd,hn,hw,h,H=>by
  simp only [Jz,Bool.and_eq_true] at hW
  obtain ⟨⟨hW1,hW3⟩,hW2⟩:=hW
  have h0:ops[k]? = some o:=by simpa using (hL 0).symm
  simp only [Ql,Bool.and_eq_true] at hB
  obtain ⟨⟨hr,hf⟩,hB'⟩:=hB
  simp only [sel,Tm,Bool.and_eq_true] at hd
  obtain ⟨hd1,hd2⟩:=hd
  have key:∃ v,We P ops S w0 o v a/\∀ wf,Fr S w0 wf->wpQuiet P ops (fun w'=>∃ s:In wf,w'=s.at_) (fun a'=>a'=aE) (sel m L) (a.put o.dst v):=by
   by_cases hw1:Region.wanted o (yielded ops a.tmps)=true
   ·have h':∀ wf,Fr S w0 wf->o.quiet P a (fun w'=>∃ s:In wf,w'=s.at_) (wpQuiet P ops (fun w'=>∃ s:In wf,w'=s.at_) (fun a'=>a'=aE) (sel m L)):=fun wf hf=>by
     have:=h wf hf
     simp only [sel,wpQuiet] at this
     rwa [qg hw1] at this
    obtain ⟨v,_,hv2⟩:=h' w0 (Fr.refl _ _)
    have same:∀ wf,Fr S w0 wf->∀ u,wpQuiet P ops (fun w'=>∃ s:In wf,w'=s.at_) (fun a'=>a'=aE) (sel m L) (a.put o.dst u)->o.dst=none\/u=v:=fun wf hf u hu=>by
     cases hod:o.dst with
     | none=>exact .inl rfl
     | some d =>
      rw [hod] at hd1 hu hv2
      simp only [Bool.and_eq_true,decide_eq_true_eq] at hd1
      have e1:=yc (sel m L) _ hd1.2 hu
      have e2:=yc (sel m L) _ hd1.2 hv2
      have hlt:d<a.tmps.size:=by rw [hn];exact hd1.1
      rw [e1] at e2
      simp [Act.put,hlt] at e2
      exact .inr e2
    refine ⟨v,.inl ⟨hw1,fun wf hf=>?_⟩,fun wf hf=>?_⟩
    ·obtain ⟨u,hu1,hu2⟩:=h' wf hf
     refine ⟨u,?_,same wf hf u hu2⟩
     have hq:=hu1 wf ⟨⟨wf,Fr.refl _ _⟩,rfl⟩
     unfold Oper.quietAt at hq ⊢
     generalize (execOp a.eval o).run P wf=r at *
     cases r with
     | ok x w' =>
      cases x <;> simp only [Oper.quietUpon] at hq ⊢
      case value=>exact hq
      case skip=>exact hq
      case enter g args=>exact ⟨hq.1,hq.2.mono fun e w'' ⟨he,s,hs⟩=>⟨he,hs ▸ s.fr⟩⟩
     | halt x w'=>exact hq
    ·obtain ⟨u,_,hu2⟩:=h' wf hf
     rw [<- Zt (same wf hf u hu2)];exact hu2
   ·refine ⟨undef,.inr ⟨by simpa using hw1,rfl⟩,fun wf hf=>?_⟩
    have:=h wf hf
    simp only [sel,wpQuiet] at this
    rwa [qf hw1] at this
  obtain ⟨v,hy,hK⟩:=key
  exact Qy.first2 h0 hs hW1 hQ (f+countB m) listed a w (Region.free_spec h0 hf) hW3 Ou hy hw
   (Q6 hs hQ m L (k+1) _ _ w (fun j=>by have:=hL (j+1);simpa [Nat.add_assoc,Nat.add_comm 1 j] using this) hB' hW2 hd2 O9 hw hK H)
end
section
variable {P:Program} {l:List Oper} {Q:Exit->Act->World->Prop} {w0:World} {S:List Nat} {LA:Array Bool} {g:Nat}
theorem jd (m:List Bool) (f:Nat) {g' n:Nat} {listed listed':Array Bool} {a:Act} {w:World} (hf:f+countB m=g') (hs:Region.noSelect l.toArray=true) (hB:Ql .any l.toArray 0 m listed=true) (hW:Jz .any l.toArray LA 0 m listed=true)
  (hd:Tm n (sel m l)=true) (hn:a.tmps.size=n) (hl:Y0 0 m listed=listed') (hQ:∀ c a d v w,Q (.panic c) (a.put d v) w->Q (.panic c) a w) (hw:Fr S w0 w)
  (h:∃ aE,(∀ wf,Fr S w0 wf->wpQuiet P l.toArray (fun w'=>∃ s:In wf,w'=s.at_) (fun a'=>a'=aE) (sel m l) a)/\Qy P .any l.toArray Q S w0 LA g f listed' aE w):Qy P .any l.toArray Q S w0 LA g g' listed a w:=by
 subst hf;subst hl;obtain ⟨aE,h,H⟩:=h;exact Q6 hs hQ m l 0 listed a w Ma hB hW hd hn hw h H
end
section
variable {P:Program} {ops:Array Oper} {Q:Exit->Act->World->Prop} {md:Region.Mode} {C:World->Prop} {LA:Array Bool} {g:Nat}
def Vi (P:Program) (ops:Array Oper) (C:World->Prop) (o:Oper) (v:Value) (a:Act):Prop :=
 (Region.wanted o (yielded ops a.tmps)=true/\∀ w,C w->∃ u,o.quietAt P a (fun w'=>Fr [] w w') w u/\(o.dst=none\/u=v)) \/
 (Region.wanted o (yielded ops a.tmps)=false/\v=undef)
theorem Vi.wpOp {i:Nat} {o:Oper} {v:Value} {a:Act} (hi:ops[i]? = some o) (hy:Vi P ops C o v a) {K:Act->World->Prop} {w:World} (hw:C w)
  (h:∀ w',Fr [] w w'->K (a.put o.dst v) w'):wpOp P ops Q i K a w:=by
 exact Bq
theorem Vi.of_same {o:Oper} {v:Value} {a a':Act} (hy:Vi P ops C o v a) (he:execOp a'.eval o=execOp a.eval o)
  (hw:Region.wanted o (yielded ops a'.tmps)=Region.wanted o (yielded ops a.tmps)):Vi P ops C o v a':=by
 unfold Vi Oper.quietAt at *;rw [he,hw];exact hy
theorem Vi.other {j:Nat} {oi oj:Oper} {v:Value} (hj:ops[j]? = some oj) (hap:oi.apart ops oj=true)
  (hsi:∀ cs b,oi.op ≠ .select cs b) (hsj:∀ cs b,oj.op ≠ .select cs b)
  (hQ:∀ c a d v w,Q (.panic c) (a.put d v) w->Q (.panic c) a w) {K:Act->World->Prop} {a:Act} {w:World}
  (hy:Vi P ops C oi v a) (h:Go.wpOp P ops Q j K (a.put oi.dst v) w) :
  Go.wpOp P ops Q j (fun a' w'=>Vi P ops C oi v a'/\K (a'.put oi.dst v) w') a w:=by
 obtain ⟨h1,h2,h3⟩:=Oper.apart_spec hap
 have keep:∀ (a:Act),Vi P ops C oi v a->∀ u,Vi P ops C oi v (a.put oj.dst u):=fun a hy u =>
  hy.of_same (execOp_put oi hsi a oj.dst u h3) (wanted_put oi a oj.dst u h3)
 have keepD:∀ d,Vi P ops C oi v { a with defers:=d :: a.defers }:=fun d=>hy.of_same rfl rfl
 exact Ae
def Js (P:Program) (md:Region.Mode) (ops:Array Oper) (Q:Exit->Act->World->Prop) (C:World->Prop) (LA:Array Bool) (g:Nat):Nat->Array Bool->Act->World->Prop
 | 0,listed,a,w=>∀ w2,Fr [] w w2->listed=LA/\wpAny P md ops Q g LA a w2
 | f+1,listed,a,w=>∀ w2,Fr [] w w2->Region.ready md ops listed≠[] /\
   ∀ i∈Region.ready md ops listed,wpOp P ops Q i (fun a' w'=>C w'/\Js P md ops Q C LA g f (listed.setIfInBounds i true) a' w') a w2
theorem Js.more {f:Nat} {listed:Array Bool} {a:Act} {w w':World} (h:Js P md ops Q C LA g f listed a w) (k:Fr [] w w'):Js P md ops Q C LA g f listed a w':=Ey
theorem Js.sound:∀ (f:Nat) (listed:Array Bool) (a:Act) (w:World),Js P md ops Q C LA g f listed a w->wpAny P md ops Q (f+g) listed a w
 | 0,listed,a,w,h=>by obtain ⟨rfl,h1⟩:=h w (Fr.refl _ _);rw [Nat.zero_add];exact h1
 | f+1,_,_,w,h=>by
  rw [show f+1+g=(f+g)+1 by omega];exact ⟨fun h0=>absurd h0 (h w (Fr.refl _ _)).1,fun i hi=>wpOp_mono (fun a' w' hh=>Js.sound f _ a' w' hh.2) ((h w (Fr.refl _ _)).2 i hi)⟩
theorem Js.first (hC:∀ w w2,C w->Fr [] w w2->C w2) {i:Nat} {oi:Oper} {v:Value} (hi:ops[i]? = some oi) (hsel:Region.noSelect ops=true) (hLB:Kt md ops LA i=true)
  (hQ:∀ c a d v w,Q (.panic c) (a.put d v) w->Q (.panic c) a w):∀ (f:Nat) (listed:Array Bool) (a:Act) (w:World),
   (∀ j oj,ops[j]? = some oj->j≠i->listed.getD j true=false->(∀ e∈oj.after,Region.binds md e=true->e.on≠i)->oi.apart ops oj=true) ->
   i∈Region.ready md ops listed->Vi P ops C oi v a->C w ->
   Js P md ops Q C LA g f (listed.setIfInBounds i true) (a.put oi.dst v) w->Js P md ops Q C LA g (f+1) listed a w
 | f,listed,a,w,hfree,hr,hy,hw,H=>fun w2 h2=>by
  refine ⟨fun h=>Oc,fun j hj=>?_⟩;by_cases hji:j=i
  ·subst hji;exact hy.wpOp hi (hC _ _ hw h2) fun w' hw'=>⟨hC _ _ (hC _ _ hw h2) hw',H.more (h2.trans hw')⟩
  ·have hj':=ready_mono (i:=i) hj hji;obtain ⟨hjun,oj,hoj,hall⟩:=mem_ready.1 hj
   have hnot:∀ e∈oj.after,Region.binds md e=true->e.on≠i:=fun e he hb heq=>Aq
   cases f with
   | zero =>
    have hLA:=(H w2 h2).1;exact Bi
   | succ f =>
    have h1:=(H w2 h2).2 j hj';have g2:=hy.other hoj (hfree j oj hoj hji hjun hnot) (fun cs b=>Region.noSelect_spec hsel i oi cs b hi) (fun cs b=>Region.noSelect_spec hsel j oj cs b hoj) hQ h1
    have hfree':∀ k ok,ops[k]? = some ok->k≠i->(listed.setIfInBounds j true).getD k true=false ->
      (∀ e∈ok.after,Region.binds md e=true->e.on≠i)->oi.apart ops ok=true:=fun k ok hk hki hun hno=>by
     refine hfree k ok hk hki ?_ hno
     by_cases hjk:j=k
     ·subst hjk;exact hjun
     ·rw [getD_set_ne true hjk] at hun;exact hun
    refine wpOp_mono (fun a' w' h3=>⟨h3.2.1,Js.first hC hi hsel hLB hQ f (listed.setIfInBounds j true) a' w' hfree' (ready_mono hr (Ne.symm hji)) h3.1 h3.2.1 ?_⟩) g2;exact Dy
theorem Qe (hC:∀ w w2,C w->Fr [] w w2->C w2) (hs:Region.noSelect ops=true) (hQ:∀ c a d v w,Q (.panic c) (a.put d v) w->Q (.panic c) a w) {aE:Act} {n f:Nat} :
  ∀ (m:List Bool) (L:List Oper) (k:Nat) (listed:Array Bool) (a:Act) (w:World),(∀ j,L[j]? = ops[k+j]?)->Ql md ops k m listed=true->Vm md ops LA k m=true->Tm n (sel m L)=true->a.tmps.size=n->C w ->
   (∀ wf,C wf->wpQuiet P ops (fun w'=>∃ s:In wf,w'=s.at_) (fun a'=>a'=aE) (sel m L) a)->Js P md ops Q C LA g f (Y0 k m listed) aE w->Js P md ops Q C LA g (f+countB m) listed a w
 | [],L,k,listed,a,w,_,_,_,_,_,hw,h,H=>by
  have h0:a=aE:=by have:=h w hw;cases L <;> exact this
  subst h0;exact H
 | false :: m,[],k,listed,a,w,hL,hB,hW,hd,hn,hw,h,H=>Qe hC hs hQ m [] (k+1) listed a w (fun j=>by have:=hL (j+1);simpa [Nat.add_assoc,Nat.add_comm 1 j] using this) hB hW N9 hn hw (fun wf hf=>by have:=h wf hf;cases m with | nil=>exact this | cons b m=>cases b <;> exact this) H
 | false :: m,o :: L,k,listed,a,w,hL,hB,hW,hd,hn,hw,h,H=>Qe hC hs hQ m L (k+1) listed a w (fun j=>by have:=hL (j+1);simpa [Nat.add_assoc,Nat.add_comm 1 j] using this) hB hW hd hn hw h H
 | true :: m,[],k,listed,a,w,hL,hB,_,_,_,_,_,_=>by
  exfalso
  simp only [Ql,Bool.and_eq_true] at hB
  have hr:k∈Region.ready md ops listed:=by simpa using hB.1.1
  obtain ⟨_,o,ho,_⟩:=mem_ready.1 hr
  have:=hL 0
  simp [ho] at this
 | true :: m,o :: L,k,listed,a,w,hL,hB,hW,hd,hn,hw,h,H=>by
  simp only [Vm,Bool.and_eq_true] at hW
  obtain ⟨hW1,hW2⟩:=hW
  have h0:ops[k]? = some o:=by simpa using (hL 0).symm
  simp only [Ql,Bool.and_eq_true] at hB
  obtain ⟨⟨hr,hf⟩,hB'⟩:=hB
  simp only [sel,Tm,Bool.and_eq_true] at hd
  obtain ⟨hd1,hd2⟩:=hd
  have key:∃ v,Vi P ops C o v a/\∀ wf,C wf->wpQuiet P ops (fun w'=>∃ s:In wf,w'=s.at_) (fun a'=>a'=aE) (sel m L) (a.put o.dst v):=by
   by_cases hw1:Region.wanted o (yielded ops a.tmps)=true
   ·have h':∀ wf,C wf->o.quiet P a (fun w'=>∃ s:In wf,w'=s.at_) (wpQuiet P ops (fun w'=>∃ s:In wf,w'=s.at_) (fun a'=>a'=aE) (sel m L)):=fun wf hf=>by
     have:=h wf hf
     simp only [sel,wpQuiet] at this
     rwa [qg hw1] at this
    obtain ⟨v,_,hv2⟩:=h' w hw
    have same:∀ wf,C wf->∀ u,wpQuiet P ops (fun w'=>∃ s:In wf,w'=s.at_) (fun a'=>a'=aE) (sel m L) (a.put o.dst u)->o.dst=none\/u=v:=fun wf hf u hu=>by
     cases hod:o.dst with
     | none=>exact .inl rfl
     | some d =>
      rw [hod] at hd1 hu hv2
      simp only [Bool.and_eq_true,decide_eq_true_eq] at hd1
      have e1:=yc (sel m L) _ hd1.2 hu
      have e2:=yc (sel m L) _ hd1.2 hv2
      have hlt:d<a.tmps.size:=by rw [hn];exact hd1.1
      rw [e1] at e2
      simp [Act.put,hlt] at e2
      exact .inr e2
    refine ⟨v,.inl ⟨hw1,fun wf hf=>?_⟩,fun wf hf=>?_⟩
    ·obtain ⟨u,hu1,hu2⟩:=h' wf hf
     refine ⟨u,?_,same wf hf u hu2⟩
     have hq:=hu1 wf ⟨⟨wf,Fr.refl _ _⟩,rfl⟩
     unfold Oper.quietAt at hq ⊢
     generalize (execOp a.eval o).run P wf=r at *
     cases r with
     | ok x w' =>
      cases x <;> simp only [Oper.quietUpon] at hq ⊢
      case value=>exact hq
      case skip=>exact hq
      case enter g args=>exact ⟨hq.1,hq.2.mono fun e w'' ⟨he,s,hs⟩=>⟨he,hs ▸ s.fr⟩⟩
     | halt x w'=>exact hq
    ·obtain ⟨u,_,hu2⟩:=h' wf hf
     rw [<- Zt (same wf hf u hu2)];exact hu2
   ·refine ⟨undef,.inr ⟨by simpa using hw1,rfl⟩,fun wf hf=>?_⟩
    have:=h wf hf
    simp only [sel,wpQuiet] at this
    rwa [qf hw1] at this
  obtain ⟨v,hy,hK⟩:=key
  exact Js.first hC h0 hs hW1 hQ (f+countB m) listed a w (Region.free_spec h0 hf) Ou hy hw
   (Qe hC hs hQ m L (k+1) _ _ w (fun j=>by have:=hL (j+1);simpa [Nat.add_assoc,Nat.add_comm 1 j] using this) hB' hW2 hd2 O9 hw hK H)
end
section
variable {P:Program} {l:List Oper} {Q:Exit->Act->World->Prop} {C:World->Prop} {LA:Array Bool} {g:Nat}
theorem Sz (hC:∀ w w2,C w->Fr [] w w2->C w2) (m:List Bool) (f:Nat) {g' n:Nat} {listed listed':Array Bool} {a:Act} {w:World} (hf:f+countB m=g') (hs:Region.noSelect l.toArray=true) (hB:Ql .any l.toArray 0 m listed=true) (hW:Vm .any l.toArray LA 0 m=true)
  (hd:Tm n (sel m l)=true) (hn:a.tmps.size=n) (hl:Y0 0 m listed=listed') (hQ:∀ c a d v w,Q (.panic c) (a.put d v) w->Q (.panic c) a w) (hw:C w)
  (h:∃ aE,(∀ wf,C wf->wpQuiet P l.toArray (fun w'=>∃ s:In wf,w'=s.at_) (fun a'=>a'=aE) (sel m l) a)/\Js P .any l.toArray Q C LA g f listed' aE w):Js P .any l.toArray Q C LA g g' listed a w:=by
 subst hf;subst hl;obtain ⟨aE,h,H⟩:=h;exact Qe hC hs hQ m l 0 listed a w Ma hB hW hd hn hw h H
theorem jo (i:Nat) {o:Oper} {f:Nat} {listed listed':Array Bool} {a:Act} {w:World} (hr:Region.ready .any l.toArray listed=[i]) (ho:l[i]? = some o) (hl:listed.setIfInBounds i true=listed')
  (h:∀ w2,Fr [] w w2->wpList P l.toArray (Nx Q (fun a' w'=>C w'/\Js P .any l.toArray Q C LA g f listed' a' w')) [o] a w2):Js P .any l.toArray Q C LA g (f+1) listed a w:=by
 exact Cz
theorem Sa {k:Nat} {a:Act} {w:World} (hg:(l.drop k).length=g) (hB:Region.seqB .any l.toArray g k LA=true) (h:∀ w2,Fr [] w w2->wpList P l.toArray Q (l.drop k) a w2):Js P .any l.toArray Q C LA g 0 LA a w:=Dv
theorem q20 {n:Nat} {listed:Array Bool} {a:Act} {w:World} (C:World->Prop) (LA:Array Bool) (f g:Nat) (hl:f+g=n) (h:Js P .any l.toArray Q C LA g f listed a w):wpAny P .any l.toArray Q n listed a w:=by subst hl;exact Js.sound _ _ _ _ h
theorem q5r {k:Nat} {a:Act} {w:World} (hd:(l.drop k).length=0) (hB:Region.seqB .any l.toArray 0 k LA=true) (h:∀ w2,Fr [] w w2->Q .normal a w2):Js P .any l.toArray Q C LA 0 0 LA a w :=
 Sa hd hB (fun w2 h2=>by rw [List.eq_nil_of_length_eq_zero hd];exact h w2 h2)
end
end Go.Proofs.YtbddhncgemeohaaGreatDoor.Ar
namespace Go.Proofs.YtbddhncgemeohaaGreatDoor.Mx
open Go.RowKit Ar Ref
def Pb (w:World) (b:Nat) (T:TypeId) (pre post cs:Array Value):Prop:=Ob w b T (pre++cs++post)
theorem Pb.kept {S:List Nat} {w w':World} {b:Nat} {T:TypeId} {pre post cs:Array Value} (h:Pb w b T pre post cs) (f:Fr S w w') (hb:b∉S):Pb w' b T pre post cs:=Ob.kept h f hb
theorem Pb.up {w w':World} {b:Nat} {T:TypeId} {pre post cs:Array Value} (h:Pb w b T pre post cs) (f:Fr [] w w'):Pb w' b T pre post cs:=Ob.up h f
theorem Pb.frozen {w:World} {b:Nat} {T:TypeId} {pre post cs:Array Value} (h:Pb w b T pre post cs) (i:Nat):w.frozen? ⟨b,i,none⟩=false:=Ob.frozen h i
theorem Pb.cell {w:World} {b:Nat} {T:TypeId} {pre post cs:Array Value} (h:Pb w b T pre post cs) {o:Nat} (ho:pre.size=o) {i:Nat} {v:Value} (hv:cs[i]? = some v):w.cell? ⟨b,o+i,none⟩=some v:=by subst ho;have hi:=(Array.getElem?_eq_some_iff.1 hv).1;refine Ob.cell h ?_;rw [Array.getElem?_append_left Ml,Array.getElem?_append_right Ly,show pre.size+i - pre.size=i by omega];exact hv
theorem Pb.set {w:World} {b:Nat} {T:TypeId} {pre post cs:Array Value} (h:Pb w b T pre post cs) {o:Nat} (ho:pre.size=o) {i:Nat} (hi:i<cs.size) (v:Value):Pb (w.setCell ⟨b,o+i,none⟩ v) b T pre post (cs.setIfInBounds i v):=by
 subst ho;have:=Ob.set (i:=pre.size+i) h v;unfold Pb
 have e:(pre++cs++post).setIfInBounds (pre.size+i) v=pre++cs.setIfInBounds i v++post:=by
  apply Array.ext';simp only [Array.toList_setIfInBounds,Array.toList_append];have h1:pre.toList.length=pre.size:=by simp
  have h2:cs.toList.length=cs.size:=by simp
  rw [List.append_assoc,List.append_assoc,List.set_append_right _ _ Ly,h1,show pre.size+i - pre.size=i by omega,List.set_append_left _ _ Ly]
 rw [<- e];exact this
end Go.Proofs.YtbddhncgemeohaaGreatDoor.Mx
namespace Go.Proofs.YtbddhncgemeohaaGreatDoor.Ar
open Go.RowKit
section
variable {P:Program} {ops:Array Oper} {Q:Exit->Act->World->Prop} {md:Region.Mode} {w0:World} {S:List Nat} {LA:Array Bool} {g:Nat}
def Clo (md:Region.Mode) (ops:Array Oper) (listed:Array Bool):Prop:=∀ k ok,listed.getD k false=true->ops[k]? = some ok->∀ e∈ok.after,Region.binds md e=true->listed.getD e.on false=true
def cloB (md:Region.Mode) (ops:Array Oper) (listed:Array Bool):Bool:=(List.range listed.size).all fun k=>!(listed.getD k false) || (match ops[k]? with | none=>true | some ok=>ok.after.all fun e=>!(Region.binds md e) || listed.getD e.on false)
theorem q7m {listed:Array Bool} (h:cloB md ops listed=true):Clo md ops listed:=by
 intro k ok hk ho e he hb
 have hlt:k<listed.size:=Ez
 have:=List.all_eq_true.1 h k (List.mem_range.2 hlt);rw [hk,ho] at this;simp only [Bool.not_true,Bool.false_or,Array.all_eq_true] at this;obtain ⟨i,hi,rfl⟩:=Array.mem_iff_getElem.1 he;have h2:=this i hi;rw [hb] at h2;simpa using h2
theorem Clo.set {listed:Array Bool} {i:Nat} (h:Clo md ops listed) (hr:i∈Region.ready md ops listed):Clo md ops (listed.setIfInBounds i true):=by
 have keep:∀ k,listed.getD k false=true->(listed.setIfInBounds i true).getD k false=true:=fun k hk=>by
  by_cases e:i=k
  ·subst e;rcases Nat.lt_or_ge i listed.size with h' | h'
   ·simp [h']
   ·simp [Array.getElem?_eq_none h'] at hk
  ·rw [getD_set_ne false e];exact hk
 obtain ⟨_,o,ho,hall⟩:=mem_ready.1 hr;intro k ok hk hok e he hb;by_cases e1:i=k
 ·subst e1;rw [ho] at hok;cases hok;exact keep _ (hall e he hb)
 ·rw [getD_set_ne false e1] at hk;exact keep _ (h k ok hk hok e he hb)
def q8h (md:Region.Mode) (ops:Array Oper) (LA:Array Bool) (i:Nat):Bool:=Kt md ops LA i || ((List.range LA.size).any fun k=>LA.getD k false && (!(decide (k=i)) && Region.waitsFor md ops k i))
theorem q4h {i:Nat} (h:q8h md ops LA i=true):Kt md ops LA i=true\/∃ k ok,k<LA.size/\LA.getD k false=true/\k≠i/\ops[k]? = some ok/\∃ e∈ok.after,Region.binds md e=true/\e.on=i:=by
 unfold q8h at h;rcases Bool.or_eq_true_iff.1 h with h | h
 ·exact .inl h
 ·obtain ⟨k,hk,h2⟩:=List.any_eq_true.1 h;simp only [Bool.and_eq_true,Bool.not_eq_true',decide_eq_false_iff_not] at h2;obtain ⟨ok,h3,h4⟩:=Region.waitsFor_spec h2.2.2;have hlt:=List.mem_range.1 hk;exact .inr ⟨k,ok,hlt,h2.1,h2.2.1,h3,h4⟩
theorem Qy.firstT {i:Nat} {oi:Oper} {v:Value} (hi:ops[i]? = some oi) (hsel:Region.noSelect ops=true) (hLB:q8h md ops LA i=true)
  (hQ:∀ c a d v w,Q (.panic c) (a.put d v) w->Q (.panic c) a w):∀ (f:Nat) (listed:Array Bool) (a:Act) (w:World),
   (∀ j oj,ops[j]? = some oj->j≠i->listed.getD j true=false->(∀ e∈oj.after,Region.binds md e=true->e.on≠i)->oi.apart ops oj=true) ->
   Clo md ops listed->i∈Region.ready md ops listed->We P ops S w0 oi v a->Fr S w0 w ->
   Qy P md ops Q S w0 LA g f (listed.setIfInBounds i true) (a.put oi.dst v) w->Qy P md ops Q S w0 LA g (f+1) listed a w
 | f,listed,a,w,hfree,hcl,hr,hy,hw,H=>fun w2 h2=>by
  refine ⟨fun h=>Oc,fun j hj=>?_⟩;by_cases hji:j=i
  ·exact Co
  ·have hj':=ready_mono (i:=i) hj hji;obtain ⟨hjun,oj,hoj,hall⟩:=mem_ready.1 hj
   have hnot:∀ e∈oj.after,Region.binds md e=true->e.on≠i:=fun e he hb heq=>Aq
   cases f with
   | zero =>
    have hLA:=(H w2 h2).1;rcases q4h hLB with hLB | ⟨k,ok,klt,k1,k2,k3,e,he,hb,hon⟩
    ·exact Bi
    ·rw [<- hLA,getD_set_ne false (Ne.symm k2)] at k1;have c1:=hcl k ok k1 k3 e he hb;rw [hon] at c1;have g0:=(mem_ready.1 hr).1;rcases Nat.lt_or_ge i listed.size with h' | h'
     ·simp [h'] at g0 c1;rw [g0] at c1;cases c1
     ·have:=Array.getElem?_eq_none h';simp [this] at g0
   | succ f =>
    have h1:=(H w2 h2).2 j hj';have g2:=hy.other hoj (hfree j oj hoj hji hjun hnot) (fun cs b=>Region.noSelect_spec hsel i oi cs b hi) (fun cs b=>Region.noSelect_spec hsel j oj cs b hoj) hQ h1
    have hfree':∀ k ok,ops[k]? = some ok->k≠i->(listed.setIfInBounds j true).getD k true=false ->
      (∀ e∈ok.after,Region.binds md e=true->e.on≠i)->oi.apart ops ok=true:=fun k ok hk hki hun hno=>by
     refine hfree k ok hk hki ?_ hno
     by_cases hjk:j=k
     ·subst hjk;exact hjun
     ·rw [getD_set_ne true hjk] at hun;exact hun
    refine wpOp_mono (fun a' w' h3=>⟨h3.2.1,Qy.firstT hi hsel hLB hQ f (listed.setIfInBounds j true) a' w' hfree' (hcl.set hj) (ready_mono hr (Ne.symm hji)) h3.1 h3.2.1 ?_⟩) g2;exact Dy
def Re (md:Region.Mode) (ops:Array Oper) (LA:Array Bool):Nat->List Bool->Bool
 | k,true :: m=>q8h md ops LA k && Re md ops LA (k+1) m
 | k,false :: m=>Re md ops LA (k+1) m
 | _,[]=>true
theorem Qc (hs:Region.noSelect ops=true) (hQ:∀ c a d v w,Q (.panic c) (a.put d v) w->Q (.panic c) a w) {aE:Act} {n f:Nat} :
  ∀ (m:List Bool) (L:List Oper) (k:Nat) (listed:Array Bool) (a:Act) (w:World),(∀ j,L[j]? = ops[k+j]?)->Clo md ops listed->Ql md ops k m listed=true->Re md ops LA k m=true->Tm n (sel m L)=true->a.tmps.size=n->Fr S w0 w ->
   (∀ wf,Fr S w0 wf->wpQuiet P ops (fun w'=>∃ s:In wf,w'=s.at_) (fun a'=>a'=aE) (sel m L) a)->Qy P md ops Q S w0 LA g f (Y0 k m listed) aE w->Qy P md ops Q S w0 LA g (f+countB m) listed a w
 | [],L,k,listed,a,w,_,_,_,_,_,_,_,h,H=>by
  exact Dc
 | false :: m,[],k,listed,a,w,hL,hC,hB,hW,hd,hn,hw,h,H=>Qc hs hQ m [] (k+1) listed a w (fun j=>by have:=hL (j+1);simpa [Nat.add_assoc,Nat.add_comm 1 j] using this) hC hB hW N9 hn hw (fun wf hf=>by have:=h wf hf;cases m with | nil=>exact this | cons b m=>cases b <;> exact this) H
 | false :: m,o :: L,k,listed,a,w,hL,hC,hB,hW,hd,hn,hw,h,H=>Qc hs hQ m L (k+1) listed a w (fun j=>by have:=hL (j+1);simpa [Nat.add_assoc,Nat.add_comm 1 j] using this) hC hB hW hd hn hw h H
 | true :: m,[],k,listed,a,w,hL,hC,hB,_,_,_,_,_,_=>by
  exfalso
  simp only [Ql,Bool.and_eq_true] at hB
  have hr:k∈Region.ready md ops listed:=by simpa using hB.1.1
  obtain ⟨_,o,ho,_⟩:=mem_ready.1 hr
  have:=hL 0
  simp [ho] at this
 | true :: m,o :: L,k,listed,a,w,hL,hC,hB,hW,hd,hn,hw,h,H=>by
  simp only [Re,Bool.and_eq_true] at hW
  obtain ⟨hW1,hW2⟩:=hW
  have h0:ops[k]? = some o:=by simpa using (hL 0).symm
  simp only [Ql,Bool.and_eq_true] at hB
  obtain ⟨⟨hr,hf⟩,hB'⟩:=hB
  simp only [sel,Tm,Bool.and_eq_true] at hd
  obtain ⟨hd1,hd2⟩:=hd
  have key:∃ v,We P ops S w0 o v a/\∀ wf,Fr S w0 wf->wpQuiet P ops (fun w'=>∃ s:In wf,w'=s.at_) (fun a'=>a'=aE) (sel m L) (a.put o.dst v):=by
   by_cases hw1:Region.wanted o (yielded ops a.tmps)=true
   ·have h':∀ wf,Fr S w0 wf->o.quiet P a (fun w'=>∃ s:In wf,w'=s.at_) (wpQuiet P ops (fun w'=>∃ s:In wf,w'=s.at_) (fun a'=>a'=aE) (sel m L)):=fun wf hf=>by
     have:=h wf hf
     simp only [sel,wpQuiet] at this
     rwa [qg hw1] at this
    obtain ⟨v,_,hv2⟩:=h' w0 (Fr.refl _ _)
    have same:∀ wf,Fr S w0 wf->∀ u,wpQuiet P ops (fun w'=>∃ s:In wf,w'=s.at_) (fun a'=>a'=aE) (sel m L) (a.put o.dst u)->o.dst=none\/u=v:=fun wf hf u hu=>by
     cases hod:o.dst with
     | none=>exact .inl rfl
     | some d =>
      rw [hod] at hd1 hu hv2
      simp only [Bool.and_eq_true,decide_eq_true_eq] at hd1
      have e1:=yc (sel m L) _ hd1.2 hu
      have e2:=yc (sel m L) _ hd1.2 hv2
      have hlt:d<a.tmps.size:=by rw [hn];exact hd1.1
      rw [e1] at e2
      simp [Act.put,hlt] at e2
      exact .inr e2
    refine ⟨v,.inl ⟨hw1,fun wf hf=>?_⟩,fun wf hf=>?_⟩
    ·obtain ⟨u,hu1,hu2⟩:=h' wf hf
     refine ⟨u,?_,same wf hf u hu2⟩
     have hq:=hu1 wf ⟨⟨wf,Fr.refl _ _⟩,rfl⟩
     unfold Oper.quietAt at hq ⊢
     generalize (execOp a.eval o).run P wf=r at *
     cases r with
     | ok x w' =>
      cases x <;> simp only [Oper.quietUpon] at hq ⊢
      case value=>exact hq
      case skip=>exact hq
      case enter g args=>exact ⟨hq.1,hq.2.mono fun e w'' ⟨he,s,hs⟩=>⟨he,hs ▸ s.fr⟩⟩
     | halt x w'=>exact hq
    ·obtain ⟨u,_,hu2⟩:=h' wf hf
     rw [<- Zt (same wf hf u hu2)];exact hu2
   ·refine ⟨undef,.inr ⟨by simpa using hw1,rfl⟩,fun wf hf=>?_⟩
    have:=h wf hf
    simp only [sel,wpQuiet] at this
    rwa [qf hw1] at this
  obtain ⟨v,hy,hK⟩:=key
  exact Qy.firstT h0 hs hW1 hQ (f+countB m) listed a w (Region.free_spec h0 hf) hC Ou hy hw
   (Qc hs hQ m L (k+1) _ _ w (fun j=>by have:=hL (j+1);simpa [Nat.add_assoc,Nat.add_comm 1 j] using this) (hC.set Ou) hB' hW2 hd2 O9 hw hK H)
end
section
variable {P:Program} {l:List Oper} {Q:Exit->Act->World->Prop} {w0:World} {S:List Nat} {LA:Array Bool} {g:Nat}
theorem jw (m:List Bool) (f:Nat) {g' n:Nat} {listed listed':Array Bool} {a:Act} {w:World} (hf:f+countB m=g') (hs:Region.noSelect l.toArray=true) (hC:cloB .any l.toArray listed=true) (hB:Ql .any l.toArray 0 m listed=true) (hW:Re .any l.toArray LA 0 m=true)
  (hd:Tm n (sel m l)=true) (hn:a.tmps.size=n) (hl:Y0 0 m listed=listed') (hQ:∀ c a d v w,Q (.panic c) (a.put d v) w->Q (.panic c) a w) (hw:Fr S w0 w)
  (h:∃ aE,(∀ wf,Fr S w0 wf->wpQuiet P l.toArray (fun w'=>∃ s:In wf,w'=s.at_) (fun a'=>a'=aE) (sel m l) a)/\Qy P .any l.toArray Q S w0 LA g f listed' aE w):Qy P .any l.toArray Q S w0 LA g g' listed a w:=by
 subst hf;subst hl;obtain ⟨aE,h,H⟩:=h;exact Qc hs hQ m l 0 listed a w Ma (q7m hC) hB hW hd hn hw h H
end
end Go.Proofs.YtbddhncgemeohaaGreatDoor.Ar
