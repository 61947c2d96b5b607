/- Parts. -/
import Derived.Test.YtppajakfaomkaaaGreatDoorYav
set_option linter.unusedVariables false
set_option linter.unusedSimpArgs false
set_option maxRecDepth 100000
set_option maxHeartbeats 12800000
namespace Go.Proofs.YtppajakfaomkaaaGreatDoor.Mx
open Go.RowKit Ar Ref Og Mp
section
variable {c:Cf} {g:Gst} {l:List Int}
structure LkI (c:Cf) (g:Gst) (x:Lok):Prop where
 cc:x.c=c
 K:g.K x.chunk
 ok:Xm x
theorem LkI.ext {g':Gst} {x:Lok} (h:LkI c g x) (e:Ext c g g'):LkI c g' x:=⟨h.cc,e.K _ h.K,h.ok⟩
theorem LkI.new (hc:c.Ok) {a:Int} (ha:g.K a) (lo hi most:Int):LkI c g (Lok.new c a lo hi most):=⟨rfl,ha,Xm.new hc _ _ _ _⟩
theorem Jh (x:Lok):x.on.c=x.c/\x.on.chunk=x.chunk/\x.on.lo=x.lo/\x.on.hi=x.hi/\x.on.most=x.most:=by
 unfold Lok.on;split <;> exact ⟨rfl,rfl,rfl,rfl,rfl⟩
theorem Kl (x:Lok):x.seven.c=x.c/\x.seven.chunk=x.chunk/\x.seven.lo=x.lo/\x.seven.hi=x.hi/\x.seven.most=x.most:=by
 unfold Lok.seven;split
 ·exact Jh _
 ·exact ⟨rfl,rfl,rfl,rfl,rfl⟩
theorem Vh (x:Lok) (v:Int):(x.next v).c=x.c/\(x.next v).chunk=x.chunk/\(x.next v).lo=x.lo/\(x.next v).hi=x.hi/\(x.next v).most=x.most:=by
 unfold Lok.next
 repeat' split
 all_goals first | exact ⟨rfl,rfl,rfl,rfl,rfl⟩ | exact Jh _ | exact Kl _
theorem LkI.step (hc:c.Ok) {s:St} (h:OkG c g s.l) {x:Lok} (hx:LkI c g x):∃ g',Goes c g s.l g' (x.step s).2.l no2 no1/\LkI c g' (x.step s).1:=by
 have hok:=hx.ok.step s
 have fin:∀ g':Gst,Ext c g g'->LkI c g' (x.step s).1:=fun g' e=>by
  refine ⟨?_,?_,hok⟩
  ·unfold Lok.step;split
   ·exact (Vh _ _).1.trans hx.cc
   ·exact hx.cc
  ·unfold Lok.step;split
   ·show g'.K (x.next (x.told s)).chunk
    rw [(Vh _ _).2.1];exact e.K _ hx.K
   ·exact e.K _ hx.K
 by_cases hl:x.live=true
 ·have e2:(x.step s).2=x.act s:=by unfold Lok.step;rw [qf hl]
  rw [e2]
  unfold Lok.live at hl
  simp only [Bool.and_eq_true,decide_eq_true_eq] at hl
  by_cases l5:x.line=5
  ·have hi:=hx.ok.two (by omega)
   have hi2:=hx.ok.cnt
   rw [hx.cc] at hi2
   have h3:0<=x.i/\x.i<c.c:=⟨hx.ok.i0,by omega⟩
   obtain ⟨sa,sz7,sz9⟩:=q7v hc h hx.K h3
   have hsa:x.sa=x.chunk+(7+3 * x.i):=sa
   have hrd:qq s.l x.sa=g.M.F x.chunk (7+3 * x.i):=by rw [hsa];exact h.rel.F _ hx.K _ (by omega) (by omega)
   have ea:x.act s=s.swap x.sa 1 (vq x.g):=by unfold Lok.act;rw [qd (by omega),qd (by omega),qd (by omega),qd (by omega),qf l5]
   rw [ea]
   cases hcn:s.can x.sa 1 with
   | true =>
    have hp:=jo hcn
    rw [hrd] at hp
    rw [je hcn,hsa]
    have G:=Y7 hc h hx.K h3 (v:=vq x.g) (.inr ⟨hp,Y4 _⟩)
    exact ⟨_,G,fin _ G.ext⟩
   | false=>rw [wm hcn];exact ⟨g,Goes.same h _ _,fin _ (Ext.refl _ _)⟩
  ·have ea:(x.act s).l=s.l:=by unfold Lok.act;(repeat' split);all_goals first | rfl | exact absurd ‹_› l5
   rw [ea];exact ⟨g,Goes.same h _ _,fin _ (Ext.refl _ _)⟩
 ·have e2:(x.step s).2=s:=by unfold Lok.step;rw [qd hl]
  rw [e2];exact ⟨g,Goes.same h _ _,fin _ (Ext.refl _ _)⟩
structure GtI (c:Cf) (g:Gst) (x:Gt):Prop where
 cc:x.c=c
 key:0<=x.key/\x.key<=63
 w:x.l=none->WkI c g x.w
 l:∀ y,x.l=some y->LkI c g y
theorem GtI.new {key:Int} (hk:0<=key/\key<=63):GtI c g (Gt.new c key):=⟨rfl,hk,fun _=>WkI.new hk,fun y e=>by cases e⟩
theorem GtI.ext {g':Gst} {x:Gt} (h:GtI c g x) (e:Ext c g g') (hh:¬ g'.K (xm c)):GtI c g' x :=
 ⟨h.cc,h.key,fun k=>(h.w k).ext e hh,fun y k=>(h.l y k).ext e⟩
theorem GtI.step (hc:c.Ok) {s:St} (h:OkG c g s.l) {x:Gt} (hx:GtI c g x):∃ g',Goes c g s.l g' (x.step s).2.l no2 no1/\GtI c g' (x.step s).1:=by
 unfold Gt.step
 by_cases ho:x.over=true
 ·rw [qf ho];exact ⟨g,Goes.same h _ _,hx⟩
 ·rw [qd ho]
  cases hl:x.l with
  | some y =>
   obtain ⟨g',G,k⟩:=(hx.l y hl).step hc h
   exact ⟨g',G,⟨hx.cc,hx.key,fun e=>(by cases e),fun z e=>(by cases e;exact k)⟩⟩
  | none =>
   have k:=(hx.w hl).step hc h
   have ea:=J9 x.w s
   simp only
   rw [ea]
   refine ⟨g,Goes.same h _ _,?_⟩
   split
   ·rename_i e0
    refine ⟨hx.cc,hx.key,fun e=>(by cases e),fun z e=>?_⟩
    cases e;rw [hx.cc];exact LkI.new hc (k.e0 e0).1 _ _ _
   ·exact ⟨hx.cc,hx.key,fun _=>k,fun z e=>(by cases e)⟩
structure KmI (c:Cf) (x:Km):Prop where
 t:0<=x.t/\x.t<c.t
theorem q5q (x:Km) (v:Int):(x.next v).t=x.t:=by
 unfold Km.next;repeat' split
 all_goals rfl
theorem Uy (hc:c.Ok) {s:St} (h:OkG c g s.l) {p:Int} (o v:Int) (hp:0<=p/\p<3+c.t/\p≠2):Goes c g s.l g (s.swap p o v).l no2 no1:=by
 cases hcn:s.can p o with
 | true=>rw [je hcn];exact X0 hc h v hp
 | false=>rw [wm hcn];exact Goes.same h _ _
theorem KmI.step (hc:c.Ok) {s:St} (h:OkG c g s.l) {x:Km} (hx:KmI c x):Goes c g s.l g (x.step s).2.l no2 no1/\KmI c (x.step s).1:=by
 have ht:=hx.t
 have hp:0<=x.pa/\x.pa<3+c.t/\x.pa≠2:=by unfold Km.pa q9x;omega
 unfold Km.step
 split
 ·refine ⟨?_,⟨by show 0<=(x.next _).t/\(x.next _).t<c.t;rw [q5q];exact ht⟩⟩
  simp only
  unfold Km.act
  repeat' split
  ·exact Goes.same h _ _
  ·exact X0 hc h _ hp
  ·exact X0 hc h _ ⟨by omega,by omega,by omega⟩
  ·exact Uy hc h _ _ hp
  ·exact Goes.same h _ _
 ·exact ⟨Goes.same h _ _,hx⟩
structure NdI (c:Cf) (x:Nd):Prop where
 cc:x.c=c
 t0:0<=x.t
 t1:x.live=true->x.t<c.t
theorem NdI.new (hc:c.Ok):NdI c (Nd.new c):=⟨rfl,by simp [Nd.new],fun _=>by have:=hc.t1;simp only [Nd.new];omega⟩
theorem nd_on {x:Nd} (h:x.c=c) (h0:0<=x.t):NdI c x.on:=by
 unfold Nd.on
 split
 ·exact ⟨h,by simp only;omega,fun k=>by simp [Nd.live] at k⟩
 ·exact ⟨h,by simp only;omega,fun k=>by simp only;rw [h] at *;omega⟩
theorem qa6 {x:Nd} (h:NdI c x) (h1:x.t<c.t) (v:Int):NdI c (x.next v):=by
 unfold Nd.next
 repeat' split
 all_goals first | exact ⟨h.cc,h.t0,fun _=>h1⟩ | exact nd_on h.cc h.t0
theorem NdI.step (hc:c.Ok) {s:St} (h:OkG c g s.l) {x:Nd} (hx:NdI c x):Goes c g s.l g (x.step s).2.l no2 no1/\NdI c (x.step s).1:=by
 unfold Nd.step
 split
 ·rename_i hl
  have h1:=hx.t1 hl
  have h0:=hx.t0
  have hp:0<=x.pa/\x.pa<3+c.t/\x.pa≠2:=by unfold Nd.pa q9x;omega
  refine ⟨?_,qa6 hx h1 _⟩
  simp only
  unfold Nd.act
  repeat' split
  ·exact Goes.same h _ _
  ·exact X0 hc h _ ⟨by omega,by omega,by omega⟩
  ·exact Uy hc h _ _ hp
  ·exact Goes.same h _ _
 ·exact ⟨Goes.same h _ _,hx⟩
structure SnI (c:Cf) (g:Gst) (x:Sn):Prop where
 cc:x.c=c
 t:0<=x.t/\x.t<c.t
 lo:0<=x.lo/\x.lo<=63
 k:KmI c x.k
 w:x.line=11->∀ y,x.w=some y->WkI c g y
 l:x.line=1->∀ y,x.l=some y->LkI c g y
 a2:x.line=1\/x.line=2->g.K x.at_
 n3:x.line=3->g.K x.n
theorem SnI.new {t seq lo hi:Int} (ht:0<=t/\t<c.t) (hk:0<=lo/\lo<=63):SnI c g (Sn.new c t seq lo hi) :=
 ⟨rfl,ht,hk,⟨ht⟩,fun e=>by simp [Sn.new] at e,fun e=>by simp [Sn.new] at e,fun e=>by simp [Sn.new] at e,fun e=>by simp [Sn.new] at e⟩
theorem SnI.ext {g':Gst} {x:Sn} (h:SnI c g x) (e:Ext c g g') (hh:¬ g'.K (xm c)):SnI c g' x :=
 ⟨h.cc,h.t,h.lo,h.k,fun k y q=>(h.w k y q).ext e hh,fun k y q=>(h.l k y q).ext e,fun k=>e.K _ (h.a2 k),fun k=>e.K _ (h.n3 k)⟩
theorem q23 (hc:c.Ok) {x:Sn} (h1:x.c=c) (h2:0<=x.t/\x.t<c.t) (h3:0<=x.lo/\x.lo<=63) (h4:KmI c x.k) {a:Int} (ha:g.K a):SnI c g (x.chunk a):=by
 refine ⟨h1,h2,h3,h4,fun e=>by simp [Sn.chunk] at e,fun _ y e=>?_,fun _=>ha,fun e=>by simp [Sn.chunk] at e⟩
 unfold Sn.chunk at e
 cases e
 rw [h1];exact LkI.new hc ha _ _ _
theorem SnI.step (hc:c.Ok) {s:St} (h:OkG c g s.l) {x:Sn} (hx:SnI c g x):∃ g',Goes c g s.l g' (x.step s).2.l no2 no1/\SnI c g' (x.step s).1:=by
 have same:=Goes.same h no2 no1
 have ht:=hx.t
 unfold Sn.step
 by_cases l10:x.line=10
 ·rw [qf l10]
  split
  ·exact ⟨g,same,⟨hx.cc,hx.t,hx.lo,hx.k,fun e=>by simp at e,fun e=>by simp at e,fun e=>by simp at e,fun e=>by simp at e⟩⟩
  ·obtain ⟨G,k⟩:=hx.k.step hc h
   refine ⟨g,G,?_⟩
   simp only
   split
   ·refine ⟨hx.cc,hx.t,hx.lo,k,fun _ y e=>?_,fun e=>?_,fun e=>?_,fun e=>?_⟩
    ·cases e;rw [hx.cc];exact WkI.new hx.lo
    ·simp only at e;split at e <;> omega
    ·simp only at e;split at e <;> omega
    ·simp only at e;split at e <;> omega
   ·exact ⟨hx.cc,hx.t,hx.lo,k,fun e=>by simp only at e;omega,fun e=>by simp only at e;omega,fun e=>by simp only at e;omega,fun e=>by simp only at e;omega⟩
 ·rw [qd l10]
  by_cases l11:x.line=11
  ·rw [qf l11]
   cases hw:x.w with
   | none=>exact ⟨g,same,hx⟩
   | some y =>
    have k:=(hx.w l11 y hw).step hc h
    have ea:=J9 y s
    simp only
    rw [ea]
    refine ⟨g,same,?_⟩
    split
    ·rename_i e0
     exact q23 (x:={ x with w:=some (y.step s).1 }) hc hx.cc hx.t hx.lo hx.k (k.e0 e0).1
    ·exact ⟨hx.cc,hx.t,hx.lo,hx.k,fun _ z e=>by cases e;exact k,fun e=>by simp only at e;omega,fun e=>by simp only at e;omega,fun e=>by simp only at e;omega⟩
  ·rw [qd l11]
   by_cases l1:x.line=1
   ·rw [qf l1]
    cases hl:x.l with
    | none=>exact ⟨g,same,hx⟩
    | some y =>
     obtain ⟨g',G,k⟩:=(hx.l l1 y hl).step hc h
     have ha:=G.ext.K _ (hx.a2 (.inl l1))
     refine ⟨g',G,?_⟩
     simp only
     split
     ·exact ⟨hx.cc,hx.t,hx.lo,hx.k,fun e=>by simp at e,fun e=>by simp at e,fun _=>ha,fun e=>by simp at e⟩
     ·exact ⟨hx.cc,hx.t,hx.lo,hx.k,fun e=>by simp only at e;omega,fun _ z e=>by cases e;exact k,fun _=>ha,fun e=>by simp only at e;omega⟩
   ·rw [qd l1]
    by_cases l2:x.line=2
    ·rw [qf l2]
     have ha:=hx.a2 (.inr l2)
     rw [rd hc h ha (by omega) (by have:=yd hc;omega)]
     refine ⟨g,same,hx.cc,hx.t,hx.lo,hx.k,fun e=>?_,fun e=>?_,fun e=>?_,fun e=>?_⟩
     ·simp only at e;split at e <;> omega
     ·simp only at e;split at e <;> omega
     ·simp only at e;split at e <;> omega
     ·simp only at e ⊢
      unfold atW at *
      rcases h.ki.nx _ ha with q | q
      ·rw [qf q.1] at e;omega
      ·exact q.1
    ·rw [qd l2]
     by_cases l3:x.line=3
     ·rw [qf l3]
      refine ⟨g,same,?_⟩
      simp only
      split
      ·exact q23 hc hx.cc hx.t hx.lo hx.k (hx.n3 l3)
      ·exact ⟨hx.cc,hx.t,hx.lo,hx.k,fun e=>by simp at e,fun e=>by simp at e,fun e=>by simp at e,fun e=>by simp at e⟩
     ·rw [qd l3]
      by_cases l4:x.line=4
      ·rw [qf l4]
       exact ⟨g,X0 hc h _ (by unfold q9x;omega),⟨hx.cc,hx.t,hx.lo,hx.k,fun e=>by simp at e,fun e=>by simp at e,fun e=>by simp at e,fun e=>by simp at e⟩⟩
      ·rw [qd l4];exact ⟨g,same,hx⟩
end
end Go.Proofs.YtppajakfaomkaaaGreatDoor.Mx
