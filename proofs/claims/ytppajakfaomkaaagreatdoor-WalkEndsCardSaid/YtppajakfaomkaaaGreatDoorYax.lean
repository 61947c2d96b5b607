/- Parts. -/
import Derived.Test.YtppajakfaomkaaaGreatDoorYaw
import Derived.Lib.QuoteBits
set_option linter.unusedVariables false
set_option linter.unusedSimpArgs false
set_option maxRecDepth 100000
set_option maxHeartbeats 12800000
namespace Go.Proofs.YtppajakfaomkaaaGreatDoor.Mx
open Go.RowKit Ar Ref Og Mp
section
variable {c:Cf} {g:Gst} {l:List Int}
structure SlI (c:Cf) (g:Gst) (x:Sl):Prop where
 cc:x.c=c
 K:g.K x.chunk
 m:x.mate=0\/g.K x.mate
 m2:x.line=2->x.mate≠0
 i:1<=x.line->0<=x.i/\x.i<kw c x.mate
theorem SlI.ext {g':Gst} {x:Sl} (h:SlI c g x) (e:Ext c g g'):SlI c g' x:=⟨h.cc,e.K _ h.K,h.m.imp id (e.K _),h.m2,h.i⟩
theorem SlI.new (hc:c.Ok) {a m:Int} (ha:g.K a) (hm:m=0\/g.K m):SlI c g (Sl.new c a m) :=
 ⟨rfl,ha,hm,fun e=>by simp [Sl.new] at e,fun _=>by have:=(X3 hc m).1;simp only [Sl.new];omega⟩
theorem q5c (hc:c.Ok) (h:OkG c g l) {a m i:Int} (ha:g.K a) (hm:m=0\/g.K m) (hi:0<=i/\i<kw c m):∃ b j,g.K b/\(0<=j/\j<c.c)/\(b=a\/(b=m/\m≠0))/\yj c a m i=b+(7+3 * j)/\9+3 * j<za c:=by
 have h16:=hc.c16
 unfold yj
 by_cases e:i<c.c
 ·rw [qf e]
  obtain ⟨h1,h2,h3⟩:=q7v hc h ha ⟨hi.1,e⟩
  exact ⟨a,i,ha,⟨hi.1,e⟩,.inl rfl,h1,h3⟩
 ·rw [qd e]
  have hm0:m≠0:=fun k=>by have:=hi.2;unfold kw at this;rw [qf k] at this;omega
  have hb:i<2 * c.c:=by have:=hi.2;unfold kw at this;rw [qd hm0] at this;omega
  have hK:=hm.resolve_left hm0
  have hw:wrap64 (i - c.c)=i - c.c:=Zv (by omega) (by omega)
  rw [hw]
  obtain ⟨h1,h2,h3⟩:=q7v hc h hK (i:=i - c.c) ⟨by omega,by omega⟩
  exact ⟨m,i - c.c,hK,⟨by omega,by omega⟩,.inr ⟨rfl,hm0⟩,h1,h3⟩
theorem Tn (x:Sl) (v:Int):(x.next v).c=x.c/\(x.next v).chunk=x.chunk/\(x.next v).mate=x.mate:=by
 unfold Sl.next;repeat' split
 all_goals exact ⟨rfl,rfl,rfl⟩
theorem qb5 (hc:c.Ok) {x:Sl} (h:SlI c g x) (hl:1<=x.line/\x.line<=6) (v:Int):SlI c g (x.next v):=by
 have hi:=h.i hl.1
 have hb:=X3 hc x.mate
 have hw:wrap64 (x.i+1)=x.i+1:=Zv (by omega) (by omega)
 obtain ⟨e1,e2,e3⟩:=Tn x v
 refine ⟨e1.trans h.cc,by rw [e2];exact h.K,by rw [e3];exact h.m,?_,?_⟩
 ·rw [e3]
  unfold Sl.next;intro k
  by_cases l1:x.line=1
  ·rw [qf l1] at k
   by_cases m0:x.mate=0
   ·rw [qf m0] at k;simp at k
   ·exact m0
  ·rw [qd l1] at k
   exfalso
   repeat' split at k
   all_goals (simp only at k;omega)
 ·rw [e3]
  unfold Sl.next
  rw [h.cc,hw]
  by_cases l1:x.line=1
  ·rw [qf l1];split <;> exact fun _=>hi
  ·rw [qd l1]
   by_cases l2:x.line=2
   ·rw [qf l2];exact fun _=>hi
   ·rw [qd l2]
    by_cases l3:x.line=3
    ·rw [qf l3]
     split
     ·exact fun _=>hi
     ·split
      ·exact fun _=>hi
      ·split
       ·simp
       ·intro _;simp only;omega
    ·rw [qd l3]
     by_cases l4:x.line=4
     ·rw [qf l4];exact fun _=>hi
     ·rw [qd l4];split <;> exact fun _=>hi
theorem SlI.step (hc:c.Ok) {s:St} (h:OkG c g s.l) {x:Sl} (hx:SlI c g x):∃ g',Goes c g s.l g' (x.step s).2.l no2 no1/\SlI c g' (x.step s).1:=by
 have same:=Goes.same h no2 no1
 unfold Sl.step
 by_cases hl:x.live=true
 ·rw [qf hl]
  unfold Sl.live at hl
  simp only [Bool.and_eq_true,decide_eq_true_eq] at hl
  have fin:∀ g':Gst,Ext c g g'->SlI c g' (x.next (x.told s)):=fun g' e=>(qb5 hc hx hl _).ext e
  have hsz:=yd hc
  have hkb:=Ta hc h hx.K
  obtain ⟨b,j,hb,hj,-,ej,e9⟩:=q5c hc h hx.K hx.m (hx.i hl.1)
  have hsa:x.sa=b+(7+3 * j):=by unfold Sl.sa;rw [hx.cc];exact ej
  have hrd:qq s.l x.sa=g.M.F b (7+3 * j):=by rw [hsa];exact h.rel.F _ hb _ (by omega) (by omega)
  simp only
  unfold Sl.act
  by_cases l1:x.line=1
  ·rw [qf l1,Xa,Zv (by omega) (by omega)]
   have G:=Zt hc h (v:=1) hx.K
   exact ⟨_,G,fin _ G.ext⟩
  ·rw [qd l1]
   by_cases l2:x.line=2
   ·have hm:=hx.m.resolve_left (hx.m2 l2)
    have hmb:=Ta hc h hm
    rw [qf l2,Xa,Zv (by omega) (by omega)]
    have G:=Zt hc h (v:=1) hm
    exact ⟨_,G,fin _ G.ext⟩
   ·rw [qd l2]
    by_cases l3:x.line=3
    ·rw [qf l3];exact ⟨g,same,fin _ (Ext.refl _ _)⟩
    ·rw [qd l3]
     by_cases l4:x.line=4
     ·rw [qf l4]
      cases hcn:s.can x.sa 0 with
      | true =>
       have hp:=jo hcn
       rw [hrd] at hp
       rw [je hcn,hsa]
       have G:=Y7 hc h hb hj (v:=2) (.inl ⟨hp,rfl⟩)
       exact ⟨_,G,fin _ G.ext⟩
      | false=>rw [wm hcn];exact ⟨g,same,fin _ (Ext.refl _ _)⟩
     ·rw [qd l4]
      by_cases l5:x.line=5
      ·rw [qf l5];exact ⟨g,same,fin _ (Ext.refl _ _)⟩
      ·rw [qd l5]
       cases hcn:s.can x.sa 1 with
       | true =>
        have hp:=jo hcn
        rw [hrd] at hp
        rw [je hcn,hsa]
        have G:=Y7 hc h hb hj (v:=vq x.g) (.inr ⟨hp,Y4 _⟩)
        exact ⟨_,G,fin _ G.ext⟩
       | false=>rw [wm hcn];exact ⟨g,same,fin _ (Ext.refl _ _)⟩
 ·rw [qd hl];exact ⟨g,same,hx⟩
structure Led (c:Cf) (g:Gst) (a m r:Int):Prop where
 K:g.K a
 mk':g.M.F a 2 % 2=1
 m:(m=0/\r=g.M.F a 2 / 2)\/(g.K m/\m=g.M.F a 2 / 2/\g.M.F m 2 % 2=1/\r=g.M.F m 2 / 2)
theorem Led.ext {g':Gst} {a m r:Int} (h:Led c g a m r) (e:Ext c g g'):Led c g' a m r:=by
 have e2:=e.nm _ h.K h.mk'
 refine ⟨e.K _ h.K,by rw [e2];exact h.mk',?_⟩
 rw [e2]
 rcases h.m with k | ⟨k1,k2,k3,k4⟩
 ·exact .inl k
 ·refine .inr ⟨e.K _ k1,k2,?_,?_⟩
  ·rw [e.nm _ k1 k3];exact k3
  ·rw [e.nm _ k1 k3];exact k4
theorem Led.m0 (hc:c.Ok) (h:OkG c g l) {a m r:Int} (k:Led c g a m r):m=0\/g.K m:=by
 rcases k.m with q | q
 ·exact .inl q.1
 ·exact .inr q.1
theorem Led.behind (hc:c.Ok) (h:OkG c g l) {a m r:Int} (k:Led c g a m r):(r=0/\g.up (if m=0 then a else m)=64)\/(g.K r/\g.M.F r 0=g.up (if m=0 then a else m)):=by
 rcases k.m with ⟨rfl,rfl⟩ | ⟨k1,k2,k3,rfl⟩
 ·rw [qf rfl];exact h.ki.nx _ k.K
 ·have:m≠0:=by have:=h.ki.pos hc k1;omega
  rw [qd this];exact h.ki.nx _ k1
theorem Led.mn (hc:c.Ok) (h:OkG c g l) {a m r:Int} (k:Led c g a m r) (hm:m≠0):g.M.F m 0=g.up a:=by
 rcases k.m with ⟨e,-⟩ | ⟨k1,k2,k3,k4⟩
 ·exact absurd e hm
 ·rcases h.ki.nx _ k.K with q | q
  ·omega
  ·rw [k2];exact q.2
theorem q1b {w:Int} (h:w % 2=0) (h0:0<=w) (h1:w<=1000000000):or1 w=w+1:=by
 obtain ⟨n,rfl⟩:∃ n:Nat,w=((n * 2:Nat):Int):=⟨(w / 2).toNat,by omega⟩
 have:=Lib.or_one (n * 2) (by omega)
 unfold or1
 rw [this];omega
theorem qav (hc:c.Ok) (h:OkG c g l) {a:Int} (ha:g.K a):0<=g.M.F a 2/\g.M.F a 2<=40001:=by
 rcases h.ki.nx _ ha with q | q
 ·omega
 ·have:=Ta hc h q.1;have:=yd hc;omega
theorem Rk (hc:c.Ok) {s:St} (h:OkG c g s.l) {a f o:Int} (ha:g.K a) (h0:0<=f) (h1:f<za c) (k:s.can (a+f) o=false):g.M.F a f≠o:=by
 have:=h.rel.F a ha f h0 h1
 have hl:=h.rel.len
 have hb:=Rel.low hc h ha
 have ht:=hc.t1
 unfold St.can Ri at k
 rw [this] at k
 intro e
 rw [e] at k
 simp at k
 omega
structure LdI (c:Cf) (g:Gst) (x:Ld):Prop where
 cc:x.c=c
 K:g.K x.chunk
 l2:x.line=2->g.M.F x.chunk 3≠0
 l:(3<=x.line\/x.line=0)->g.K x.l
 w4:x.line=4->x.w % 2=0
 n5:(5<=x.line\/x.line=0)->g.M.F x.l 2 % 2=1/\x.n=g.M.F x.l 2 / 2
 m7:x.line=7->g.M.F x.l 4≠0
 m8:8<=x.line->g.K x.n/\g.M.F x.l 4=x.n
 w11:x.line=11->x.w % 2=0
 al:x.line=0->(x.alone=true/\x.after=x.n)\/(x.alone=false/\g.K x.n/\g.M.F x.n 2 % 2=1/\x.after=g.M.F x.n 2 / 2)
 ln:0<=x.line/\x.line<=11
 na:x.line≠0->x.alone=false
theorem LdI.new {a:Int} (ha:g.K a) (d:Bool):LdI c g (Ld.new c a d) :=
 ⟨rfl,ha,fun e=>by simp [Ld.new] at e,fun e=>by simp [Ld.new] at e,fun e=>by simp [Ld.new] at e,fun e=>by simp [Ld.new] at e,fun e=>by simp [Ld.new] at e,fun e=>by simp [Ld.new] at e,fun e=>by simp [Ld.new] at e,fun e=>by simp [Ld.new] at e,by simp [Ld.new],fun _=>rfl⟩
theorem LdI.ext {g':Gst} {x:Ld} (hc:c.Ok) (h:LdI c g x) (hp:∀ a,g.K a->15<=a) (e:Ext c g g'):LdI c g' x:=by
 refine ⟨h.cc,e.K _ h.K,fun k=>?_,fun k=>e.K _ (h.l k),h.w4,fun k=>?_,fun k=>?_,fun k=>?_,h.w11,fun k=>?_,h.ln,h.na⟩
 ·rw [e.ld _ h.K (h.l2 k)];exact h.l2 k
 ·obtain ⟨h1,h2⟩:=h.n5 k
  have hl:=h.l (by omega)
  rw [e.nm _ hl h1];exact ⟨h1,h2⟩
 ·rw [e.mt _ (h.l (by omega)) (h.m7 k)];exact h.m7 k
 ·obtain ⟨h1,h2⟩:=h.m8 k
  have:=hp _ h1
  exact ⟨e.K _ h1,by rw [e.mt _ (h.l (by omega)) (by omega)];exact h2⟩
 ·rcases h.al k with q | ⟨q1,q2,q3,q4⟩
  ·exact .inl q
  ·exact .inr ⟨q1,e.K _ q2,by rw [e.nm _ q2 q3];exact q3,by rw [e.nm _ q2 q3];exact q4⟩
theorem LdI.led {x:Ld} (h:LdI c g x) (h0:x.line=0):Led c g x.three.1 x.three.2.1 x.three.2.2:=by
 obtain ⟨h1,h2⟩:=h.n5 (.inr h0)
 have hl:=h.l (.inr h0)
 unfold Ld.three
 rw [qd (by omega)]
 rcases h.al h0 with ⟨q1,q2⟩ | ⟨q1,q2,q3,q4⟩
 ·rw [qf q1];exact ⟨hl,h1,.inl ⟨rfl,by simp only;rw [q2,h2]⟩⟩
 ·rw [qd (by rw [q1];simp)];exact ⟨hl,h1,.inr ⟨q2,h2,q3,q4⟩⟩
theorem LdI.eight (hc:c.Ok) (h:OkG c g l) {x:Ld} (h1:x.c=c) (h2:g.K x.chunk) (h3:g.K x.l) (h4:g.M.F x.l 2 % 2=1/\x.n=g.M.F x.l 2 / 2) (h5:g.M.F x.l 4=x.mate) (h6:x.mate≠0) (h7:x.alone=false):LdI c g x.eight:=by
 unfold Ld.eight
 split
 ·exact ⟨h1,h2,fun e=>by simp [Ld.toAlone] at e,fun _=>h3,fun e=>by simp [Ld.toAlone] at e,fun _=>h4,fun e=>by simp [Ld.toAlone] at e,fun e=>by simp [Ld.toAlone] at e,fun e=>by simp [Ld.toAlone] at e,fun _=>.inl ⟨rfl,rfl⟩,by simp [Ld.toAlone],fun e=>by simp [Ld.toAlone] at e⟩
 ·rename_i hn
  refine ⟨h1,h2,fun e=>by simp at e,fun _=>h3,fun e=>by simp at e,fun _=>h4,fun e=>by simp at e,fun _=>?_,fun e=>by simp at e,fun e=>by simp at e,by simp,fun _=>h7⟩
  rcases h.ki.mt _ h3 with q | q | ⟨q1,q2,q3⟩
  ·omega
  ·omega
  ·simp only
   rw [h4.2,q2];exact ⟨q1,rfl⟩
theorem LdI.step (hc:c.Ok) {s:St} (h:OkG c g s.l) {x:Ld} (hx:LdI c g x):∃ g',Goes c g s.l g' (x.step s).2.l no2 no1/\LdI c g' (x.step s).1:=by
 have same:=Goes.same h no2 no1
 have hsz:=yd hc
 have hkb:=Ta hc h hx.K
 unfold Ld.step
 by_cases hl:x.live=true
 ·rw [qf hl]
  unfold Ld.live at hl
  simp only [Bool.and_eq_true,decide_eq_true_eq] at hl
  have hna:=hx.na (by omega)
  simp only
  unfold Ld.act Ld.told Ld.next
  by_cases l1:x.line=1
  ·rw [qf l1,qf l1,Zv (by omega) (by omega)]
   have mk:∀ g':Gst,Ext c g g'->g'.M.F x.chunk 3≠0->LdI c g' { x with line:=2 }:=fun g' e e3 =>
    ⟨hx.cc,e.K _ hx.K,fun _=>e3,fun e=>by simp at e,fun e=>by simp at e,fun e=>by simp at e,fun e=>by simp at e,fun e=>by simp at e,fun e=>by simp at e,fun e=>by simp at e,by simp,fun _=>hna⟩
   cases hcn:s.can (x.chunk+3) 0 with
   | true =>
    have hp:=jo hcn
    rw [h.rel.F _ hx.K 3 (by omega) (by omega)] at hp
    rw [je hcn]
    have G:=Tq hc h hx.K hp hx.K (.inl rfl)
    exact ⟨_,G,mk _ G.ext (by rw [show (g.set x.chunk 3 x.chunk).M.F x.chunk 3=x.chunk from upd_same _ _ _ _];omega)⟩
   | false=>rw [wm hcn];exact ⟨g,same,mk _ (Ext.refl _ _) (Rk hc h hx.K (by omega) (by omega) hcn)⟩
  ·rw [qd l1,qd l1]
   by_cases l2:x.line=2
   ·rw [qf l2,qf l2,qf l2,rd hc h hx.K (by omega) (by omega)]
    refine ⟨g,same,hx.cc,hx.K,fun e=>by simp at e,fun _=>?_,fun e=>by simp at e,fun e=>by simp at e,fun e=>by simp at e,fun e=>by simp at e,fun e=>by simp at e,fun e=>by simp at e,by simp,fun _=>hna⟩
    exact ((h.ki.ld _ hx.K).resolve_left (hx.l2 l2)).1
   ·rw [qd l2,qd l2,qd l2]
    have hK:=hx.l (.inl (by omega))
    have hlb:=Ta hc h hK
    have hxb:=qav hc h hK
    by_cases l3:x.line=3
    ·rw [qf l3,qf l3,qf l3,rd hc h hK (by omega) (by omega)]
     refine ⟨g,same,?_⟩
     unfold Jy
     split
     ·rename_i e;rw [decide_eq_true_eq] at e
      exact ⟨hx.cc,hx.K,fun e=>by simp at e,fun _=>hK,fun e=>by simp at e,fun _=>⟨e,rfl⟩,fun e=>by simp at e,fun e=>by simp at e,fun e=>by simp at e,fun e=>by simp at e,by simp,fun _=>hna⟩
     ·rename_i e;rw [decide_eq_true_eq] at e
      exact ⟨hx.cc,hx.K,fun e=>by simp at e,fun _=>hK,fun _=>by simp only;omega,fun e=>by simp at e,fun e=>by simp at e,fun e=>by simp at e,fun e=>by simp at e,fun e=>by simp at e,by simp,fun _=>hna⟩
    ·rw [qd l3,qd l3,qd l3]
     by_cases l4:x.line=4
     ·rw [qf l4,qf l4,Zv (by omega) (by omega)]
      have mk:∀ g':Gst,Ext c g g'->LdI c g' { x with line:=3 }:=fun g' e =>
       ⟨hx.cc,e.K _ hx.K,fun e=>by simp at e,fun _=>e.K _ hK,fun e=>by simp at e,fun e=>by simp at e,fun e=>by simp at e,fun e=>by simp at e,fun e=>by simp at e,fun e=>by simp at e,by simp,fun _=>hna⟩
      cases hcn:s.can (x.l+2) x.w with
      | true =>
       have hp:=jo hcn
       rw [h.rel.F _ hK 2 (by omega) (by omega)] at hp
       have hw:=hx.w4 l4
       rw [je hcn,q1b hw (by omega) (by omega)]
       have G:=Ji hc h hK (v:=x.w+1) (by omega) (by have:=h.ki.nx _ hK;rw [show (x.w+1) / 2=g.M.F x.l 2 / 2 by omega];exact this)
       exact ⟨_,G,mk _ G.ext⟩
      | false=>rw [wm hcn];exact ⟨g,same,mk _ (Ext.refl _ _)⟩
     ·rw [qd l4,qd l4]
      obtain ⟨n1,n2⟩:=hx.n5 (.inl (by omega))
      by_cases l5:x.line=5
      ·rw [qf l5,qf (show x.line=5\/x.line=7 from .inl l5),qf l5,rd hc h hK (by omega) (by omega)]
       refine ⟨g,same,?_⟩
       split
       ·exact ⟨hx.cc,hx.K,fun e=>by simp at e,fun _=>hK,fun e=>by simp at e,fun _=>⟨n1,n2⟩,fun e=>by simp at e,fun e=>by simp at e,fun e=>by simp at e,fun e=>by simp at e,by simp,fun _=>hna⟩
       ·rename_i e
        exact LdI.eight (x:={ x with mate:=g.M.F x.l 4,line:=6 }) hc h hx.cc hx.K hK ⟨n1,n2⟩ rfl e hna
      ·rw [qd l5,qd l5]
       by_cases l6:x.line=6
       ·rw [qf l6,qf l6,Zv (by omega) (by omega)]
        have mk:∀ g':Gst,Ext c g g'->g'.M.F x.l 4≠0->LdI c g' { x with drew:=true,line:=7 }:=fun g' e e4 =>
         ⟨hx.cc,e.K _ hx.K,fun e=>by simp at e,fun _=>e.K _ hK,fun e=>by simp at e,fun _=>by simp only;rw [e.nm _ hK n1];exact ⟨n1,n2⟩,fun _=>e4,fun e=>by simp at e,fun e=>by simp at e,fun e=>by simp at e,by simp,fun _=>hna⟩
        cases hcn:s.can (x.l+4) 0 with
        | true =>
         have hp:=jo hcn
         rw [h.rel.F _ hK 4 (by omega) (by omega)] at hp
         rw [je hcn]
         have hw:x.who=1\/(g.K x.who/\g.M.F x.l 2 / 2=x.who/\g.M.F x.l 2 % 2=1):=by
          unfold Ld.who
          split
          ·rename_i e
           right
           rcases h.ki.nx _ hK with q | q
           ·omega
           ·rw [n2];exact ⟨q.1,rfl,n1⟩
          ·exact .inl rfl
         have hw0:x.who≠0:=by
          rcases hw with q | q
          ·omega
          ·have:=h.ki.pos hc q.1;omega
         have G:=q71 hc h hK hp hw
         exact ⟨_,G,mk _ G.ext (by rw [show (g.set x.l 4 x.who).M.F x.l 4=x.who from upd_same _ _ _ _];exact hw0)⟩
        | false=>rw [wm hcn];exact ⟨g,same,mk _ (Ext.refl _ _) (Rk hc h hK (by omega) (by omega) hcn)⟩
       ·rw [qd l6,qd l6]
        by_cases l7:x.line=7
        ·rw [qf l7,qf (show x.line=5\/x.line=7 from .inr l7),qf l7,rd hc h hK (by omega) (by omega)]
         exact ⟨g,same,LdI.eight (x:={ x with mate:=g.M.F x.l 4 }) hc h hx.cc hx.K hK ⟨n1,n2⟩ rfl (hx.m7 l7) hna⟩
        ·rw [qd l7,qd (show ¬ (x.line=5\/x.line=7) by omega),qd l7]
         obtain ⟨m1,m2⟩:=hx.m8 (by omega)
         have hnb:=Ta hc h m1
         have hnx:=qav hc h m1
         by_cases l8:x.line=8
         ·rw [qf l8,qf l8,Zv (by omega) (by omega)]
          have mk:∀ g':Gst,Ext c g g'->LdI c g' { x with line:=9 }:=fun g' e =>
           ⟨hx.cc,e.K _ hx.K,fun e=>by simp at e,fun _=>e.K _ hK,fun e=>by simp at e,fun _=>by simp only;rw [e.nm _ hK n1];exact ⟨n1,n2⟩,fun e=>by simp at e,fun _=>⟨e.K _ m1,by rw [e.mt _ hK (by omega)];exact m2⟩,fun e=>by simp at e,fun e=>by simp at e,by simp,fun _=>hna⟩
          cases hcn:s.can (x.n+3) 0 with
          | true =>
           have hp:=jo hcn
           rw [h.rel.F _ m1 3 (by omega) (by omega)] at hp
           rw [je hcn]
           have G:=Tq hc h m1 hp hK (.inr ⟨m2,n1⟩)
           exact ⟨_,G,mk _ G.ext⟩
          | false=>rw [wm hcn];exact ⟨g,same,mk _ (Ext.refl _ _)⟩
         ·rw [qd l8,qd l8]
          by_cases l9:x.line=9
          ·rw [qf l9,qf l9,qf l9,rd hc h m1 (by omega) (by omega)]
           refine ⟨g,same,?_⟩
           split
           ·exact ⟨hx.cc,hx.K,fun e=>by simp at e,fun _=>hK,fun e=>by simp at e,fun _=>⟨n1,n2⟩,fun e=>by simp at e,fun _=>⟨m1,m2⟩,fun e=>by simp at e,fun e=>by simp at e,by simp,fun _=>hna⟩
           ·exact ⟨hx.cc,hx.K,fun e=>by simp [Ld.toAlone] at e,fun _=>hK,fun e=>by simp [Ld.toAlone] at e,fun _=>⟨n1,n2⟩,fun e=>by simp [Ld.toAlone] at e,fun e=>by simp [Ld.toAlone] at e,fun e=>by simp [Ld.toAlone] at e,fun _=>.inl ⟨rfl,rfl⟩,by simp [Ld.toAlone],fun e=>by simp [Ld.toAlone] at e⟩
          ·rw [qd l9,qd l9,qd l9]
           by_cases l10:x.line=10
           ·rw [qf l10,qf l10,rd hc h m1 (by omega) (by omega)]
            refine ⟨g,same,?_⟩
            unfold Jy
            split
            ·rename_i e;rw [decide_eq_true_eq] at e
             exact ⟨hx.cc,hx.K,fun e=>by simp at e,fun _=>hK,fun e=>by simp at e,fun _=>⟨n1,n2⟩,fun e=>by simp at e,fun e=>by simp at e,fun e=>by simp at e,fun _=>.inr ⟨hna,m1,e,rfl⟩,by simp,fun e=>by simp at e⟩
            ·rename_i e;rw [decide_eq_true_eq] at e
             exact ⟨hx.cc,hx.K,fun e=>by simp at e,fun _=>hK,fun e=>by simp at e,fun _=>⟨n1,n2⟩,fun e=>by simp at e,fun _=>⟨m1,m2⟩,fun _=>by simp only;omega,fun e=>by simp at e,by simp,fun _=>hna⟩
           ·rw [qd l10,qd l10,Zv (by omega) (by omega)]
            have mk:∀ g':Gst,Ext c g g'->LdI c g' { x with line:=10 }:=fun g' e =>
             ⟨hx.cc,e.K _ hx.K,fun e=>by simp at e,fun _=>e.K _ hK,fun e=>by simp at e,fun _=>by simp only;rw [e.nm _ hK n1];exact ⟨n1,n2⟩,fun e=>by simp at e,fun _=>⟨e.K _ m1,by rw [e.mt _ hK (by omega)];exact m2⟩,fun e=>by simp at e,fun e=>by simp at e,by simp,fun _=>hna⟩
            cases hcn:s.can (x.n+2) x.w with
            | true =>
             have hp:=jo hcn
             rw [h.rel.F _ m1 2 (by omega) (by omega)] at hp
             have hw:=hx.w11 (by omega)
             rw [je hcn,q1b hw (by omega) (by omega)]
             have G:=Ji hc h m1 (v:=x.w+1) (by omega) (by have:=h.ki.nx _ m1;rw [show (x.w+1) / 2=g.M.F x.n 2 / 2 by omega];exact this)
             exact ⟨_,G,mk _ G.ext⟩
            | false=>rw [wm hcn];exact ⟨g,same,mk _ (Ext.refl _ _)⟩
 ·rw [qd hl];exact ⟨g,same,hx⟩
structure SpI (c:Cf) (g:Gst) (x:Sp):Prop where
 cc:x.c=c
 K:g.K x.chunk
 m:x.mate=0\/g.K x.mate
 r:g.K x.repl/\g.M.F x.repl 0=g.M.F x.chunk 0
 m7:x.line=7->x.mate≠0
 cu:3<=x.line/\x.line<=5->g.K x.cur\/x.cur=xm c
 w4:x.line=4->x.w % 2=0/\x.w / 2=x.chunk
 n5:x.line=5->g.K x.n
 st:x.stuck=0\/g.K x.stuck
 ln:0<=x.line/\x.line<=8
theorem SpI.new {a m r:Int} (ha:g.K a) (hm:m=0\/g.K m) (hr:g.K r/\g.M.F r 0=g.M.F a 0):SpI c g (Sp.new c a m r) :=
 ⟨rfl,ha,hm,hr,fun e=>by simp [Sp.new] at e,fun e=>by simp [Sp.new] at e,fun e=>by simp [Sp.new] at e,fun e=>by simp [Sp.new] at e,.inl rfl,by simp [Sp.new]⟩
theorem SpI.ext {g':Gst} {x:Sp} (h:SpI c g x) (e:Ext c g g'):SpI c g' x :=
 ⟨h.cc,e.K _ h.K,h.m.imp id (e.K _),⟨e.K _ h.r.1,by rw [e.mn _ h.r.1,e.mn _ h.K];exact h.r.2⟩,h.m7,fun k=>(h.cu k).imp (e.K _) id,h.w4,fun k=>e.K _ (h.n5 k),h.st.imp id (e.K _),h.ln⟩
theorem SpI.step (hc:c.Ok) {s:St} (h:OkG c g s.l) {x:Sp} (hx:SpI c g x):∃ g',Goes c g s.l g' (x.step s).2.l no2 no1/\SpI c g' (x.step s).1:=by
 have same:=Goes.same h no2 no1
 have hsz:=yd hc
 have hkb:=Ta hc h hx.K
 have ht:=hc.t1
 have ht8:=hc.t8
 unfold Sp.step
 by_cases hl:x.live=true
 ·rw [qf hl]
  unfold Sp.live at hl
  simp only [Bool.or_eq_true,Bool.and_eq_true,decide_eq_true_eq] at hl
  have toHead:∀ y:Sp,y.c=c->y.chunk=x.chunk->y.mate=x.mate->y.repl=x.repl->y.stuck=x.stuck->SpI c g y.head:=fun y e1 e2 e3 e4 e5 =>
   ⟨e1,by show g.K y.chunk;rw [e2];exact hx.K,by show y.mate=0\/g.K y.mate;rw [e3];exact hx.m,by show g.K y.repl/\g.M.F y.repl 0=g.M.F y.chunk 0;rw [e4,e2];exact hx.r,fun e=>by simp [Sp.head] at e,fun _=>.inr (by show xm y.c=xm c;rw [e1]),fun e=>by simp [Sp.head] at e,fun e=>by simp [Sp.head] at e,by show y.stuck=0\/g.K y.stuck;rw [e5];exact hx.st,by simp [Sp.head]⟩
  simp only
  unfold Sp.act Sp.told Sp.next
  by_cases l1:x.line=1
  ·rw [qf l1,qf l1,qf l1]
   exact ⟨g,same,toHead _ hx.cc rfl rfl rfl rfl⟩
  ·rw [qd l1,qd l1,qd l1]
   by_cases l3:x.line=3
   ·rw [qf l3,qf l3,qf l3]
    have hcu:=hx.cu (by omega)
    refine ⟨g,same,?_⟩
    unfold Jy atW
    have fact:∀ v,v=qq s.l (wrap64 (x.cur+2))->(v % 2=1->g.K x.cur)/\(v / 2=0\/g.K (v / 2)):=fun v hv=>by
     rcases hcu with q | q
     ·rw [rd hc h q (by omega) (by omega)] at hv
      refine ⟨fun _=>q,?_⟩
      rw [hv]
      rcases h.ki.nx _ q with k | k
      ·exact .inl k.1
      ·exact .inr k.1
     ·obtain ⟨a,ha,e1,e2⟩:=h.ki.hd
      have hp:qq s.l (wrap64 (x.cur+2))=2 * a:=by
       rw [q,Zv (by unfold xm;omega) (by unfold xm;omega),h.rel.hn,e1]
      rw [hp] at hv
      exact ⟨fun k=>by omega,.inr (by rw [show v / 2=a by omega];exact ha)⟩
    obtain ⟨f1,f2⟩:=fact _ rfl
    generalize qq s.l (wrap64 (x.cur+2))=v at *
    split
    ·rename_i e;rw [decide_eq_true_eq] at e
     exact ⟨hx.cc,hx.K,hx.m,hx.r,fun e=>by simp at e,fun e=>by simp at e,fun e=>by simp at e,fun e=>by simp at e,.inr (f1 e),by simp⟩
    ·rename_i e;rw [decide_eq_true_eq] at e
     split
     ·exact ⟨hx.cc,hx.K,hx.m,hx.r,fun e=>by simp at e,fun e=>by simp at e,fun e=>by simp at e,fun e=>by simp at e,hx.st,by simp⟩
     ·rename_i e2
      split
      ·rename_i e3
       exact ⟨hx.cc,hx.K,hx.m,hx.r,fun e=>by simp at e,fun _=>hcu,fun _=>⟨by simp only;omega,e3⟩,fun e=>by simp at e,hx.st,by simp⟩
      ·exact ⟨hx.cc,hx.K,hx.m,hx.r,fun e=>by simp at e,fun _=>hcu,fun e=>by simp at e,fun _=>f2.resolve_left e2,hx.st,by simp⟩
   ·rw [qd l3,qd l3,qd l3]
    by_cases l4:x.line=4
    ·rw [qf l4,qf l4,qf l4]
     obtain ⟨w1,w2⟩:=hx.w4 l4
     have hrb:=Ta hc h hx.r.1
     have hnw:jv x.repl false=2 * x.repl:=by unfold jv hd;simp only [Bool.false_eq_true,if_false];omega
     rw [hnw]
     have mk:∀ g':Gst,Ext c g g'->SpI c g' { x with line:=6 }:=fun g' e =>
      ⟨hx.cc,e.K _ hx.K,hx.m.imp id (e.K _),⟨e.K _ hx.r.1,by simp only;rw [e.mn _ hx.r.1,e.mn _ hx.K];exact hx.r.2⟩,fun e=>by simp at e,fun e=>by simp at e,fun e=>by simp at e,fun e=>by simp at e,hx.st.imp id (e.K _),by simp⟩
     cases hcn:s.can (wrap64 (x.cur+2)) x.w with
     | true =>
      have hp:=jo hcn
      simp only [if_true]
      rw [je hcn]
      rcases hx.cu (by omega) with q | q
      ·have hqb:=Ta hc h q
       rw [rd hc h q (by omega) (by omega)] at hp
       rw [Zv (by omega) (by omega)]
       have G:=Ji hc h q (v:=2 * x.repl) (by omega) (by
        right
        rw [show 2 * x.repl / 2=x.repl by omega]
        refine ⟨hx.r.1,hx.r.2.trans ?_⟩
        rcases h.ki.nx _ q with k | k
        ·omega
        ·rw [show g.M.F x.cur 2 / 2=x.chunk by omega] at k;exact k.2)
       exact ⟨_,G,mk _ G.ext⟩
      ·obtain ⟨a,ha,e1,e2⟩:=h.ki.hd
       have e0:wrap64 (x.cur+2)=xm c+2:=by rw [q,Zv (by unfold xm;omega) (by unfold xm;omega)]
       rw [e0,h.rel.hn,e1] at hp
       rw [e0]
       have ea:a=x.chunk:=by omega
       rw [ea] at e2
       have G:=q72 hc h (v:=x.repl) ⟨hx.r.1,hx.r.2.trans e2⟩
       exact ⟨_,G,mk _ G.ext⟩
     | false =>
      simp only [Bool.false_eq_true,if_false]
      rw [wm hcn,qd (by omega)]
      exact ⟨g,same,toHead _ hx.cc rfl rfl rfl rfl⟩
    ·rw [qd l4,qd l4,qd l4]
     by_cases l5:x.line=5
     ·rw [qf l5,qf l5]
      refine ⟨g,same,?_⟩
      have hn:=hx.n5 l5
      split
      ·exact ⟨hx.cc,hx.K,hx.m,hx.r,fun e=>by simp at e,fun e=>by simp at e,fun e=>by simp at e,fun e=>by simp at e,hx.st,by simp⟩
      ·exact ⟨hx.cc,hx.K,hx.m,hx.r,fun e=>by simp at e,fun _=>.inl hn,fun e=>by simp at e,fun e=>by simp at e,hx.st,by simp⟩
     ·rw [qd l5,qd l5]
      have mk:∀ (g':Gst) (n:Int),Ext c g g'->(n=7->x.mate≠0)->(n=0\/n=7\/n=8)->SpI c g' { x with line:=n }:=fun g' n e e7 en =>
       ⟨hx.cc,e.K _ hx.K,hx.m.imp id (e.K _),⟨e.K _ hx.r.1,by simp only;rw [e.mn _ hx.r.1,e.mn _ hx.K];exact hx.r.2⟩,e7,fun e=>by simp only at e;omega,fun e=>by simp only at e;omega,fun e=>by simp only at e;omega,hx.st.imp id (e.K _),by simp only;omega⟩
      by_cases l6:x.line=6
      ·rw [qf l6,qf l6,Xa,Zv (by omega) (by omega)]
       have G:=Zt hc h (v:=2) hx.K
       refine ⟨_,G,?_⟩
       split
       ·exact mk _ 8 G.ext (by omega) (by omega)
       ·rename_i e;exact mk _ 7 G.ext (fun _=>e) (by omega)
      ·rw [qd l6,qd l6]
       by_cases l7:x.line=7
       ·have hm:=hx.m.resolve_left (hx.m7 l7)
        have hmb:=Ta hc h hm
        rw [qf l7,qf l7,Xa,Zv (by omega) (by omega)]
        have G:=Zt hc h (v:=2) hm
        exact ⟨_,G,mk _ 8 G.ext (by omega) (by omega)⟩
       ·rw [qd l7,qd l7,Xa]
        have e:x.hint=3+c.t+hd x.m 0 63 / 16:=by unfold Sp.hint Zw;rw [hx.cc]
        rw [e]
        have G:=q70 hc h (k:=hd x.m 0 63 / 16) (by unfold hd;omega) hx.r.1
        exact ⟨_,G,mk _ 0 G.ext (by omega) (by omega)⟩
 ·rw [qd hl];exact ⟨g,same,hx⟩
end
end Go.Proofs.YtppajakfaomkaaaGreatDoor.Mx
