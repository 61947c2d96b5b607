/- Parts. -/
import Derived.Test.YtbddhncgemeohaaGreatDoorYbg
import Derived.Lib.QuoteBits
set_option linter.unusedVariables false
set_option linter.unusedSimpArgs false
set_option maxRecDepth 100000
set_option maxHeartbeats 12800000
namespace Go.Proofs.YtbddhncgemeohaaGreatDoor.Mx
open Go.RowKit Ar Ref Og Mp
section
variable {c:Cf} {g:Gst} {l:List Int}
structure SlI (c:Cf) (g:Gst) (x:Sl):Prop where
 cc:x.c=c
 K:g.K x.chunk
 m:x.mate=0\/g.K x.mate
 m2:x.line=2->x.mate≠0
 i:1<=x.line->0<=x.i/\x.i<Q8 c x.mate
theorem SlI.ext {g':Gst} {x:Sl} (h:SlI c g x) (e:Ext c g g'):SlI c g' x:=⟨h.cc,e.K _ h.K,h.m.imp id (e.K _),h.m2,h.i⟩
theorem SlI.new (hc:c.Ok) {a m:Int} (ha:g.K a) (hm:m=0\/g.K m):SlI c g (Sl.new c a m) :=
 ⟨rfl,ha,hm,fun e=>by simp [Sl.new] at e,fun _=>by have:=(X9 hc m).1;simp only [Sl.new];omega⟩
theorem q5c (hc:c.Ok) (h:OkG c g l) {a m i:Int} (ha:g.K a) (hm:m=0\/g.K m) (hi:0<=i/\i<Q8 c m):∃ b j,g.K b/\(0<=j/\j<c.c)/\(b=a\/(b=m/\m≠0))/\yu c a m i=b+(7+3 * j)/\9+3 * j<z8 c:=by
 have h16:=hc.c16;unfold yu;by_cases e:i<c.c
 ·rw [qg e];obtain ⟨h1,h2,h3⟩:=q8e hc h ha ⟨hi.1,e⟩;exact ⟨a,i,ha,⟨hi.1,e⟩,.inl rfl,h1,h3⟩
 ·rw [qf e];have hm0:m≠0:=fun k=>by have:=hi.2;unfold Q8 at this;rw [qg k] at this;omega
  have hb:i<2 * c.c:=by have:=hi.2;unfold Q8 at this;rw [qf hm0] at this;omega
  have hK:=hm.resolve_left hm0;have hw:wrap64 (i - c.c)=i - c.c:=Zk Ly Ly;rw [hw];obtain ⟨h1,h2,h3⟩:=q8e hc h hK (i:=i - c.c) ⟨by omega,by omega⟩;exact ⟨m,i - c.c,hK,⟨by omega,by omega⟩,.inr ⟨rfl,hm0⟩,h1,h3⟩
theorem Z7 (x:Sl) (v:Int):(x.next v).c=x.c/\(x.next v).chunk=x.chunk/\(x.next v).mate=x.mate:=by
 unfold Sl.next;repeat' split
 all_goals exact ⟨rfl,rfl,rfl⟩
theorem q6t (hc:c.Ok) {x:Sl} (h:SlI c g x) (hl:1<=x.line/\x.line<=6) (v:Int):SlI c g (x.next v):=by
 have hi:=h.i hl.1;have hb:=X9 hc x.mate;have hw:wrap64 (x.i+1)=x.i+1:=Zk Ly Ly;obtain ⟨e1,e2,e3⟩:=Z7 x v;refine ⟨e1.trans h.cc,by rw [e2];exact h.K,by rw [e3];exact h.m,?_,?_⟩
 ·rw [e3];unfold Sl.next;intro k;by_cases l1:x.line=1
  ·rw [qg l1] at k;by_cases m0:x.mate=0
   ·rw [qg m0] at k;simp at k
   ·exact m0
  ·rw [qf l1] at k;exfalso;repeat' split at k
   all_goals (simp only at k;omega)
 ·rw [e3];unfold Sl.next;rw [h.cc,hw];by_cases l1:x.line=1
  ·rw [qg l1];split <;> exact fun _=>hi
  ·rw [qf l1];by_cases l2:x.line=2
   ·rw [qg l2];exact fun _=>hi
   ·rw [qf l2];by_cases l3:x.line=3
    ·rw [qg l3];split
     ·exact fun _=>hi
     ·split
      ·exact fun _=>hi
      ·split
       ·simp
       ·intro _;simp only;omega
    ·rw [qf l3];by_cases l4:x.line=4
     ·rw [qg l4];exact fun _=>hi
     ·rw [qf l4];split <;> exact fun _=>hi
structure SlS (c:Cf) (g:Gst) (x:Sl):Prop where
 B:Bn g x.chunk
 mB:x.mate=0\/Bn g x.mate
 s1:x.line≠1->1<=g.M.F x.chunk 6
 s2:x.line≠1->x.line≠2->x.mate≠0->1<=g.M.F x.mate 6
theorem SlS.new {a m:Int} (ha:Bn g a) (hm:m=0\/Bn g m):SlS c g (Sl.new c a m) :=
 ⟨ha,hm,fun k=>absurd rfl k,fun k=>absurd rfl k⟩
theorem SlS.ext {g':Gst} {x:Sl} (hx:SlI c g x) (h:SlS c g x) (e:Ext c g g'):SlS c g' x :=
 ⟨e.bn _ h.B,h.mB.imp id (e.bn _),fun k=>e.st _ hx.K (h.s1 k),fun k k2 k3=>e.st _ (hx.m.resolve_left k3) (h.s2 k k2 k3)⟩
theorem SlS.next3 {x:Sl} (h:SlS c g x) (h1:3<=x.line) (v:Int):SlS c g (x.next v):=by obtain ⟨-,e2,e3⟩:=Z7 x v;refine ⟨by rw [e2];exact h.B,by rw [e3];exact h.mB,fun _=>by rw [e2];exact h.s1 Ly,fun _ _=>by rw [e3];exact h.s2 Ly Ly⟩
theorem SlI.step (hc:c.Ok) {s:St} (h:OkG c g s.l) {x:Sl} (hx:SlI c g x) (hS:SlS c g x):∃ g',Goes c g s.l g' (x.step s).2.l no2 no1/\SlI c g' (x.step s).1/\SlS c g' (x.step s).1:=by
 have same:=Goes.same h no2 no1;unfold Sl.step;by_cases hl:x.live=true
 ·rw [qg hl];unfold Sl.live at hl;simp only [Bool.and_eq_true,decide_eq_true_eq] at hl;have fin1:∀ g':Gst,Ext c g g'->SlI c g' (x.next (x.told s)):=fun g' e=>(q6t hc hx hl _).ext e
  have fin:3<=x.line->∀ g':Gst,Ext c g g'->SlI c g' (x.next (x.told s))/\SlS c g' (x.next (x.told s)):=fun q g' e=>⟨fin1 g' e,(hS.next3 q _).ext (q6t hc hx hl _) e⟩
  obtain ⟨-,en2,en3⟩:=Z7 x (x.told s);have hsz:=xk hc;have hkb:=Kq hc h hx.K;obtain ⟨b,j,hb,hj,-,ej,e9⟩:=q5c hc h hx.K hx.m (hx.i hl.1);have hsa:x.sa=b+(7+3 * j):=by unfold Sl.sa;rw [hx.cc];exact ej
  have hrd:qx s.l x.sa=g.M.F b (7+3 * j):=by rw [hsa];exact h.rel.F _ hb _ Ly Ly
  simp only;unfold Sl.act;by_cases l1:x.line=1
  ·rw [qg l1,Xd,Zk Ly Ly];have G:=X7 hc h 1 hS.B (Int.le_refl _);refine ⟨_,G,fin1 _ G.ext,by rw [en2];exact G.ext.bn _ hS.B,by rw [en3];exact hS.mB.imp id (G.ext.bn _),fun _=>?_,fun k1 k2 k3=>?_⟩
   ·rw [en2];exact Int.le_of_eq (upd_same _ _ _ _).symm
   ·exfalso;rw [en3] at k3;unfold Sl.next at k2;rw [qg l1,qf k3] at k2;exact k2 rfl
  ·rw [qf l1];by_cases l2:x.line=2
   ·have hm:=hx.m.resolve_left (hx.m2 l2);have hmb:=Kq hc h hm;rw [qg l2,Xd,Zk Ly Ly];have G:=X7 hc h 1 (hS.mB.resolve_left (hx.m2 l2)) (Int.le_refl _);refine ⟨_,G,fin1 _ G.ext,by rw [en2];exact G.ext.bn _ hS.B,by rw [en3];exact hS.mB.imp id (G.ext.bn _),fun _=>?_,fun k1 k2 k3=>?_⟩
    ·rw [en2];exact G.ext.st _ hx.K (hS.s1 Ly)
    ·rw [en3];exact Int.le_of_eq (upd_same _ _ _ _).symm
   ·rw [qf l2];by_cases l3:x.line=3
    ·rw [qg l3];exact ⟨g,same,fin Ly _ (Ext.refl _ _)⟩
    ·rw [qf l3];by_cases l4:x.line=4
     ·rw [qg l4];cases hcn:s.can x.sa 0 with
      | true =>
       have hp:=kr hcn;rw [hrd] at hp;rw [jq hcn,hsa];have G:=Y6 hc h hb hj (v:=2) (.inl ⟨hp,rfl⟩);exact ⟨_,G,fin Ly _ G.ext⟩
      | false=>rw [Qa hcn];exact ⟨g,same,fin Ly _ (Ext.refl _ _)⟩
     ·rw [qf l4];by_cases l5:x.line=5
      ·rw [qg l5];exact ⟨g,same,fin Ly _ (Ext.refl _ _)⟩
      ·rw [qf l5];cases hcn:s.can x.sa 1 with
       | true =>
        have hp:=kr hcn;rw [hrd] at hp;rw [jq hcn,hsa];have G:=Y6 hc h hb hj (v:=yg x.g) (.inr ⟨hp,Y9 _⟩);exact ⟨_,G,fin Ly _ G.ext⟩
       | false=>rw [Qa hcn];exact ⟨g,same,fin Ly _ (Ext.refl _ _)⟩
 ·exact I7
theorem Led.ext (hc:c.Ok) (h:OkG c g l) {g':Gst} {a m r:Int} (k:Led c g a m r) (e:Ext c g g'):Led c g' a m r:=k.keep (h.p15 hc) e.K e.bn e.nm e.ld e.mt
theorem Led.m0 (hc:c.Ok) (h:OkG c g l) {a m r:Int} (k:Led c g a m r):m=0\/g.K m:=by
 rcases k.m with q | q
 ·exact .inl q.1
 ·exact .inr q.1
theorem Led.behind (hc:c.Ok) (h:OkG c g l) {a m r:Int} (k:Led c g a m r):(r=0/\g.up (if m=0 then a else m)=64)\/(g.K r/\g.M.F r 0=g.up (if m=0 then a else m)):=by
 rcases k.m with ⟨rfl,rfl⟩ | ⟨k1,k2,k3,rfl⟩
 ·rw [qg rfl];exact h.ki.nx _ k.K
 ·have:m≠0:=by have:=h.ki.pos hc k1;omega
  rw [qf this];exact h.ki.nx _ k1
theorem Led.mn (hc:c.Ok) (h:OkG c g l) {a m r:Int} (k:Led c g a m r) (hm:m≠0):g.M.F m 0=g.up a:=by
 rcases k.m with ⟨e,-⟩ | ⟨k1,k2,k3,k4⟩
 ·exact absurd e hm
 ·rcases h.ki.nx _ k.K with q | q
  ·omega
  ·rw [k2];exact q.2
theorem q1u {w:Int} (h:w % 2=0) (h0:0<=w) (h1:w<=1000000000):or1 w=w+1:=by obtain ⟨n,rfl⟩:∃ n:Nat,w=((n * 2:Nat):Int):=⟨(w / 2).toNat,by omega⟩;have:=Lib.or_one (n * 2) Ly;unfold or1;rw [this];omega
theorem q8f (hc:c.Ok) (h:OkG c g l) {a:Int} (ha:g.K a):0<=g.M.F a 2/\g.M.F a 2<=40001:=by
 rcases h.ki.nx _ ha with q | q
 ·omega
 ·have:=Kq hc h q.1;have:=xk hc;omega
theorem Ur (hc:c.Ok) {s:St} (h:OkG c g s.l) {a f o:Int} (ha:g.K a) (h0:0<=f) (h1:f<z8 c) (k:s.can (a+f) o=false):g.M.F a f≠o:=by have:=h.rel.F a ha f h0 h1;have hl:=h.rel.len;have hb:=Rel.low hc h ha;have ht:=hc.t1;unfold St.can q05 at k;rw [this] at k;intro e;rw [e] at k;simp at k;omega
structure LdI (c:Cf) (g:Gst) (x:Ld):Prop where
 cc:x.c=c
 K:g.K x.chunk
 l2:x.line=2->g.M.F x.chunk 3≠0
 l:(3<=x.line\/x.line=0)->g.K x.l
 w4:x.line=4->x.w % 2=0
 n5:(5<=x.line\/x.line=0)->g.M.F x.l 2 % 2=1/\x.n=g.M.F x.l 2 / 2
 m7:x.line=7->g.M.F x.l 4≠0
 m8:8<=x.line->g.K x.n/\g.M.F x.l 4=x.n
 w11:x.line=11->x.w % 2=0
 al:x.line=0->(x.alone=true/\x.after=x.n)\/(x.alone=false/\g.K x.n/\g.M.F x.n 2 % 2=1/\x.after=g.M.F x.n 2 / 2)
 ln:0<=x.line/\x.line<=11
 na:x.line≠0->x.alone=false
theorem LdI.new {a:Int} (ha:g.K a) (d:Bool):LdI c g (Ld.new c a d) :=
 ⟨rfl,ha,fun e=>by simp [Ld.new] at e,fun e=>by simp [Ld.new] at e,fun e=>by simp [Ld.new] at e,fun e=>by simp [Ld.new] at e,fun e=>by simp [Ld.new] at e,fun e=>by simp [Ld.new] at e,fun e=>by simp [Ld.new] at e,fun e=>by simp [Ld.new] at e,by simp [Ld.new],fun _=>rfl⟩
theorem LdI.ext {g':Gst} {x:Ld} (hc:c.Ok) (h:LdI c g x) (hp:∀ a,g.K a->15<=a) (e:Ext c g g'):LdI c g' x:=by
 refine ⟨h.cc,e.K _ h.K,fun k=>?_,fun k=>e.K _ (h.l k),h.w4,fun k=>?_,fun k=>?_,fun k=>?_,h.w11,fun k=>?_,h.ln,h.na⟩
 ·rw [e.ld _ h.K (h.l2 k)];exact h.l2 k
 ·obtain ⟨h1,h2⟩:=h.n5 k;have hl:=h.l Ly;rw [e.nm _ hl h1];exact ⟨h1,h2⟩
 ·rw [e.mt _ (h.l Ly) (h.m7 k)];exact h.m7 k
 ·obtain ⟨h1,h2⟩:=h.m8 k;have:=hp _ h1;exact ⟨e.K _ h1,by rw [e.mt _ (h.l Ly) Ly];exact h2⟩
 ·rcases h.al k with q | ⟨q1,q2,q3,q4⟩
  ·exact .inl q
  ·exact .inr ⟨q1,e.K _ q2,by rw [e.nm _ q2 q3];exact q3,by rw [e.nm _ q2 q3];exact q4⟩
structure LdS (c:Cf) (g:Gst) (x:Ld):Prop where
 B:Bn g x.chunk
 lB:(3<=x.line\/x.line=0)->Bn g x.l/\g.M.F x.l 3=x.l
 n9:x.line=9->g.M.F x.n 3≠0
 n10:x.line=10\/x.line=11->g.M.F x.n 3=x.l
 dec:x.line=0->Dec g x.l (if x.alone=true then 0 else x.n)
theorem LdS.new {a:Int} (ha:Bn g a) (d:Bool):LdS c g (Ld.new c a d) :=
 ⟨ha,fun e=>by simp [Ld.new] at e,fun e=>by simp [Ld.new] at e,fun e=>by simp [Ld.new] at e,fun e=>by simp [Ld.new] at e⟩
theorem LdS.pre {y:Ld} (h:Bn g y.chunk) (hl:y.line=2):LdS c g y:=⟨h,fun e=>by omega,fun e=>by omega,fun e=>by omega,fun e=>by omega⟩
theorem LdS.mid {y:Ld} (h:Bn g y.chunk) (h2:Bn g y.l/\g.M.F y.l 3=y.l) (hl:y.line≠0/\y.line≠9/\y.line≠10/\y.line≠11):LdS c g y:=⟨h,fun _=>h2,fun e=>by omega,fun e=>by omega,fun e=>by omega⟩
theorem LdS.ext (hc:c.Ok) (h:OkG c g l) {g':Gst} {x:Ld} (hx:LdI c g x) (k:LdS c g x) (e:Ext c g g'):LdS c g' x:=by
 have h15:=h.p15 hc
 have lk:(3<=x.line\/x.line=0)->Bn g' x.l/\g'.M.F x.l 3=x.l:=fun q=>by obtain ⟨k1,k2⟩:=k.lB q;have:=h15 _ (hx.l q);exact ⟨e.bn _ k1,by rw [e.ld _ (hx.l q) Ly];exact k2⟩
 refine ⟨e.bn _ k.B,lk,fun q=>?_,fun q=>?_,fun q=>(k.dec q).keep (hx.l (.inr q)) h15 e.K e.ld e.mt⟩
 ·have:=(hx.m8 Ly).1;rw [e.ld _ this (k.n9 q)];exact k.n9 q
 ·have h1:=(hx.m8 Ly).1;have:=h15 _ (hx.l (.inl Ly));rw [e.ld _ h1 (by rw [k.n10 q];omega)];exact k.n10 q
theorem LdI.led {x:Ld} (h:LdI c g x) (k:LdS c g x) (h0:x.line=0):Led c g x.three.1 x.three.2.1 x.three.2.2:=by
 obtain ⟨h1,h2⟩:=h.n5 (.inr h0);have hl:=h.l (.inr h0);obtain ⟨k1,k2⟩:=k.lB (.inr h0);have kd:=k.dec h0;unfold Ld.three;rw [qf Ly];rcases h.al h0 with ⟨q1,q2⟩ | ⟨q1,q2,q3,q4⟩
 ·rw [qg q1] at kd ⊢;exact ⟨hl,h1,k1,k2,kd,.inl ⟨rfl,by simp only;rw [q2,h2]⟩⟩
 ·rw [qf (by rw [q1];simp)] at kd ⊢;exact ⟨hl,h1,k1,k2,kd,.inr ⟨q2,h2,q3,q4⟩⟩
theorem LdI.eight (hc:c.Ok) (h:OkG c g l) {x:Ld} (h1:x.c=c) (h2:g.K x.chunk) (h3:g.K x.l) (h4:g.M.F x.l 2 % 2=1/\x.n=g.M.F x.l 2 / 2) (h5:g.M.F x.l 4=x.mate) (h6:x.mate≠0) (h7:x.alone=false):LdI c g x.eight:=by
 unfold Ld.eight;split
 ·exact ⟨h1,h2,fun e=>by simp [Ld.toAlone] at e,fun _=>h3,fun e=>by simp [Ld.toAlone] at e,fun _=>h4,fun e=>by simp [Ld.toAlone] at e,fun e=>by simp [Ld.toAlone] at e,fun e=>by simp [Ld.toAlone] at e,fun _=>.inl ⟨rfl,rfl⟩,by simp [Ld.toAlone],fun e=>by simp [Ld.toAlone] at e⟩
 ·rename_i hn;refine ⟨h1,h2,fun e=>by simp at e,fun _=>h3,fun e=>by simp at e,fun _=>h4,fun e=>by simp at e,fun _=>?_,fun e=>by simp at e,fun e=>by simp at e,by simp,fun _=>h7⟩;rcases h.ki.mt _ h3 with q | q | ⟨q1,q2,q3⟩
  ·omega
  ·omega
  ·simp only;rw [h4.2,q2];exact ⟨q1,rfl⟩
theorem LdS.eight (hc:c.Ok) (h:OkG c g l) {x:Ld} (h2:Bn g x.chunk) (h3:g.K x.l) (k:Bn g x.l/\g.M.F x.l 3=x.l) (h4:x.n=g.M.F x.l 2 / 2) (h5:g.M.F x.l 4=x.mate) (h6:x.mate≠0):LdS c g x.eight:=by
 unfold Ld.eight;split
 ·rename_i hn;refine ⟨h2,fun _=>k,fun e=>by simp [Ld.toAlone] at e,fun e=>by simp [Ld.toAlone] at e,fun _=>.inl ⟨rfl,.inl ?_⟩⟩;show g.M.F x.l 4=1;rcases h.ki.mt _ h3 with q | q | ⟨q1,q2,-⟩
  ·omega
  ·exact q
  ·have:=h.p15 hc _ q1;rcases hn with hn | hn
   ·exact h5.trans hn
   ·omega
 ·exact LdS.mid h2 k Ma
theorem LdI.step (hc:c.Ok) {s:St} (h:OkG c g s.l) {x:Ld} (hx:LdI c g x) (hS:LdS c g x):∃ g',Goes c g s.l g' (x.step s).2.l no2 no1/\LdI c g' (x.step s).1/\LdS c g' (x.step s).1:=by
 have same:=Goes.same h no2 no1;have hsz:=xk hc;have hkb:=Kq hc h hx.K;unfold Ld.step;by_cases hl:x.live=true
 ·rw [qg hl];unfold Ld.live at hl;simp only [Bool.and_eq_true,decide_eq_true_eq] at hl;have hna:=hx.na Ly
  have lS:3<=x.line->∀ g':Gst,Ext c g g'->Bn g' x.l/\g'.M.F x.l 3=x.l:=fun q g' e=>by obtain ⟨k1,k2⟩:=hS.lB (.inl q);have:=h.p15 hc _ (hx.l (.inl q));exact ⟨e.bn _ k1,by rw [e.ld _ (hx.l (.inl q)) Ly];exact k2⟩
  simp only;unfold Ld.act Ld.told Ld.next;by_cases l1:x.line=1
  ·rw [qg l1,qg l1,Zk Ly Ly]
   have mk:∀ g':Gst,Ext c g g'->g'.M.F x.chunk 3≠0->LdI c g' { x with line:=2 } /\ LdS c g' { x with line:=2 }:=fun g' e e3 =>
    ⟨⟨hx.cc,e.K _ hx.K,fun _=>e3,fun e=>by simp at e,fun e=>by simp at e,fun e=>by simp at e,fun e=>by simp at e,fun e=>by simp at e,fun e=>by simp at e,fun e=>by simp at e,by simp,fun _=>hna⟩,.pre (e.bn _ hS.B) rfl⟩
   cases hcn:s.can (x.chunk+3) 0 with
   | true =>
    have hp:=kr hcn;rw [h.rel.F _ hx.K 3 Ly Ly] at hp;rw [jq hcn];have G:=Sb hc h hx.K hp hS.B (.inl rfl) (.inl rfl);exact ⟨_,G,mk _ G.ext (by rw [show (g.set x.chunk 3 x.chunk).M.F x.chunk 3=x.chunk from upd_same _ _ _ _];omega)⟩
   | false=>rw [Qa hcn];exact ⟨g,same,mk _ (Ext.refl _ _) (Ur hc h hx.K Ly Ly hcn)⟩
  ·rw [qf l1,qf l1];by_cases l2:x.line=2
   ·rw [qg l2,qg l2,qg l2,rd hc h hx.K Ly Ly];refine ⟨g,same,⟨hx.cc,hx.K,fun e=>by simp at e,fun _=>?_,fun e=>by simp at e,fun e=>by simp at e,fun e=>by simp at e,fun e=>by simp at e,fun e=>by simp at e,fun e=>by simp at e,by simp,fun _=>hna⟩,.mid hS.B (h.bg.ld _ hx.K (hx.l2 l2)) Ma⟩;exact ((h.ki.ld _ hx.K).resolve_left (hx.l2 l2)).1
   ·rw [qf l2,qf l2,qf l2];have hK:=hx.l (.inl Ly);have hlb:=Kq hc h hK;have hxb:=q8f hc h hK;by_cases l3:x.line=3
    ·rw [qg l3,qg l3,qg l3,rd hc h hK Ly Ly];refine ⟨g,same,?_⟩;unfold K8;split
     ·rename_i e;rw [decide_eq_true_eq] at e;exact ⟨⟨hx.cc,hx.K,fun e=>by simp at e,fun _=>hK,fun e=>by simp at e,fun _=>⟨e,rfl⟩,fun e=>by simp at e,fun e=>by simp at e,fun e=>by simp at e,fun e=>by simp at e,by simp,fun _=>hna⟩,.mid hS.B (lS Ly _ (Ext.refl _ _)) Ma⟩
     ·rename_i e;rw [decide_eq_true_eq] at e;exact ⟨⟨hx.cc,hx.K,fun e=>by simp at e,fun _=>hK,fun _=>by simp only;omega,fun e=>by simp at e,fun e=>by simp at e,fun e=>by simp at e,fun e=>by simp at e,fun e=>by simp at e,by simp,fun _=>hna⟩,.mid hS.B (lS Ly _ (Ext.refl _ _)) Ma⟩
    ·rw [qf l3,qf l3,qf l3];by_cases l4:x.line=4
     ·rw [qg l4,qg l4,Zk Ly Ly]
      have mk:∀ g':Gst,Ext c g g'->LdI c g' { x with line:=3 } /\ LdS c g' { x with line:=3 }:=fun g' e =>
       ⟨⟨hx.cc,e.K _ hx.K,fun e=>by simp at e,fun _=>e.K _ hK,fun e=>by simp at e,fun e=>by simp at e,fun e=>by simp at e,fun e=>by simp at e,fun e=>by simp at e,fun e=>by simp at e,by simp,fun _=>hna⟩,.mid (e.bn _ hS.B) (lS Ly _ e) Ma⟩
      cases hcn:s.can (x.l+2) x.w with
      | true =>
       have hp:=kr hcn;rw [h.rel.F _ hK 2 Ly Ly] at hp;have hw:=hx.w4 l4;rw [jq hcn,q1u hw Ly Ly];have G:=Ra hc h (v:=x.w+1) (hS.lB (.inl Ly)).1 Ly Ly;exact ⟨_,G,mk _ G.ext⟩
      | false=>rw [Qa hcn];exact ⟨g,same,mk _ (Ext.refl _ _)⟩
     ·rw [qf l4,qf l4];obtain ⟨n1,n2⟩:=hx.n5 (.inl Ly);by_cases l5:x.line=5
      ·rw [qg l5,qg (show x.line=5\/x.line=7 from .inl l5),qg l5,rd hc h hK Ly Ly];refine ⟨g,same,?_⟩;split
       ·exact ⟨⟨hx.cc,hx.K,fun e=>by simp at e,fun _=>hK,fun e=>by simp at e,fun _=>⟨n1,n2⟩,fun e=>by simp at e,fun e=>by simp at e,fun e=>by simp at e,fun e=>by simp at e,by simp,fun _=>hna⟩,.mid hS.B (lS Ly _ (Ext.refl _ _)) Ma⟩
       ·rename_i e;exact ⟨LdI.eight (x:={ x with mate:=g.M.F x.l 4,line:=6 }) hc h hx.cc hx.K hK ⟨n1,n2⟩ rfl e hna,LdS.eight (x:={ x with mate:=g.M.F x.l 4,line:=6 }) hc h hS.B hK (lS Ly _ (Ext.refl _ _)) n2 rfl e⟩
      ·rw [qf l5,qf l5];by_cases l6:x.line=6
       ·rw [qg l6,qg l6,Zk Ly Ly]
        have mk:∀ g':Gst,Ext c g g'->g'.M.F x.l 4≠0->LdI c g' { x with drew:=true,line:=7 } /\ LdS c g' { x with drew:=true,line:=7 }:=fun g' e e4 =>
         ⟨⟨hx.cc,e.K _ hx.K,fun e=>by simp at e,fun _=>e.K _ hK,fun e=>by simp at e,fun _=>by simp only;rw [e.nm _ hK n1];exact ⟨n1,n2⟩,fun _=>e4,fun e=>by simp at e,fun e=>by simp at e,fun e=>by simp at e,by simp,fun _=>hna⟩,.mid (e.bn _ hS.B) (lS Ly _ e) Ma⟩
        cases hcn:s.can (x.l+4) 0 with
        | true =>
         have hp:=kr hcn;rw [h.rel.F _ hK 4 Ly Ly] at hp;rw [jq hcn]
         have hw:x.who=1\/(g.K x.who/\g.M.F x.l 2 / 2=x.who/\g.M.F x.l 2 % 2=1):=by
          unfold Ld.who;split
          ·rename_i e;right;rcases h.ki.nx _ hK with q | q
           ·omega
           ·rw [n2];exact ⟨q.1,rfl,n1⟩
          ·exact .inl rfl
         have hw0:x.who≠0:=by
          rcases hw with q | q
          ·omega
          ·have:=h.ki.pos hc q.1;omega
         have G:=q7q hc h hK hp hw;exact ⟨_,G,mk _ G.ext (by rw [show (g.set x.l 4 x.who).M.F x.l 4=x.who from upd_same _ _ _ _];exact hw0)⟩
        | false=>rw [Qa hcn];exact ⟨g,same,mk _ (Ext.refl _ _) (Ur hc h hK Ly Ly hcn)⟩
       ·rw [qf l6,qf l6];by_cases l7:x.line=7
        ·rw [qg l7,qg (show x.line=5\/x.line=7 from .inr l7),qg l7,rd hc h hK Ly Ly];exact ⟨g,same,LdI.eight (x:={ x with mate:=g.M.F x.l 4 }) hc h hx.cc hx.K hK ⟨n1,n2⟩ rfl (hx.m7 l7) hna,LdS.eight (x:={ x with mate:=g.M.F x.l 4 }) hc h hS.B hK (lS Ly _ (Ext.refl _ _)) n2 rfl (hx.m7 l7)⟩
        ·rw [qf l7,qf (show ¬ (x.line=5\/x.line=7) by omega),qf l7];obtain ⟨m1,m2⟩:=hx.m8 Ly;have hnb:=Kq hc h m1;have hnx:=q8f hc h m1;by_cases l8:x.line=8
         ·rw [qg l8,qg l8,Zk Ly Ly]
          have mk:∀ g':Gst,Ext c g g'->g'.M.F x.n 3≠0->LdI c g' { x with line:=9 } /\ LdS c g' { x with line:=9 }:=fun g' e e9 =>
           ⟨⟨hx.cc,e.K _ hx.K,fun e=>by simp at e,fun _=>e.K _ hK,fun e=>by simp at e,fun _=>by simp only;rw [e.nm _ hK n1];exact ⟨n1,n2⟩,fun e=>by simp at e,fun _=>⟨e.K _ m1,by rw [e.mt _ hK Ly];exact m2⟩,fun e=>by simp at e,fun e=>by simp at e,by simp,fun _=>hna⟩,e.bn _ hS.B,fun _=>lS Ly _ e,fun _=>e9,fun e=>by simp at e,fun e=>by simp at e⟩
          cases hcn:s.can (x.n+3) 0 with
          | true =>
           have hp:=kr hcn;rw [h.rel.F _ m1 3 Ly Ly] at hp;rw [jq hcn];have G:=Sb hc h m1 hp (hS.lB (.inl Ly)).1 (.inr ⟨m2,n1⟩) (.inr (hS.lB (.inl Ly)).2);exact ⟨_,G,mk _ G.ext (by rw [show (g.set x.n 3 x.l).M.F x.n 3=x.l from upd_same _ _ _ _];omega)⟩
          | false=>rw [Qa hcn];exact ⟨g,same,mk _ (Ext.refl _ _) (Ur hc h m1 Ly Ly hcn)⟩
         ·rw [qf l8,qf l8];by_cases l9:x.line=9
          ·rw [qg l9,qg l9,qg l9,rd hc h m1 Ly Ly];refine ⟨g,same,?_⟩;split
           ·rename_i e9;exact ⟨⟨hx.cc,hx.K,fun e=>by simp at e,fun _=>hK,fun e=>by simp at e,fun _=>⟨n1,n2⟩,fun e=>by simp at e,fun _=>⟨m1,m2⟩,fun e=>by simp at e,fun e=>by simp at e,by simp,fun _=>hna⟩,hS.B,fun _=>lS Ly _ (Ext.refl _ _),fun e=>by simp at e,fun _=>e9,fun e=>by simp at e⟩
           ·rename_i e9;exact ⟨⟨hx.cc,hx.K,fun e=>by simp [Ld.toAlone] at e,fun _=>hK,fun e=>by simp [Ld.toAlone] at e,fun _=>⟨n1,n2⟩,fun e=>by simp [Ld.toAlone] at e,fun e=>by simp [Ld.toAlone] at e,fun e=>by simp [Ld.toAlone] at e,fun _=>.inl ⟨rfl,rfl⟩,by simp [Ld.toAlone],fun e=>by simp [Ld.toAlone] at e⟩,hS.B,fun _=>lS Ly _ (Ext.refl _ _),fun e=>by simp [Ld.toAlone] at e,fun e=>by simp [Ld.toAlone] at e,fun _=>.inl ⟨rfl,.inr (by show g.K (g.M.F x.l 4)/\g.M.F (g.M.F x.l 4) 3≠0/\g.M.F (g.M.F x.l 4) 3≠x.l;rw [m2];exact ⟨m1,hS.n9 l9,e9⟩)⟩⟩
          ·rw [qf l9,qf l9,qf l9];by_cases l10:x.line=10
           ·rw [qg l10,qg l10,rd hc h m1 Ly Ly];refine ⟨g,same,?_⟩;unfold K8;split
            ·rename_i e;rw [decide_eq_true_eq] at e;exact ⟨⟨hx.cc,hx.K,fun e=>by simp at e,fun _=>hK,fun e=>by simp at e,fun _=>⟨n1,n2⟩,fun e=>by simp at e,fun e=>by simp at e,fun e=>by simp at e,fun _=>.inr ⟨hna,m1,e,rfl⟩,by simp,fun e=>by simp at e⟩,hS.B,fun _=>lS Ly _ (Ext.refl _ _),fun e=>by simp at e,fun e=>by simp at e,fun _=>.inr (by show g.K (if x.alone=true then 0 else x.n)/\g.M.F x.l 4=(if x.alone=true then 0 else x.n)/\g.M.F (if x.alone=true then 0 else x.n) 3=x.l;rw [qf (by rw [hna];simp)];exact ⟨m1,m2,hS.n10 (.inl l10)⟩)⟩
            ·rename_i e;rw [decide_eq_true_eq] at e;exact ⟨⟨hx.cc,hx.K,fun e=>by simp at e,fun _=>hK,fun e=>by simp at e,fun _=>⟨n1,n2⟩,fun e=>by simp at e,fun _=>⟨m1,m2⟩,fun _=>by simp only;omega,fun e=>by simp at e,by simp,fun _=>hna⟩,hS.B,fun _=>lS Ly _ (Ext.refl _ _),fun e=>by simp at e,fun _=>hS.n10 (.inl l10),fun e=>by simp at e⟩
           ·rw [qf l10,qf l10,Zk Ly Ly]
            have mk:∀ g':Gst,Ext c g g'->LdI c g' { x with line:=10 } /\ LdS c g' { x with line:=10 }:=fun g' e =>
             ⟨⟨hx.cc,e.K _ hx.K,fun e=>by simp at e,fun _=>e.K _ hK,fun e=>by simp at e,fun _=>by simp only;rw [e.nm _ hK n1];exact ⟨n1,n2⟩,fun e=>by simp at e,fun _=>⟨e.K _ m1,by rw [e.mt _ hK Ly];exact m2⟩,fun e=>by simp at e,fun e=>by simp at e,by simp,fun _=>hna⟩,e.bn _ hS.B,fun _=>lS Ly _ e,fun e=>by simp at e,fun _=>by have q:=hS.n10 (.inr Ly);show g'.M.F x.n 3=x.l;rw [e.ld _ m1 (by rw [q];omega)];exact q,fun e=>by simp at e⟩
            cases hcn:s.can (x.n+2) x.w with
            | true =>
             have hp:=kr hcn;rw [h.rel.F _ m1 2 Ly Ly] at hp;have hw:=hx.w11 Ly;rw [jq hcn,q1u hw Ly Ly]
             have hnB:Bn g x.n:=by have q:=h.bg.nx _ (hS.lB (.inl Ly)).1;rw [<- n2] at q;have:=h.p15 hc _ m1;exact q.resolve_left Ly
             have G:=Ra hc h (v:=x.w+1) hnB Ly Ly;exact ⟨_,G,mk _ G.ext⟩
            | false=>rw [Qa hcn];exact ⟨g,same,mk _ (Ext.refl _ _)⟩
 ·exact I7
structure SpI (c:Cf) (g:Gst) (x:Sp):Prop where
 cc:x.c=c
 K:g.K x.chunk
 m:x.mate=0\/g.K x.mate
 r:g.K x.repl/\g.M.F x.repl 0=g.M.F x.chunk 0
 m7:x.line=7->x.mate≠0
 cu:3<=x.line/\x.line<=5->g.K x.cur\/x.cur=zq c
 w4:x.line=4->x.w % 2=0/\x.w / 2=x.chunk
 n5:x.line=5->g.K x.n
 st:x.stuck=0\/g.K x.stuck
 ln:0<=x.line/\x.line<=8
theorem SpI.new {a m r:Int} (ha:g.K a) (hm:m=0\/g.K m) (hr:g.K r/\g.M.F r 0=g.M.F a 0):SpI c g (Sp.new c a m r) :=
 ⟨rfl,ha,hm,hr,fun e=>by simp [Sp.new] at e,fun e=>by simp [Sp.new] at e,fun e=>by simp [Sp.new] at e,fun e=>by simp [Sp.new] at e,.inl rfl,by simp [Sp.new]⟩
theorem SpI.ext {g':Gst} {x:Sp} (h:SpI c g x) (e:Ext c g g'):SpI c g' x :=
 ⟨h.cc,e.K _ h.K,h.m.imp id (e.K _),⟨e.K _ h.r.1,by rw [e.mn _ h.r.1,e.mn _ h.K];exact h.r.2⟩,h.m7,fun k=>(h.cu k).imp (e.K _) id,h.w4,fun k=>e.K _ (h.n5 k),h.st.imp id (e.K _),h.ln⟩
structure SpS (c:Cf) (g:Gst) (x:Sp):Prop where
 B:Bn g x.chunk
 mB:x.mate=0\/Bn g x.mate
 rp:g.M.F x.chunk 5=x.repl
 mm:3<=x.line/\x.line<=5->x.m=g.M.F x.chunk 0
 cB:3<=x.line/\x.line<=5->(Bn g x.cur/\g.M.F x.cur 0<g.M.F x.chunk 0)\/x.cur=zq c
 n5:x.line=5->Bn g x.n/\(x.chunk∈g.L->g.M.F x.n 0<g.M.F x.chunk 0)
 g6:6<=x.line->x.chunk∉g.L
 sB:x.stuck=0\/Bn g x.stuck
theorem SpS.new {a m r:Int} (ha:Bn g a) (hm:m=0\/Bn g m) (hr:g.M.F a 5=r):SpS c g (Sp.new c a m r) :=
 ⟨ha,hm,hr,fun e=>by simp [Sp.new] at e,fun e=>by simp [Sp.new] at e,fun e=>by simp [Sp.new] at e,fun e=>by simp [Sp.new] at e,.inl rfl⟩
theorem SpS.ext (hc:c.Ok) (h:OkG c g l) {g':Gst} {x:Sp} (hx:SpI c g x) (k:SpS c g x) (e:Ext c g g'):SpS c g' x:=by
 have:=h.p15 hc _ hx.r.1;refine ⟨e.bn _ k.B,k.mB.imp id (e.bn _),by rw [e.rp _ hx.K (by rw [k.rp];omega)];exact k.rp,fun q=>by rw [e.mn _ hx.K];exact k.mm q,fun q=>?_,fun q=>?_,fun q=>e.gone _ k.B (k.g6 q),k.sB.imp id (e.bn _)⟩
 ·rcases k.cB q with ⟨k1,k2⟩ | k1
  ·exact .inl ⟨e.bn _ k1,by rw [e.mn _ (k1.K h),e.mn _ hx.K];exact k2⟩
  ·exact .inr k1
 ·obtain ⟨k1,k2⟩:=k.n5 q;refine ⟨e.bn _ k1,fun k3=>?_⟩;rw [e.mn _ (k1.K h),e.mn _ hx.K];exact k2 (Classical.byContradiction fun k4=>e.gone _ k.B k4 k3)
theorem SpI.step (hc:c.Ok) {s:St} (h:OkG c g s.l) {x:Sp} (hx:SpI c g x) (hS:SpS c g x):∃ g',Goes c g s.l g' (x.step s).2.l no2 no1/\SpI c g' (x.step s).1/\SpS c g' (x.step s).1:=by
 have same:=Goes.same h no2 no1;have hsz:=xk hc;have hkb:=Kq hc h hx.K;have ht:=hc.t1;have ht8:=hc.t8;unfold Sp.step;by_cases hl:x.live=true
 ·rw [qg hl];unfold Sp.live at hl;simp only [Bool.or_eq_true,Bool.and_eq_true,decide_eq_true_eq] at hl
  have toHead:∀ y:Sp,y.c=c->y.chunk=x.chunk->y.mate=x.mate->y.repl=x.repl->y.stuck=x.stuck->y.m=g.M.F x.chunk 0->SpI c g y.head/\SpS c g y.head:=fun y e1 e2 e3 e4 e5 e6 =>
   ⟨⟨e1,by show g.K y.chunk;rw [e2];exact hx.K,by show y.mate=0\/g.K y.mate;rw [e3];exact hx.m,by show g.K y.repl/\g.M.F y.repl 0=g.M.F y.chunk 0;rw [e4,e2];exact hx.r,fun e=>by simp [Sp.head] at e,fun _=>.inr Oq,fun e=>by simp [Sp.head] at e,fun e=>by simp [Sp.head] at e,by show y.stuck=0\/g.K y.stuck;rw [e5];exact hx.st,by simp [Sp.head]⟩,
    by show Bn g y.chunk;rw [e2];exact hS.B,by show y.mate=0\/Bn g y.mate;rw [e3];exact hS.mB,by show g.M.F y.chunk 5=y.repl;rw [e2,e4];exact hS.rp,fun _=>by show y.m=g.M.F y.chunk 0;rw [e2];exact e6,fun _=>.inr Oq,fun e=>by simp [Sp.head] at e,fun e=>by simp [Sp.head] at e,by show y.stuck=0\/Bn g y.stuck;rw [e5];exact hS.sB⟩
  simp only;unfold Sp.act Sp.told Sp.next;by_cases l1:x.line=1
  ·rw [qg l1,qg l1,qg l1];exact ⟨g,same,toHead _ hx.cc rfl rfl rfl rfl (rd0 hc h hx.K)⟩
  ·rw [qf l1,qf l1,qf l1];by_cases l3:x.line=3
   ·rw [qg l3,qg l3,qg l3];have hcu:=hx.cu Ly;refine ⟨g,same,?_⟩;unfold K8 atW
    have fact:∀ v,v=qx s.l (wrap64 (x.cur+2))->(v % 2=1->g.K x.cur)/\(v / 2=0\/g.K (v / 2)):=fun v hv=>by
     rcases hcu with q | q
     ·rw [rd hc h q Ly Ly] at hv;refine ⟨fun _=>q,?_⟩;rw [hv];rcases h.ki.nx _ q with k | k
      ·exact .inl k.1
      ·exact .inr k.1
     ·obtain ⟨a,ha,e1,e2⟩:=h.ki.hd
      have hp:qx s.l (wrap64 (x.cur+2))=2 * a:=Hq
      rw [hp] at hv;exact ⟨fun k=>by omega,.inr (by rw [show v / 2=a by omega];exact ha)⟩
    obtain ⟨f1,f2⟩:=fact _ rfl;have hcB:=hS.cB Ly;have hmm:=hS.mm Ly;have h15:=h.p15 hc
    have fact2:∀ v,v=qx s.l (wrap64 (x.cur+2))->(v % 2=1->Bn g x.cur)/\(¬ v % 2=1->v / 2=0->x.chunk∉g.L)/\(¬ v % 2=1->¬ v / 2=0->¬ v / 2=x.chunk->Bn g (v / 2)/\(x.chunk∈g.L->g.M.F (v / 2) 0<g.M.F x.chunk 0)):=fun v hv=>by
     have hcm:=h.ki.mn _ hx.K;rcases hcB with ⟨q,q2⟩ | q
     ·have qK:=q.K h;rw [rd hc h qK Ly Ly] at hv;have qm:=h.ki.mn _ qK;have inL:¬ v % 2=1->x.cur∈g.L:=fun k=>q.resolve_right (fun k2=>k (by rw [hv];exact k2.2.1))
      refine ⟨fun _=>q,fun k k2 k3=>?_,fun k k2 k3=>?_⟩
      ·rcases h.ki.nx _ qK with ⟨e1,e2⟩ | ⟨e1,e2⟩
       ·rcases h.tri hc (inL k) k3 (fun e=>by rw [e] at q2;omega) with r | r
        ·omega
        ·omega
       ·rw [<- hv,k2] at e1;have:=h15 _ e1;omega
      ·have hnB:=(h.bg.nx _ q).resolve_left (by rw [<- hv];exact k2);rw [<- hv] at hnB;refine ⟨hnB,fun k4=>?_⟩;rcases h.ki.nx _ qK with ⟨e1,e2⟩ | ⟨e1,e2⟩
       ·rw [<- hv] at e1;exact absurd e1 k2
       ·rw [<- hv] at e1 e2
        have nL:v / 2∈g.L:=by
         rcases Jy h.bg.cl (inL k) with r | r
         ·rw [<- hv] at r;exact absurd r k2
         ·rw [<- hv] at r;exact r
        have nm:=h.ki.mn _ e1;rcases h.tri hc (inL k) k4 (fun e=>by rw [e] at q2;omega) with r | r
        ·rcases h.tri hc nL k4 k3 with r2 | r2
         ·omega
         ·omega
        ·omega
     ·obtain ⟨a,ha,e1,e2⟩:=h.ki.hd
      have hp:qx s.l (wrap64 (x.cur+2))=2 * a:=Hq
      rw [hp] at hv;have ev:v / 2=a:=by omega
      have:=h15 _ ha
      have aL:a∈g.L:=by have k:=h.bg.cl;rw [e1,show 2 * a / 2=a by omega] at k;exact Fe
      refine ⟨fun k=>by omega,fun k k2=>by omega,fun k k2 k3=>?_⟩;rw [ev] at k3 ⊢;refine ⟨.inl aL,fun k4=>?_⟩;have am:=h.ki.mn _ ha;rcases h.tri hc aL k4 k3 with r | r
      ·omega
      ·omega
    obtain ⟨p1,p2,p3⟩:=fact2 _ rfl;generalize qx s.l (wrap64 (x.cur+2))=v at *;split
    ·rename_i e;rw [decide_eq_true_eq] at e;exact ⟨⟨hx.cc,hx.K,hx.m,hx.r,fun e=>by simp at e,fun e=>by simp at e,fun e=>by simp at e,fun e=>by simp at e,.inr (f1 e),by simp⟩,hS.B,hS.mB,hS.rp,fun e=>by simp at e,fun e=>by simp at e,fun e=>by simp at e,fun e=>by simp at e,.inr (p1 e)⟩
    ·rename_i e;rw [decide_eq_true_eq] at e;split
     ·rename_i e2;exact ⟨⟨hx.cc,hx.K,hx.m,hx.r,fun e=>by simp at e,fun e=>by simp at e,fun e=>by simp at e,fun e=>by simp at e,hx.st,by simp⟩,hS.B,hS.mB,hS.rp,fun e=>by simp at e,fun e=>by simp at e,fun e=>by simp at e,fun _=>p2 e e2,hS.sB⟩
     ·rename_i e2;split
      ·rename_i e3;exact ⟨⟨hx.cc,hx.K,hx.m,hx.r,fun e=>by simp at e,fun _=>hcu,fun _=>⟨by simp only;omega,e3⟩,fun e=>by simp at e,hx.st,by simp⟩,hS.B,hS.mB,hS.rp,fun _=>hmm,fun _=>hcB,fun e=>by simp at e,fun e=>by simp at e,hS.sB⟩
      ·rename_i e3;exact ⟨⟨hx.cc,hx.K,hx.m,hx.r,fun e=>by simp at e,fun _=>hcu,fun e=>by simp at e,fun _=>f2.resolve_left e2,hx.st,by simp⟩,hS.B,hS.mB,hS.rp,fun _=>hmm,fun _=>hcB,fun _=>p3 e e2 e3,fun e=>by simp at e,hS.sB⟩
   ·rw [qf l3,qf l3,qf l3];by_cases l4:x.line=4
    ·rw [qg l4,qg l4,qg l4];obtain ⟨w1,w2⟩:=hx.w4 l4;have hrb:=Kq hc h hx.r.1;have hnw:jv x.repl false=2 * x.repl:=by unfold jv hd;simp only [Bool.false_eq_true,if_false];omega
     rw [hnw];have hrp:=hS.rp;have h5:g.M.F x.chunk 5≠0:=by rw [hrp];omega
     have mk:∀ g':Gst,Ext c g g'->x.chunk∉g'.L->SpI c g' { x with line:=6 } /\ SpS c g' { x with line:=6 }:=fun g' e eg =>
      ⟨⟨hx.cc,e.K _ hx.K,hx.m.imp id (e.K _),⟨e.K _ hx.r.1,by simp only;rw [e.mn _ hx.r.1,e.mn _ hx.K];exact hx.r.2⟩,fun e=>by simp at e,fun e=>by simp at e,fun e=>by simp at e,fun e=>by simp at e,hx.st.imp id (e.K _),by simp⟩,e.bn _ hS.B,hS.mB.imp id (e.bn _),by show g'.M.F x.chunk 5=x.repl;rw [e.rp _ hx.K h5];exact hrp,fun e=>by simp at e,fun e=>by simp at e,fun e=>by simp at e,fun _=>eg,hS.sB.imp id (e.bn _)⟩
     cases hcn:s.can (wrap64 (x.cur+2)) x.w with
     | true =>
      have hp:=kr hcn;simp only [if_true];rw [jq hcn];rcases hS.cB Ly with ⟨q,q2⟩ | q
      ·have qK:=q.K h;have hqb:=Kq hc h qK;rw [rd hc h qK Ly Ly] at hp;rw [Zk Ly Ly];have hev:g.M.F x.cur 2 % 2=0:=by omega
       have qL:x.cur∈g.L:=q.resolve_right (fun k=>by omega);have hnx:g.M.F x.cur 2 / 2=x.chunk:=by omega
       have cL:x.chunk∈g.L:=by
        rcases Jy h.bg.cl qL with r | r
        ·rw [hnx] at r;omega
        ·rw [hnx] at r;exact r
       obtain ⟨g',G,e1,-⟩:=q93 hc h qL hev hnx cL h5;exact Ib
      ·obtain ⟨a,ha,e1,e2⟩:=h.ki.hd;have e0:wrap64 (x.cur+2)=zq c+2:=by rw [q,Zk Mw Mw]
       rw [e0,h.rel.hn] at hp;rw [e0];obtain ⟨g',G,e1,-⟩:=q5d hc h (a:=x.chunk) Ly h5;exact Ib
     | false =>
      simp only [Bool.false_eq_true,if_false];rw [Qa hcn,qf Ly];exact ⟨g,same,toHead _ hx.cc rfl rfl rfl rfl (hS.mm Ly)⟩
    ·rw [qf l4,qf l4,qf l4];by_cases l5:x.line=5
     ·rw [qg l5,qg l5];refine ⟨g,same,?_⟩;have hn:=hx.n5 l5;obtain ⟨n1,n2⟩:=hS.n5 l5;have hmm:=hS.mm Ly;rw [rd0 hc h hn];split
      ·rename_i e0;exact ⟨⟨hx.cc,hx.K,hx.m,hx.r,fun e=>by simp at e,fun e=>by simp at e,fun e=>by simp at e,fun e=>by simp at e,hx.st,by simp⟩,hS.B,hS.mB,hS.rp,fun e=>by simp at e,fun e=>by simp at e,fun e=>by simp at e,fun _ k=>by have:=n2 k;omega,hS.sB⟩
      ·rename_i e0;exact ⟨⟨hx.cc,hx.K,hx.m,hx.r,fun e=>by simp at e,fun _=>.inl hn,fun e=>by simp at e,fun e=>by simp at e,hx.st,by simp⟩,hS.B,hS.mB,hS.rp,fun _=>hmm,fun _=>.inl ⟨n1,by show g.M.F x.n 0<g.M.F x.chunk 0;omega⟩,fun e=>by simp at e,fun e=>by simp at e,hS.sB⟩
     ·rw [qf l5,qf l5];have hrp:=hS.rp;have hrb:=Kq hc h hx.r.1;have gL:=hS.g6 Ly
      have mk:∀ (g':Gst) (n:Int),Ext c g g'->(n=7->x.mate≠0)->(n=0\/n=7\/n=8)->SpI c g' { x with line:=n } /\ SpS c g' { x with line:=n }:=fun g' n e e7 en =>
       ⟨⟨hx.cc,e.K _ hx.K,hx.m.imp id (e.K _),⟨e.K _ hx.r.1,by simp only;rw [e.mn _ hx.r.1,e.mn _ hx.K];exact hx.r.2⟩,e7,fun e=>by simp only at e;omega,fun e=>by simp only at e;omega,fun e=>by simp only at e;omega,hx.st.imp id (e.K _),by simp only;omega⟩,e.bn _ hS.B,hS.mB.imp id (e.bn _),by show g'.M.F x.chunk 5=x.repl;rw [e.rp _ hx.K (by rw [hrp];omega)];exact hrp,fun e=>by simp only at e;omega,fun e=>by simp only at e;omega,fun e=>by simp only at e;omega,fun _=>e.gone _ hS.B gL,hS.sB.imp id (e.bn _)⟩
      by_cases l6:x.line=6
      ·rw [qg l6,qg l6,Xd,Zk Ly Ly];have G:=X7 hc h 2 hS.B Ly;refine ⟨_,G,?_⟩;split
       ·exact mk _ 8 G.ext Ly Ly
       ·rename_i e;exact mk _ 7 G.ext (fun _=>e) Ly
      ·rw [qf l6,qf l6];by_cases l7:x.line=7
       ·have hm:=hx.m.resolve_left (hx.m7 l7);have hmb:=Kq hc h hm;rw [qg l7,qg l7,Xd,Zk Ly Ly];have G:=X7 hc h 2 (hS.mB.resolve_left (hx.m7 l7)) Ly;exact ⟨_,G,mk _ 8 G.ext Ly Ly⟩
       ·rw [qf l7,qf l7,Xd];have e:x.hint=3+c.t+hd x.m 0 63 / 16:=by unfold Sp.hint yn;rw [hx.cc]
        rw [e];have hB:=(h.bg.rp x.chunk hx.K (by rw [hrp];omega)).rb gL;rw [hrp] at hB;have G:=q5o hc h (k:=hd x.m 0 63 / 16) (by unfold hd;omega) hB;exact ⟨_,G,mk _ 0 G.ext Ly Ly⟩
 ·exact I7
end
end Go.Proofs.YtbddhncgemeohaaGreatDoor.Mx
