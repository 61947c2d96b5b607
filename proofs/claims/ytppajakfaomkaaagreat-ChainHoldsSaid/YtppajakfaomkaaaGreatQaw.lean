/- Parts. -/
import Derived.Test.YtppajakfaomkaaaGreatQag
import Derived.Test.YtppajakfaomkaaaGreatQao
import Derived.Test.YtppajakfaomkaaaGreatQav
set_option linter.unusedVariables false
set_option linter.unusedSimpArgs false
set_option maxRecDepth 100000
set_option maxHeartbeats 12800000
namespace Go.Proofs.YtppajakfaomkaaaGreat.Mx
open Go.RowKit Ar Ref Og Mp
section
variable {c:Cf} {g:Gst} {l:List Int}
structure LkI (c:Cf) (g:Gst) (x:Lok):Prop where
 cc:x.c=c
 K:g.K x.chunk
 ok:Xr x
theorem LkI.ext {g':Gst} {x:Lok} (h:LkI c g x) (e:Ext c g g'):LkI c g' x:=⟨h.cc,e.K _ h.K,h.ok⟩
theorem LkI.new (hc:c.Ok) {a:Int} (ha:g.K a) (lo hi most:Int):LkI c g (Lok.new c a lo hi most):=⟨rfl,ha,Xr.new hc _ _ _ _⟩
theorem Jn (x:Lok):x.on.c=x.c/\x.on.chunk=x.chunk/\x.on.lo=x.lo/\x.on.hi=x.hi/\x.on.most=x.most:=by
 unfold Lok.on;split <;> exact ⟨rfl,rfl,rfl,rfl,rfl⟩
theorem Kn (x:Lok):x.seven.c=x.c/\x.seven.chunk=x.chunk/\x.seven.lo=x.lo/\x.seven.hi=x.hi/\x.seven.most=x.most:=by
 unfold Lok.seven;split
 ·exact Jn _
 ·exact ⟨rfl,rfl,rfl,rfl,rfl⟩
theorem Y7 (x:Lok) (v:Int):(x.next v).c=x.c/\(x.next v).chunk=x.chunk/\(x.next v).lo=x.lo/\(x.next v).hi=x.hi/\(x.next v).most=x.most:=by
 unfold Lok.next
 repeat' split
 all_goals first | exact ⟨rfl,rfl,rfl,rfl,rfl⟩ | exact Jn _ | exact Kn _
theorem LkI.step (hc:c.Ok) {s:St} (h:OkG c g s.l) {x:Lok} (hx:LkI c g x):∃ g',Goes c g s.l g' (x.step s).2.l no2 no1/\LkI c g' (x.step s).1:=by
 have hok:=hx.ok.step s
 have fin:∀ g':Gst,Ext c g g'->LkI c g' (x.step s).1:=fun g' e=>by
  refine ⟨?_,?_,hok⟩
  ·unfold Lok.step;split
   ·exact (Y7 _ _).1.trans hx.cc
   ·exact hx.cc
  ·unfold Lok.step;split
   ·show g'.K (x.next (x.told s)).chunk
    rw [(Y7 _ _).2.1];exact e.K _ hx.K
   ·exact e.K _ hx.K
 by_cases hl:x.live=true
 ·have e2:(x.step s).2=x.act s:=by unfold Lok.step;rw [qf hl]
  rw [e2]
  unfold Lok.live at hl
  simp only [Bool.and_eq_true,decide_eq_true_eq] at hl
  by_cases l5:x.line=5
  ·have hi:=hx.ok.two (by omega)
   have hi2:=hx.ok.cnt
   rw [hx.cc] at hi2
   have h3:0<=x.i/\x.i<c.c:=⟨hx.ok.i0,by omega⟩
   obtain ⟨sa,sz7,sz9⟩:=qan hc h hx.K h3
   have hsa:x.sa=x.chunk+(7+3 * x.i):=sa
   have hrd:qq s.l x.sa=g.M.F x.chunk (7+3 * x.i):=by rw [hsa];exact h.rel.F _ hx.K _ (by omega) (by omega)
   have ea:x.act s=s.swap x.sa 1 (vz x.g):=by unfold Lok.act;rw [qd (by omega),qd (by omega),qd (by omega),qd (by omega),qf l5]
   rw [ea]
   cases hcn:s.can x.sa 1 with
   | true =>
    have hp:=jy hcn
    rw [hrd] at hp
    rw [jk hcn,hsa]
    have G:=Vq hc h hx.K h3 (v:=vz x.g) (.inr ⟨hp,Y1 _⟩)
    exact ⟨_,G,fin _ G.ext⟩
   | false=>rw [Q8 hcn];exact ⟨g,Goes.same h _ _,fin _ (Ext.refl _ _)⟩
  ·have ea:(x.act s).l=s.l:=by unfold Lok.act;(repeat' split);all_goals first | rfl | exact absurd ‹_› l5
   rw [ea];exact ⟨g,Goes.same h _ _,fin _ (Ext.refl _ _)⟩
 ·have e2:(x.step s).2=s:=by unfold Lok.step;rw [qd hl]
  rw [e2];exact ⟨g,Goes.same h _ _,fin _ (Ext.refl _ _)⟩
structure GtI (c:Cf) (g:Gst) (x:Gt):Prop where
 cc:x.c=c
 key:0<=x.key/\x.key<=63
 w:x.l=none->WkI c g x.w
 l:∀ y,x.l=some y->LkI c g y
theorem GtI.new {key:Int} (hk:0<=key/\key<=63):GtI c g (Gt.new c key):=⟨rfl,hk,fun _=>WkI.new hk,fun y e=>by cases e⟩
theorem GtI.ext {g':Gst} {x:Gt} (h:GtI c g x) (e:Ext c g g') (hh:¬ g'.K (yg c)):GtI c g' x :=
 ⟨h.cc,h.key,fun k=>(h.w k).ext e hh,fun y k=>(h.l y k).ext e⟩
theorem GtI.step (hc:c.Ok) {s:St} (h:OkG c g s.l) {x:Gt} (hx:GtI c g x):∃ g',Goes c g s.l g' (x.step s).2.l no2 no1/\GtI c g' (x.step s).1:=by
 unfold Gt.step
 by_cases ho:x.over=true
 ·rw [qf ho];exact ⟨g,Goes.same h _ _,hx⟩
 ·rw [qd ho]
  cases hl:x.l with
  | some y =>
   obtain ⟨g',G,k⟩:=(hx.l y hl).step hc h
   exact ⟨g',G,⟨hx.cc,hx.key,fun e=>(by cases e),fun z e=>(by cases e;exact k)⟩⟩
  | none =>
   have k:=(hx.w hl).step hc h
   have ea:=Um x.w s
   simp only
   rw [ea]
   refine ⟨g,Goes.same h _ _,?_⟩
   split
   ·rename_i e0
    refine ⟨hx.cc,hx.key,fun e=>(by cases e),fun z e=>?_⟩
    cases e;rw [hx.cc];exact LkI.new hc (k.e0 e0).1 _ _ _
   ·exact ⟨hx.cc,hx.key,fun _=>k,fun z e=>(by cases e)⟩
structure KmI (c:Cf) (x:Km):Prop where
 t:0<=x.t/\x.t<c.t
theorem q6h (x:Km) (v:Int):(x.next v).t=x.t:=by
 unfold Km.next;repeat' split
 all_goals rfl
theorem q00 (hc:c.Ok) {s:St} (h:OkG c g s.l) {p:Int} (o v:Int) (hp:0<=p/\p<3+c.t/\p≠2):Goes c g s.l g (s.swap p o v).l no2 no1:=by
 cases hcn:s.can p o with
 | true=>rw [jk hcn];exact X7 hc h v hp
 | false=>rw [Q8 hcn];exact Goes.same h _ _
theorem KmI.step (hc:c.Ok) {s:St} (h:OkG c g s.l) {x:Km} (hx:KmI c x):Goes c g s.l g (x.step s).2.l no2 no1/\KmI c (x.step s).1:=by
 have ht:=hx.t
 have hp:0<=x.pa/\x.pa<3+c.t/\x.pa≠2:=by unfold Km.pa qay;omega
 unfold Km.step
 split
 ·refine ⟨?_,⟨by show 0<=(x.next _).t/\(x.next _).t<c.t;rw [q6h];exact ht⟩⟩
  simp only
  unfold Km.act
  repeat' split
  ·exact Goes.same h _ _
  ·exact X7 hc h _ hp
  ·exact X7 hc h _ ⟨by omega,by omega,by omega⟩
  ·exact q00 hc h _ _ hp
  ·exact Goes.same h _ _
 ·exact ⟨Goes.same h _ _,hx⟩
structure NdI (c:Cf) (x:Nd):Prop where
 cc:x.c=c
 t0:0<=x.t
 t1:x.live=true->x.t<c.t
theorem NdI.new (hc:c.Ok):NdI c (Nd.new c):=⟨rfl,by simp [Nd.new],fun _=>by have:=hc.t1;simp only [Nd.new];omega⟩
theorem nd_on {x:Nd} (h:x.c=c) (h0:0<=x.t):NdI c x.on:=by
 unfold Nd.on
 split
 ·exact ⟨h,by simp only;omega,fun k=>by simp [Nd.live] at k⟩
 ·exact ⟨h,by simp only;omega,fun k=>by simp only;rw [h] at *;omega⟩
theorem qd6 {x:Nd} (h:NdI c x) (h1:x.t<c.t) (v:Int):NdI c (x.next v):=by
 unfold Nd.next
 repeat' split
 all_goals first | exact ⟨h.cc,h.t0,fun _=>h1⟩ | exact nd_on h.cc h.t0
theorem NdI.step (hc:c.Ok) {s:St} (h:OkG c g s.l) {x:Nd} (hx:NdI c x):Goes c g s.l g (x.step s).2.l no2 no1/\NdI c (x.step s).1:=by
 unfold Nd.step
 split
 ·rename_i hl
  have h1:=hx.t1 hl
  have h0:=hx.t0
  have hp:0<=x.pa/\x.pa<3+c.t/\x.pa≠2:=by unfold Nd.pa qay;omega
  refine ⟨?_,qd6 hx h1 _⟩
  simp only
  unfold Nd.act
  repeat' split
  ·exact Goes.same h _ _
  ·exact X7 hc h _ ⟨by omega,by omega,by omega⟩
  ·exact q00 hc h _ _ hp
  ·exact Goes.same h _ _
 ·exact ⟨Goes.same h _ _,hx⟩
structure SnI (c:Cf) (g:Gst) (x:Sn):Prop where
 cc:x.c=c
 t:0<=x.t/\x.t<c.t
 lo:0<=x.lo/\x.lo<=63
 k:KmI c x.k
 w:x.line=11->∀ y,x.w=some y->WkI c g y
 l:x.line=1->∀ y,x.l=some y->LkI c g y
 a2:x.line=1\/x.line=2->g.K x.at_
 n3:x.line=3->g.K x.n
theorem SnI.new {t seq lo hi:Int} (ht:0<=t/\t<c.t) (hk:0<=lo/\lo<=63):SnI c g (Sn.new c t seq lo hi) :=
 ⟨rfl,ht,hk,⟨ht⟩,fun e=>by simp [Sn.new] at e,fun e=>by simp [Sn.new] at e,fun e=>by simp [Sn.new] at e,fun e=>by simp [Sn.new] at e⟩
theorem SnI.ext {g':Gst} {x:Sn} (h:SnI c g x) (e:Ext c g g') (hh:¬ g'.K (yg c)):SnI c g' x :=
 ⟨h.cc,h.t,h.lo,h.k,fun k y q=>(h.w k y q).ext e hh,fun k y q=>(h.l k y q).ext e,fun k=>e.K _ (h.a2 k),fun k=>e.K _ (h.n3 k)⟩
theorem q2g (hc:c.Ok) {x:Sn} (h1:x.c=c) (h2:0<=x.t/\x.t<c.t) (h3:0<=x.lo/\x.lo<=63) (h4:KmI c x.k) {a:Int} (ha:g.K a):SnI c g (x.chunk a):=by
 refine ⟨h1,h2,h3,h4,fun e=>by simp [Sn.chunk] at e,fun _ y e=>?_,fun _=>ha,fun e=>by simp [Sn.chunk] at e⟩
 unfold Sn.chunk at e
 cases e
 rw [h1];exact LkI.new hc ha _ _ _
theorem SnI.step (hc:c.Ok) {s:St} (h:OkG c g s.l) {x:Sn} (hx:SnI c g x):∃ g',Goes c g s.l g' (x.step s).2.l no2 no1/\SnI c g' (x.step s).1:=by
 have same:=Goes.same h no2 no1
 have ht:=hx.t
 unfold Sn.step
 by_cases l10:x.line=10
 ·rw [qf l10]
  split
  ·exact ⟨g,same,⟨hx.cc,hx.t,hx.lo,hx.k,fun e=>by simp at e,fun e=>by simp at e,fun e=>by simp at e,fun e=>by simp at e⟩⟩
  ·obtain ⟨G,k⟩:=hx.k.step hc h
   refine ⟨g,G,?_⟩
   simp only
   split
   ·refine ⟨hx.cc,hx.t,hx.lo,k,fun _ y e=>?_,fun e=>?_,fun e=>?_,fun e=>?_⟩
    ·cases e;rw [hx.cc];exact WkI.new hx.lo
    ·simp only at e;split at e <;> omega
    ·simp only at e;split at e <;> omega
    ·simp only at e;split at e <;> omega
   ·exact ⟨hx.cc,hx.t,hx.lo,k,fun e=>by simp only at e;omega,fun e=>by simp only at e;omega,fun e=>by simp only at e;omega,fun e=>by simp only at e;omega⟩
 ·rw [qd l10]
  by_cases l11:x.line=11
  ·rw [qf l11]
   cases hw:x.w with
   | none=>exact ⟨g,same,hx⟩
   | some y =>
    have k:=(hx.w l11 y hw).step hc h
    have ea:=Um y s
    simp only
    rw [ea]
    refine ⟨g,same,?_⟩
    split
    ·rename_i e0
     exact q2g (x:={ x with w:=some (y.step s).1 }) hc hx.cc hx.t hx.lo hx.k (k.e0 e0).1
    ·exact ⟨hx.cc,hx.t,hx.lo,hx.k,fun _ z e=>by cases e;exact k,fun e=>by simp only at e;omega,fun e=>by simp only at e;omega,fun e=>by simp only at e;omega⟩
  ·rw [qd l11]
   by_cases l1:x.line=1
   ·rw [qf l1]
    cases hl:x.l with
    | none=>exact ⟨g,same,hx⟩
    | some y =>
     obtain ⟨g',G,k⟩:=(hx.l l1 y hl).step hc h
     have ha:=G.ext.K _ (hx.a2 (.inl l1))
     refine ⟨g',G,?_⟩
     simp only
     split
     ·exact ⟨hx.cc,hx.t,hx.lo,hx.k,fun e=>by simp at e,fun e=>by simp at e,fun _=>ha,fun e=>by simp at e⟩
     ·exact ⟨hx.cc,hx.t,hx.lo,hx.k,fun e=>by simp only at e;omega,fun _ z e=>by cases e;exact k,fun _=>ha,fun e=>by simp only at e;omega⟩
   ·rw [qd l1]
    by_cases l2:x.line=2
    ·rw [qf l2]
     have ha:=hx.a2 (.inr l2)
     rw [rd hc h ha (by omega) (by have:=xo hc;omega)]
     refine ⟨g,same,hx.cc,hx.t,hx.lo,hx.k,fun e=>?_,fun e=>?_,fun e=>?_,fun e=>?_⟩
     ·simp only at e;split at e <;> omega
     ·simp only at e;split at e <;> omega
     ·simp only at e;split at e <;> omega
     ·simp only at e ⊢
      unfold atW at *
      rcases h.ki.nx _ ha with q | q
      ·rw [qf q.1] at e;omega
      ·exact q.1
    ·rw [qd l2]
     by_cases l3:x.line=3
     ·rw [qf l3]
      refine ⟨g,same,?_⟩
      simp only
      split
      ·exact q2g hc hx.cc hx.t hx.lo hx.k (hx.n3 l3)
      ·exact ⟨hx.cc,hx.t,hx.lo,hx.k,fun e=>by simp at e,fun e=>by simp at e,fun e=>by simp at e,fun e=>by simp at e⟩
     ·rw [qd l3]
      by_cases l4:x.line=4
      ·rw [qf l4]
       exact ⟨g,X7 hc h _ (by unfold qay;omega),⟨hx.cc,hx.t,hx.lo,hx.k,fun e=>by simp at e,fun e=>by simp at e,fun e=>by simp at e,fun e=>by simp at e⟩⟩
      ·rw [qd l4];exact ⟨g,same,hx⟩
end
end Go.Proofs.YtppajakfaomkaaaGreat.Mx
namespace Go.Proofs.YtppajakfaomkaaaGreat.Vw
open Go.RowKit Ar Mx
theorem qau (t wd v a:Int) (n p q:Nat) (s:St) (w:World) (h1:1<=n) (h2:n<=16) (h3:n<=s.l.length) (h4:s.l.length<=20000) (hA:Ar w p q s) (ht:Z3 s.l.length n a=false) :
  Calls Tryz.prog 45 #[.agg #[.int .i64 t,.int .i64 n,.int .i64 wd,.int .i64 v],.pointer (some ⟨p,0,none⟩),.int .i64 a] w fun e w'=>e = .returned (.tuple #[chV ⟨0,0,0,0,0,0,0,0⟩ (.slice none 0 0),.iface 111 (.int .i64 11)])/\Fr [] w w':=by
 have isE:=Er.isE
 have F0:=((Fr.refl [] w).alloc (.cells #[.int .i64 t,.int .i64 n,.int .i64 wd,.int .i64 v] 23))
 have o1:=Ob.newAt (Zp w (.cells #[.int .i64 t,.int .i64 n,.int .i64 wd,.int .i64 v] 23)) 72 #[.int .i64 0,.int .i64 0,.int .i64 0,.int .i64 0,.int .i64 0,.int .i64 0,.int .i64 0,.int .i64 0,.slice none 0 0]
 have F1:=F0.alloc (.cells #[.int .i64 0,.int .i64 0,.int .i64 0,.int .i64 0,.int .i64 0,.int .i64 0,.int .i64 0,.int .i64 0,.slice none 0 0] 72)
 clear F0
 go_enter Tryz.func45,Tryz.ntmps45
 go_wp2_with fail
 generalize World.alloc (World.alloc w _) _=w1 at *
 refine (Re t n wd v a p q s _ (by omega) (by omega) (by omega) h4 (hA.kept F1)).mono ?_;rintro e w2 ⟨rfl,F2⟩
 rw [ht]
 clear ht
 replace o1:=o1.up F2
 replace F1:=F1.trans F2
 clear F2 hA
 have z:=o1.frozen
 obtain ⟨q0,q1,q2,q3,q4,q5,q6,q7,q8⟩:=yz (h:=⟨0,0,0,0,0,0,0,0⟩) (lv:=.slice none 0 0) o1
 go_wp2_with fail
 have o8:=(Ob.set (Ob.set (Ob.set (Ob.set (Ob.set (Ob.set (Ob.set (Ob.set (Ob.set o1 (i:=0) (.int .i64 0)) (i:=1) (.int .i64 0)) (i:=2) (.int .i64 0)) (i:=3) (.int .i64 0)) (i:=4) (.int .i64 0)) (i:=5) (.int .i64 0)) (i:=6) (.int .i64 0)) (i:=7) (.int .i64 0)) (i:=8) (.slice none 0 0))
 have F8:Fr [w.heap.size+1] w2 (((((((((w2.setCell ⟨w.heap.size+1,0,none⟩ (.int .i64 0)).setCell ⟨w.heap.size+1,1,none⟩ (.int .i64 0)).setCell ⟨w.heap.size+1,2,none⟩ (.int .i64 0)).setCell ⟨w.heap.size+1,3,none⟩ (.int .i64 0)).setCell ⟨w.heap.size+1,4,none⟩ (.int .i64 0)).setCell ⟨w.heap.size+1,5,none⟩ (.int .i64 0)).setCell ⟨w.heap.size+1,6,none⟩ (.int .i64 0)).setCell ⟨w.heap.size+1,7,none⟩ (.int .i64 0)).setCell ⟨w.heap.size+1,8,none⟩ (.slice none 0 0)):=(Fr.setCell' (Fr.setCell' (Fr.setCell' (Fr.setCell' (Fr.setCell' (Fr.setCell' (Fr.setCell' (Fr.setCell' (Fr.setCell' (Fr.refl [w.heap.size+1] w2) (b:=w.heap.size+1) (i:=0) (.int .i64 0) (by simp)) (b:=w.heap.size+1) (i:=1) (.int .i64 0) (by simp)) (b:=w.heap.size+1) (i:=2) (.int .i64 0) (by simp)) (b:=w.heap.size+1) (i:=3) (.int .i64 0) (by simp)) (b:=w.heap.size+1) (i:=4) (.int .i64 0) (by simp)) (b:=w.heap.size+1) (i:=5) (.int .i64 0) (by simp)) (b:=w.heap.size+1) (i:=6) (.int .i64 0) (by simp)) (b:=w.heap.size+1) (i:=7) (.int .i64 0) (by simp)) (b:=w.heap.size+1) (i:=8) (.slice none 0 0) (by simp))
 rw [qe8] at o8
 generalize (((((((((w2.setCell ⟨w.heap.size+1,0,none⟩ (.int .i64 0)).setCell ⟨w.heap.size+1,1,none⟩ (.int .i64 0)).setCell ⟨w.heap.size+1,2,none⟩ (.int .i64 0)).setCell ⟨w.heap.size+1,3,none⟩ (.int .i64 0)).setCell ⟨w.heap.size+1,4,none⟩ (.int .i64 0)).setCell ⟨w.heap.size+1,5,none⟩ (.int .i64 0)).setCell ⟨w.heap.size+1,6,none⟩ (.int .i64 0)).setCell ⟨w.heap.size+1,7,none⟩ (.int .i64 0)).setCell ⟨w.heap.size+1,8,none⟩ (.slice none 0 0))=w8 at *
 clear q0 q1 q2 q3 q4 q5 q6 q7 q8 z o1
 obtain ⟨q0,q1,q2,q3,q4,q5,q6,q7,q8⟩:=yz (h:=⟨0,0,0,0,0,0,0,0⟩) (lv:=.slice none 0 0) o8
 refine bodyPost_ret (v:=.tuple #[chV ⟨0,0,0,0,0,0,0,0⟩ (.slice none 0 0),.iface 111 (.int .i64 11)]) ?_ rfl ?_
 ·simp [results,Tryz.results45,go_sem,q0,q1,q2,q3,q4,q5,q6,q7,q8,chV]
 ·exact ⟨rfl,F1.own F8 (by simp)⟩
theorem hdBd {n:Nat} {c a:Int} (h:Z3 n c a=true):0<=a/\a<=n - (7+3 * c):=by unfold Z3 at h;simpa using h
end Go.Proofs.YtppajakfaomkaaaGreat.Vw
