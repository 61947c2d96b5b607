/- Parts. -/
import Derived.Test.YtbddhncgemeohaaGreatDoorYaz
set_option linter.unusedVariables false
set_option linter.unusedSimpArgs false
set_option maxRecDepth 100000
set_option maxHeartbeats 12800000
namespace Go.Proofs.YtbddhncgemeohaaGreatDoor.Mx
open Go.RowKit Ar Ref Mp
structure Y1 (N:Nat) (x:Sn):Prop where
 c:x.c.Ok
 kc:x.k.c=x.c
 kt:x.k.t=x.t
 t0:0<=x.t/\x.t<=8
 lo:0<=x.lo/\x.lo<=63
 w:∀ y,x.w=some y->y.c=x.c/\y.key=x.lo
 w1:x.line=11->x.w≠none
 l:∀ y,x.l=some y->Xr y
 l1:x.line=1->x.l≠none
 n:x.items.length<=16 * N
theorem Y1.new {c:Cf} (hc:c.Ok) {t seq lo hi:Int} (ht:0<=t/\t<=8) (hl:0<=lo/\lo<=63):Y1 0 (Sn.new c t seq lo hi) :=
 ⟨hc,rfl,rfl,ht,hl,fun y h=>Pk,fun h=>(by simp [Sn.new] at h),fun y h=>Pk,fun h=>(by simp [Sn.new] at h),by simp [Sn.new]⟩
theorem q7i (x:Km) (s:St):(x.step s).1.c=x.c/\(x.step s).1.t=x.t:=by
 unfold Km.step;split
 ·unfold Km.next;(repeat' split) <;> exact ⟨rfl,rfl⟩
 ·exact ⟨rfl,rfl⟩
theorem Y1.chunk {N:Nat} {x:Sn} (h:Y1 N x) (a:Int):Y1 N (x.chunk a) :=
 ⟨h.c,h.kc,h.kt,h.t0,h.lo,h.w,fun e=>(by simp [Sn.chunk] at e),fun y e=>(by cases e;exact Xr.new h.c _ _ _ _),fun _=>by simp [Sn.chunk],h.n⟩
theorem Y1.step {N:Nat} {x:Sn} (h:Y1 N x) (s:St):Y1 (N+1) (x.step s).1:=by
 have up:∀ {y:Sn},Y1 N y->Y1 (N+1) y:=fun k=>⟨k.c,k.kc,k.kt,k.t0,k.lo,k.w,k.w1,k.l,k.l1,qi k.n Ly⟩
 unfold Sn.step;split
 ·split
  ·exact Du
  ·have hk:=q7i x.k s;simp only;split
   ·refine up ⟨h.c,hk.1.trans h.kc,hk.2.trans h.kt,h.t0,h.lo,fun y e=>by cases e;exact ⟨rfl,rfl⟩,fun e=>by simp,h.l,fun e=>?_,h.n⟩;simp only at e;split at e <;> simp at e
   ·exact up ⟨h.c,hk.1.trans h.kc,hk.2.trans h.kt,h.t0,h.lo,h.w,h.w1,h.l,h.l1,h.n⟩
 ·split
  ·split
   ·rename_i y hy;have hw:=h.w y hy;have hk:=Jj y s;have h2:Y1 N { x with w:=some (y.step s).1 }:=⟨h.c,h.kc,h.kt,h.t0,h.lo,fun z e=>by cases e;exact ⟨hk.1.trans hw.1,hk.2.trans hw.2⟩,fun e=>by simp,h.l,h.l1,h.n⟩;simp only;split
    ·exact up (h2.chunk _)
    ·exact up h2
   ·exact up h
  ·split
   ·split
    ·rename_i y hy;have hl:=(h.l y hy).step s;have h3:=hl.len;have h4:=hl.i1;simp only;split
     ·refine ⟨h.c,h.kc,h.kt,h.t0,h.lo,h.w,fun e=>by simp at e,fun z e=>by cases e;exact hl,fun e=>by simp at e,?_⟩;have:=Rs (y.step s).1.l x.items;have:=h.n;simp only;omega
     ·exact up ⟨h.c,h.kc,h.kt,h.t0,h.lo,h.w,h.w1,fun z e=>by cases e;exact hl,fun e=>by simp,h.n⟩
    ·exact up h
   ·split
    ·refine up ⟨h.c,h.kc,h.kt,h.t0,h.lo,h.w,fun e=>?_,h.l,fun e=>?_,h.n⟩
     ·simp only at e;split at e <;> simp at e
     ·simp only at e;split at e <;> simp at e
    ·split
     ·simp only;split
      ·exact up (h.chunk _)
      ·exact Du
     ·split
      ·exact Du
      ·exact up h
structure Xt (w:World) (x:Sn) (b bk:Nat) (wp lp:Option Nat) (iv:Value) (Bw Bl:List Nat):Prop where
 o:Tp w b x bk wp lp iv
 k:Yx w bk x.k
 ww:OpW w Bw x.w wp
 l:OpL w Bl x.l lp
 s:Sq fT w iv x.items
 g:∀ g,g∈iv.ownBlock.toList->g<w.heap.size
 nd:(b :: bk :: (Bw++(Bl++iv.ownBlock.toList))).Nodup
theorem Xt.inn {w:World} {x:Sn} {b bk:Nat} {wp lp:Option Nat} {iv:Value} {Bw Bl:List Nat} (h:Xt w x b bk wp lp iv Bw Bl):Kr w (b :: bk :: (Bw++(Bl++iv.ownBlock.toList))) b x :=
 ⟨bk,wp,lp,iv,Bw,Bl,h.o,h.k,h.ww,h.l,h.s,h.g,rfl,h.nd⟩
theorem Kr.pt {w:World} {B:List Nat} {x:Sn} {b:Nat} (h:Kr w B b x):∃ bk wp lp iv Bw Bl,Xt w x b bk wp lp iv Bw Bl/\B=b :: bk :: (Bw++(Bl++iv.ownBlock.toList)):=by obtain ⟨bk,wp,lp,iv,Bw,Bl,h1,h2,h3,h4,h5,h6,rfl,h8⟩:=h;exact ⟨bk,wp,lp,iv,Bw,Bl,⟨h1,h2,h3,h4,h5,h6,h8⟩,rfl⟩
theorem Xt.re {S:List Nat} {w w':World} {x y:Sn} {b bk:Nat} {wp lp:Option Nat} {iv:Value} {Bw Bl:List Nat} (h:Xt w x b bk wp lp iv Bw Bl) (F:Fr S w w') (hS:∀ k,k∈bk :: (Bw++(Bl++iv.ownBlock.toList))->k∉S) (o:Tp w' b y bk wp lp iv)
  (ek:y.k=x.k) (ew:y.w=x.w) (el:y.l=x.l) (ei:y.items=x.items):Xt w' y b bk wp lp iv Bw Bl :=
 ⟨o,by rw [ek];exact Ob.kept h.k F (hS _ Ma),by rw [ew];exact h.ww.kept F (fun k hk=>hS k Oi),by rw [el];exact h.l.kept F (fun k hk=>hS k Oi),by rw [ei];exact h.s.kept F (fun g hg=>hS g Nz),fun g hg=>ql (h.g g hg) F.size,h.nd⟩
theorem Xt.rek {S:List Nat} {w w':World} {x:Sn} {b bk:Nat} {wp lp:Option Nat} {iv:Value} {Bw Bl:List Nat} {y:Km} (h:Xt w x b bk wp lp iv Bw Bl) (F:Fr S w w') (hS:∀ k,k∈b :: (Bw++(Bl++iv.ownBlock.toList))->k∉S) (k:Yx w' bk y):Xt w' { x with k:=y } b bk wp lp iv Bw Bl :=
 ⟨Ob.kept h.o F (hS _ Ma),k,h.ww.kept F (fun k hk=>hS k Oi),h.l.kept F (fun k hk=>hS k Oi),h.s.kept F (fun g hg=>hS g Nz),fun g hg=>ql (h.g g hg) F.size,h.nd⟩
theorem Xt.rew {S:List Nat} {w w':World} {x:Sn} {b bk bw:Nat} {lp:Option Nat} {iv:Value} {Bl:List Nat} {y:Wk} (h:Xt w x b bk (some bw) lp iv [bw] Bl) (F:Fr S w w') (hS:∀ k,k∈b :: bk :: (Bl++iv.ownBlock.toList)->k∉S) (k:Z8 w' bw y):Xt w' { x with w:=some y } b bk (some bw) lp iv [bw] Bl :=
 ⟨Ob.kept h.o F (hS _ Ma),Ob.kept h.k F (hS _ Ma),⟨bw,rfl,k,rfl⟩,h.l.kept F (fun k hk=>hS k Oi),h.s.kept F (fun g hg=>hS g Nz),fun g hg=>ql (h.g g hg) F.size,h.nd⟩
theorem q8b (x:Sn) (s:St) (N:Nat) (hx:Y1 N x) (hl:x.line=10) (hh:x.hi<x.lo) (b bk p q:Nat) (wp lp:Option Nat) (iv:Value) (Bw Bl:List Nat) (w:World) (h:Xt w x b bk wp lp iv Bw Bl) (hA:Rar w p q s) (hp:p∉b :: bk :: (Bw++(Bl++iv.ownBlock.toList))) (hq:q∉b :: bk :: (Bw++(Bl++iv.ownBlock.toList))) :
  Calls Tryz.prog 71 #[.pointer (some ⟨b,0,none⟩),.pointer (some ⟨p,0,none⟩)] w (Stp w (fun w' B'=>Kr w' B' b ({ x with line:=0 })) (b :: bk :: (Bw++(Bl++iv.ownBlock.toList))) p q (s) (true)):=by
 generalize hy:({ x with line:=0 })=y0;have HY:=qb hy;clear hy;have hlt:=h.inn.lt;have hnd:=h.nd;simp only [List.nodup_cons,List.mem_cons,List.mem_append,not_or] at hnd;obtain ⟨⟨n1,n2,n3,n4⟩,⟨n5,n6,n7⟩,n8⟩:=hnd;have hp':=hp;have hq':=hq;simp only [List.mem_cons,List.mem_append,not_or] at hp' hq';obtain ⟨p1,p2,p3,p4,p5⟩:=hp';obtain ⟨q1,q2,q3,q4,q5⟩:=hq';have HL:=qb (qd hlt (qd h.nd (qd hp hq)));clear hlt hp hq;obtain ⟨c0,c1,c2,c3,c4,c5,c6,c7,c8,c9,c10,c11,c12,c13,c14⟩:=zu h.o;have z:=h.o.frozen;go_enter Tryz.func71,Tryz.ntmps71;go_wp2_with fail;have k6:=qc c6;have k7:=qc c7;have g1:decide (x.lo>x.hi)=true:=by simpa using hh
 refine wiq ?_;repeat (go_big_quiet_step (fail))
 refine wpQuiet_nil ?_;intro w5 F5;have h5:=h.re F5 Ma (Ob.up h.o F5) rfl rfl rfl rfl;have A5:=hA.kept F5;clear k6 k7 c0 c1 c2 c3 c4 c5 c6 c7 c8 c9 c10 c11 c12 c13 c14 z;obtain ⟨c0,c1,c2,c3,c4,c5,c6,c7,c8,c9,c10,c11,c12,c13,c14⟩:=zu h5.o;have z:=h5.o.frozen;clear h hA;go_wp2_with fail;go_ret;have SC:Fr [b] w5 (w5.setCell ⟨b,11,none⟩ (.int .i64 0)):=Fr.setCell _ Ma;rw [<- HY.out];exact Stp.of rfl (Xt.inn (h5.re SC (fun k hk hi=>by simp at hi;subst hi;simp only [List.mem_cons,List.mem_append] at hk;rcases hk with h | h | h | h <;> contradiction) (Ob.set h5.o (i:=11) (.int .i64 0)) rfl rfl rfl rfl)) (fun k hk=>.inl hk) (Rar.set A5 (Ne.symm p1) (Ne.symm q1) _) ((F5.mono).trans (SC.mono))
theorem qdl (x:Sn) (s:St) (N:Nat) (hx:Y1 N x) (hl:x.line=2) (b bk p q:Nat) (wp lp:Option Nat) (iv:Value) (Bw Bl:List Nat) (w:World) (h:Xt w x b bk wp lp iv Bw Bl) (hA:Rar w p q s) (hp:p∉b :: bk :: (Bw++(Bl++iv.ownBlock.toList))) (hq:q∉b :: bk :: (Bw++(Bl++iv.ownBlock.toList))) :
  Calls Tryz.prog 71 #[.pointer (some ⟨b,0,none⟩),.pointer (some ⟨p,0,none⟩)] w (Stp w (fun w' B'=>Kr w' B' b ({ x with n:=atW (qx s.l (wrap64 (x.at_+2))),line:=if atW (qx s.l (wrap64 (x.at_+2)))=0 then 4 else 3 })) (b :: bk :: (Bw++(Bl++iv.ownBlock.toList))) p q (s.load (wrap64 (x.at_+2))) (false)):=by
 generalize hy:({ x with n:=atW (qx s.l (wrap64 (x.at_+2))),line:=if atW (qx s.l (wrap64 (x.at_+2)))=0 then 4 else 3 })=y0;have HY:=qb hy;clear hy;have hlt:=h.inn.lt;have hnd:=h.nd;simp only [List.nodup_cons,List.mem_cons,List.mem_append,not_or] at hnd;obtain ⟨⟨n1,n2,n3,n4⟩,⟨n5,n6,n7⟩,n8⟩:=hnd;have hp':=hp;have hq':=hq;simp only [List.mem_cons,List.mem_append,not_or] at hp' hq';obtain ⟨p1,p2,p3,p4,p5⟩:=hp';obtain ⟨q1,q2,q3,q4,q5⟩:=hq';have HL:=qb (qd hlt (qd h.nd (qd hp hq)));clear hlt hp hq;obtain ⟨c0,c1,c2,c3,c4,c5,c6,c7,c8,c9,c10,c11,c12,c13,c14⟩:=zu h.o;have z:=h.o.frozen;go_enter Tryz.func71,Tryz.ntmps71;go_wp2_with fail;refine (Ref.zl _ p q s _ hA).mono ?_;rintro e w5 ⟨rfl,A5,F5⟩;have h5:=h.re F5 (fun k hk hi=>by simp only [List.mem_cons,List.mem_append,List.not_mem_nil,or_false] at hk hi;rcases hi with rfl | rfl <;> rcases hk with h | h | h | h <;> contradiction) (Ob.kept h.o F5 Nn) rfl rfl rfl rfl;have D5:Fr (p :: q :: b :: bk :: (Bw++(Bl++iv.ownBlock.toList))) w w5:=F5.mono;clear c0 c1 c2 c3 c4 c5 c6 c7 c8 c9 c10 c11 c12 c13 c14 z h hA F5;go_wp2_with fail;refine (Xb _ _).mono ?_;rintro e _ ⟨rfl,rfl⟩;generalize hv:atW (qx s.l (wrap64 (x.at_+2)))=v at *;have HV:=qb hv;clear hv;obtain ⟨c0,c1,c2,c3,c4,c5,c6,c7,c8,c9,c10,c11,c12,c13,c14⟩:=zu h5.o;have z:=h5.o.frozen;by_cases e0:v=0
 ·have g1:(v == 0)=true:=by simpa using e0
  have hn:y0 = { x with n:=v,line:=4 }:=by rw [<- HY.out,qg e0]
  subst hn;clear e0;have o6:Tp _ b { x with n:=v,line:=4 } bk wp lp iv:=Ob.set (Ob.set (Ob.set h5.o (i:=13) (.int .i64 v)) (i:=11) (.int .i64 3)) (i:=11) (.int .i64 4);have d11:=(zu o6).2.2.2.2.2.2.2.2.2.2.2.1;go_wp2_with fail;go_ret;have S6:Fr [b] w5 (((w5.setCell ⟨b,13,none⟩ (.int .i64 v)).setCell ⟨b,11,none⟩ (.int .i64 3)).setCell ⟨b,11,none⟩ (.int .i64 4)):=((Fr.setCell _ Ma).setCell' _ Ma).setCell' _ Ma;exact Bp
 ·have g1:(v == 0)=false:=by simpa using e0
  have hn:y0 = { x with n:=v,line:=3 }:=by rw [<- HY.out,qf e0]
  subst hn;go_wp2_with fail;go_ret;have o6:Tp _ b { x with n:=v,line:=3 } bk wp lp iv:=Ob.set (Ob.set h5.o (i:=13) (.int .i64 v)) (i:=11) (.int .i64 3);have S6:Fr [b] w5 ((w5.setCell ⟨b,13,none⟩ (.int .i64 v)).setCell ⟨b,11,none⟩ (.int .i64 3)):=(Fr.setCell _ Ma).setCell' _ Ma;exact Bp
theorem qd7 (x:Sn) (s:St) (N:Nat) (hx:Y1 N x) (hl:x.line=4) (b bk p q:Nat) (wp lp:Option Nat) (iv:Value) (Bw Bl:List Nat) (w:World) (h:Xt w x b bk wp lp iv Bw Bl) (hA:Rar w p q s) (hp:p∉b :: bk :: (Bw++(Bl++iv.ownBlock.toList))) (hq:q∉b :: bk :: (Bw++(Bl++iv.ownBlock.toList))) :
  Calls Tryz.prog 71 #[.pointer (some ⟨b,0,none⟩),.pointer (some ⟨p,0,none⟩)] w (Stp w (fun w' B'=>Kr w' B' b ({ x with line:=0 })) (b :: bk :: (Bw++(Bl++iv.ownBlock.toList))) p q (s.store (qab x.t) (Qi x.seq 0)) (true)):=by
 generalize hy:({ x with line:=0 })=y0;have HY:=qb hy;clear hy;have hlt:=h.inn.lt;have hnd:=h.nd;simp only [List.nodup_cons,List.mem_cons,List.mem_append,not_or] at hnd;obtain ⟨⟨n1,n2,n3,n4⟩,⟨n5,n6,n7⟩,n8⟩:=hnd;have hp':=hp;have hq':=hq;simp only [List.mem_cons,List.mem_append,not_or] at hp' hq';obtain ⟨p1,p2,p3,p4,p5⟩:=hp';obtain ⟨q1,q2,q3,q4,q5⟩:=hq';have HL:=qb (qd hlt (qd h.nd (qd hp hq)));clear hlt hp hq;obtain ⟨c0,c1,c2,c3,c4,c5,c6,c7,c8,c9,c10,c11,c12,c13,c14⟩:=zu h.o;have z:=h.o.frozen;go_enter Tryz.func71,Tryz.ntmps71;go_wp2_with fail;have ht:=hx.t0;refine ze Me [p,q] (fun w2 F2=>?_);refine epq [true,true,true,true,true,true,true,true,true,true,true,false] 1 (F2.mono) ?_;apply qh;refine ⟨fun wf Ff=>?_,?_⟩
 ·have of:Tp wf b x bk wp lp iv:=Ob.kept h.o Ff Nn;obtain ⟨c0,c1,c2,c3,c4,c5,c6,c7,c8,c9,c10,c11,c12,c13,c14⟩:=zu of;have k4:=qc c4;have k5:=qc c5;clear c0 c1 c2 c3 c4 c5 c6 c7 c8 c9 c10 c11 c12 c13 c14;simp only [sel];repeat (go_big_quiet_step ((first | (go_at_call 94;exact Calls.in_same (Ref.Q5 x.t ht.1 ht.2 _)) | (go_at_call 95;exact Calls.in_same (Y2 _ _ _)))))
  exact wpQuiet_nil rfl
 refine eoq 11 (fun w3 F3=>?_);have E:=F2.trans F3;clear F2 F3 c0 c1 c2 c3 c4 c5 c6 c7 c8 c9 c10 c11 c12 c13 c14 z;go_wp2_with fail;refine (Ref.jy _ p q s _ _ (hA.kept E)).mono ?_;rintro e w5 ⟨rfl,A5,F5⟩;have E5:=(E.mono (T:=[p,q]) Ma).trans F5;clear E F5;go_wp2_with fail;refine qo ⟨E5,?_⟩;refine zw Me (fun w6 F6=>?_);have E6:=E5.then F6;have A6:=A5.kept F6;have h5:=h.re E6 (fun k hk hi=>by simp only [List.mem_cons,List.mem_append,List.not_mem_nil,or_false] at hk hi;rcases hi with rfl | rfl <;> rcases hk with h | h | h | h <;> contradiction) (Ob.kept h.o E6 Nn) rfl rfl rfl rfl;have D5:Fr (p :: q :: b :: bk :: (Bw++(Bl++iv.ownBlock.toList))) w w6:=E6.mono;clear E5 E6 A5 F6 h hA;obtain ⟨c0,c1,c2,c3,c4,c5,c6,c7,c8,c9,c10,c11,c12,c13,c14⟩:=zu h5.o;have z:=h5.o.frozen;go_wp2_with fail;go_ret;have S6:Fr [b] w6 (w6.setCell ⟨b,11,none⟩ (.int .i64 0)):=Fr.setCell _ Ma;rw [<- HY.out];exact Stp.of rfl (Xt.inn (h5.re S6 (fun k hk hi=>by simp at hi;subst hi;simp only [List.mem_cons,List.mem_append] at hk;rcases hk with h | h | h | h <;> contradiction) (Ob.set h5.o (i:=11) (.int .i64 0)) rfl rfl rfl rfl)) (fun k hk=>.inl hk) (A6.kept S6 Oe Oh) (D5.trans (S6.mono))
theorem qdr (x:Sn) (s:St) (N:Nat) (hx:Y1 N x) (hl:x.line≠10/\x.line≠11/\x.line≠1/\x.line≠2/\x.line≠3/\x.line≠4) (b bk p q:Nat) (wp lp:Option Nat) (iv:Value) (Bw Bl:List Nat) (w:World) (h:Xt w x b bk wp lp iv Bw Bl) (hA:Rar w p q s) (hp:p∉b :: bk :: (Bw++(Bl++iv.ownBlock.toList))) (hq:q∉b :: bk :: (Bw++(Bl++iv.ownBlock.toList))) :
  Calls Tryz.prog 71 #[.pointer (some ⟨b,0,none⟩),.pointer (some ⟨p,0,none⟩)] w (Stp w (fun w' B'=>Kr w' B' b (x)) (b :: bk :: (Bw++(Bl++iv.ownBlock.toList))) p q (s) (decide (x.line=0))):=by
 generalize hy:(x)=y0;have HY:=qb hy;clear hy;have hlt:=h.inn.lt;have hnd:=h.nd;simp only [List.nodup_cons,List.mem_cons,List.mem_append,not_or] at hnd;obtain ⟨⟨n1,n2,n3,n4⟩,⟨n5,n6,n7⟩,n8⟩:=hnd;have hp':=hp;have hq':=hq;simp only [List.mem_cons,List.mem_append,not_or] at hp' hq';obtain ⟨p1,p2,p3,p4,p5⟩:=hp';obtain ⟨q1,q2,q3,q4,q5⟩:=hq';have HL:=qb (qd hlt (qd h.nd (qd hp hq)));clear hlt hp hq;obtain ⟨c0,c1,c2,c3,c4,c5,c6,c7,c8,c9,c10,c11,c12,c13,c14⟩:=zu h.o;have z:=h.o.frozen;obtain ⟨l1,l2,l3,l4,l5,l6⟩:=hl;go_enter Tryz.func71,Tryz.ntmps71;go_wp2_with fail;go_ret;rw [<- HY.out];exact Stp.of rfl h.inn (fun k hk=>.inl hk) hA (Fr.refl _ _)
theorem q91 (x:Sn) (s:St) (N:Nat) (hx:Y1 N x) (hl:x.line=10) (hh:¬ x.hi<x.lo) (hd:¬ (x.k.step s).1.line=0) (b bk p q:Nat) (wp lp:Option Nat) (iv:Value) (Bw Bl:List Nat) (w:World) (h:Xt w x b bk wp lp iv Bw Bl) (hA:Rar w p q s) (hp:p∉b :: bk :: (Bw++(Bl++iv.ownBlock.toList))) (hq:q∉b :: bk :: (Bw++(Bl++iv.ownBlock.toList))) :
  Calls Tryz.prog 71 #[.pointer (some ⟨b,0,none⟩),.pointer (some ⟨p,0,none⟩)] w (Stp w (fun w' B'=>Kr w' B' b ({ x with k:=(x.k.step s).1 })) (b :: bk :: (Bw++(Bl++iv.ownBlock.toList))) p q ((x.k.step s).2) (false)):=by
 generalize hy:({ x with k:=(x.k.step s).1 })=y0;have HY:=qb hy;clear hy;have hlt:=h.inn.lt;have hnd:=h.nd;simp only [List.nodup_cons,List.mem_cons,List.mem_append,not_or] at hnd;obtain ⟨⟨n1,n2,n3,n4⟩,⟨n5,n6,n7⟩,n8⟩:=hnd;have hp':=hp;have hq':=hq;simp only [List.mem_cons,List.mem_append,not_or] at hp' hq';obtain ⟨p1,p2,p3,p4,p5⟩:=hp';obtain ⟨q1,q2,q3,q4,q5⟩:=hq';have HL:=qb (qd hlt (qd h.nd (qd hp hq)));clear hlt hp hq;obtain ⟨c0,c1,c2,c3,c4,c5,c6,c7,c8,c9,c10,c11,c12,c13,c14⟩:=zu h.o;have z:=h.o.frozen;go_enter Tryz.func71,Tryz.ntmps71;go_wp2_with fail;have g1:decide (x.lo>x.hi)=false:=by simpa using hh
 have k6:=qc c6;have k7:=qc c7;refine wiq ?_;repeat (go_big_quiet_step (fail))
 refine wpQuiet_nil ?_;intro w4 F4;have h4:=h.re F4 Ma (Ob.up h.o F4) rfl rfl rfl rfl;have A4:=hA.kept F4;clear k6 k7 c0 c1 c2 c3 c4 c5 c6 c7 c8 c9 c10 c11 c12 c13 c14 z h hA;obtain ⟨c0,c1,c2,c3,c4,c5,c6,c7,c8,c9,c10,c11,c12,c13,c14⟩:=zu h4.o;go_wp2_with fail;refine (Wm x.k (by rw [hx.kc];exact hx.c) (by rw [hx.kt];exact hx.t0) bk p q s w4 h4.k A4 (Ne.symm p2) (Ne.symm q2)).mono ?_;rintro e w5 ⟨rfl,k5,A5,F5⟩;generalize hyk:(x.k.step s).1=yk at *;generalize hys:(x.k.step s).2=ys at *;have h5:=h4.rek F5 (fun k hk hi=>by simp only [List.mem_cons,List.mem_append,List.not_mem_nil,or_false] at hk hi;rcases hi with rfl | rfl | rfl <;> rcases hk with h | h | h | h <;> first | contradiction | exact absurd h (Ne.symm A05) | exact absurd h.symm A05) k5;have D5:Fr (p :: q :: b :: bk :: (Bw++(Bl++iv.ownBlock.toList))) w w5:=(F4.mono).trans (F5.mono Nu);have HKS:=qb (qd hyk hys);have HW:=qb (qi F4.size F5.size);clear hyk hys c0 c1 c2 c3 c4 c5 c6 c7 c8 c9 c10 c11 c12 c13 c14 h4 A4 k5 F4 F5;have g2:decide (yk.line=0)=false:=by simpa using hd
 rw [g2];obtain ⟨c0,c1,c2,c3,c4,c5,c6,c7,c8,c9,c10,c11,c12,c13,c14⟩:=zu h5.o;go_wp2_with fail;go_ret;rw [<- HY.out,HKS.out.2];exact Ij
theorem q8g (x:Sn) (s:St) (N:Nat) (hx:Y1 N x) (hl:x.line=10) (hh:¬ x.hi<x.lo) (hd:(x.k.step s).1.line=0) (b bk p q:Nat) (wp lp:Option Nat) (iv:Value) (Bw Bl:List Nat) (w:World) (h:Xt w x b bk wp lp iv Bw Bl) (hA:Rar w p q s) (hp:p∉b :: bk :: (Bw++(Bl++iv.ownBlock.toList))) (hq:q∉b :: bk :: (Bw++(Bl++iv.ownBlock.toList))) :
  Calls Tryz.prog 71 #[.pointer (some ⟨b,0,none⟩),.pointer (some ⟨p,0,none⟩)] w (Stp w (fun w' B'=>Kr w' B' b ({ x with k:=(x.k.step s).1,w:=some (Wk.new x.c x.lo),line:=if (x.k.step s).1.e=0 then 11 else 0 })) (b :: bk :: (Bw++(Bl++iv.ownBlock.toList))) p q ((x.k.step s).2) (decide (¬ (x.k.step s).1.e=0))):=by
 generalize hy:({ x with k:=(x.k.step s).1,w:=some (Wk.new x.c x.lo),line:=if (x.k.step s).1.e=0 then 11 else 0 })=y0;have HY:=qb hy;clear hy;have hlt:=h.inn.lt;have hnd:=h.nd;simp only [List.nodup_cons,List.mem_cons,List.mem_append,not_or] at hnd;obtain ⟨⟨n1,n2,n3,n4⟩,⟨n5,n6,n7⟩,n8⟩:=hnd;have hp':=hp;have hq':=hq;simp only [List.mem_cons,List.mem_append,not_or] at hp' hq';obtain ⟨p1,p2,p3,p4,p5⟩:=hp';obtain ⟨q1,q2,q3,q4,q5⟩:=hq';have HL:=qb (qd hlt (qd h.nd (qd hp hq)));clear hlt hp hq;obtain ⟨c0,c1,c2,c3,c4,c5,c6,c7,c8,c9,c10,c11,c12,c13,c14⟩:=zu h.o;have z:=h.o.frozen;go_enter Tryz.func71,Tryz.ntmps71;go_wp2_with fail;have g1:decide (x.lo>x.hi)=false:=by simpa using hh
 have k6:=qc c6;have k7:=qc c7;refine wiq ?_;repeat (go_big_quiet_step (fail))
 refine wpQuiet_nil ?_;intro w4 F4;have h4:=h.re F4 Ma (Ob.up h.o F4) rfl rfl rfl rfl;have A4:=hA.kept F4;clear k6 k7 c0 c1 c2 c3 c4 c5 c6 c7 c8 c9 c10 c11 c12 c13 c14 z h hA;obtain ⟨c0,c1,c2,c3,c4,c5,c6,c7,c8,c9,c10,c11,c12,c13,c14⟩:=zu h4.o;go_wp2_with fail;refine (Wm x.k (by rw [hx.kc];exact hx.c) (by rw [hx.kt];exact hx.t0) bk p q s w4 h4.k A4 (Ne.symm p2) (Ne.symm q2)).mono ?_;rintro e w5 ⟨rfl,k5,A5,F5⟩;generalize hyk:(x.k.step s).1=yk at *;generalize hys:(x.k.step s).2=ys at *;have h5:=h4.rek F5 (fun k hk hi=>by simp only [List.mem_cons,List.mem_append,List.not_mem_nil,or_false] at hk hi;rcases hi with rfl | rfl | rfl <;> rcases hk with h | h | h | h <;> first | contradiction | exact absurd h (Ne.symm A05) | exact absurd h.symm A05) k5;have D5:Fr (p :: q :: b :: bk :: (Bw++(Bl++iv.ownBlock.toList))) w w5:=(F4.mono).trans (F5.mono Nu);have HKS:=qb (qd hyk hys);have HW:=qb (qi F4.size F5.size);clear hyk hys c0 c1 c2 c3 c4 c5 c6 c7 c8 c9 c10 c11 c12 c13 c14 h4 A4 k5 F4 F5;have g2:decide (yk.line=0)=true:=by simpa using hd
 rw [g2];go_wp2_with fail;refine qq Me ?_;refine yl 1 rfl Me Me Me rfl (fun _ _ d _ _ h=>by cases d <;> exact h) ?_;go_frame;refine za [] w5 #[true,true,true,true,true,true,true,true,true,true,true,false,false,false,false,false,false] 10 6 rfl ?_;refine jd [true,false,true,true,true,true,true,true,true,true,false,false,false,false,false,false,false] 1 (n:=154) (listed':=#[true,true,true,true,true,true,true,true,true,true,false,false,false,false,false,false,false]) rfl Me Me Me Me rfl Me (fun _ _ d _ _ h=>by cases d <;> exact h) ((Fr.refl _ w5).drew) ?_;apply qh;refine ⟨fun wf Ff=>?_,?_⟩
 ·obtain ⟨c0,c1,c2,c3,c4,c5,c6,c7,c8,c9,c10,c11,c12,c13,c14⟩:=zu (Ob.up h5.o Ff);have j0:=qc c0;have j1:=qc c1;have j2:=qc c2;have j3:=qc c3;have j6:=qc c6;exact Ls
 refine loq 10 (fun w7 F7=>?_);have E:=((Fr.refl [] w5).drew.trans F7);clear F7;go_wp2_with fail;refine (X6 x.c x.lo w7).mono ?_;rintro e w8 ⟨bw,rfl,hbw,m1,F8⟩;have hE:=E.size;replace E:=E.trans F8;clear F8;go_wp2_with fail;refine qo ⟨E,?_⟩;refine qy (k:=11) rfl Me (fun w9 F9=>?_);replace E:=E.trans F9;replace m1:Z8 w9 bw (Wk.new x.c x.lo):=Ob.up m1 F9;clear F9;have o9:Tp w9 b { x with k:=yk } bk wp lp iv:=Ob.up h5.o E;have k9:Yx w9 bk yk:=Ob.up h5.k E;have A9:=A5.kept E;have hb5:=Ob.lt h5.o;have hbk5:=Ob.lt h5.k;have nbw:bw≠b/\bw≠bk:=by constructor <;> omega
 obtain ⟨c0,c1,c2,c3,c4,c5,c6,c7,c8,c9,c10,c11,c12,c13,c14⟩:=zu o9;have z:=o9.frozen;have o10:Tp _ b { x with k:=yk,w:=some (Wk.new x.c x.lo),line:=11 } bk (some bw) lp iv:=Ob.set (Ob.set o9 (i:=11) (.int .i64 11)) (i:=9) (.pointer (some ⟨bw,0,none⟩));have k10:Yx _ bk yk:=Ob.other (Ob.other k9 (Ne.symm n1) (i:=11) (.int .i64 11)) (Ne.symm n1) (i:=9) (.pointer (some ⟨bw,0,none⟩));have m10:Z8 _ bw (Wk.new x.c x.lo):=Ob.other (Ob.other m1 nbw.1 (i:=11) (.int .i64 11)) nbw.1 (i:=9) (.pointer (some ⟨bw,0,none⟩));have A10:=Rar.set (Rar.set A9 (Ne.symm p1) (Ne.symm q1) (i:=11) (.int .i64 11)) (Ne.symm p1) (Ne.symm q1) (i:=9) (.pointer (some ⟨bw,0,none⟩));have E10:=((E.mono (T:=[b]) Ma).setCell' (b:=b) (i:=11) (.int .i64 11) Ma).setCell' (b:=b) (i:=9) (.pointer (some ⟨bw,0,none⟩)) Ma;have y9:=(jb k10).2.2.2.2.2.2.2.2.2;have d8:=(zu o10).2.2.2.2.2.2.2.2.1;have d11:=(zu o10).2.2.2.2.2.2.2.2.2.2.2.1;have hlw:=HL.out.1;have hw5:=HW.out;have hnd5:(b :: bk :: ([bw]++(Bl++iv.ownBlock.toList))).Nodup:=Y8 (A:=[b,bk]) (Y:=Bw) (Y':=[bw]) (n:=w.heap.size) HL.out.2.1 hlw Ma Mv;have hmem:∀ k,k∈b :: bk :: ([bw]++(Bl++iv.ownBlock.toList))->k∈b :: bk :: (Bw++(Bl++iv.ownBlock.toList))\/w.heap.size<=k:=q2q (A:=[b,bk]) (Y:=Bw) (Y':=[bw]) (n:=w.heap.size) Mv;have hL5:=h5.l.kept E10 (fun k hk hi=>by simp at hi;subst hi;exact n3 hk);have hS5:=h5.s.kept E10 (fun g hg hi=>by simp at hi;subst hi;exact n4 hg);have hG5:∀ g,g∈iv.ownBlock.toList->g<_:=fun g hg=>ql (h5.g g hg) E10.size
 have HP:=qb (show Xt _ { x with k:=yk,w:=some (Wk.new x.c x.lo),line:=11 } b bk (some bw) lp iv [bw] Bl from ⟨o10,k10,⟨bw,rfl,m10,rfl⟩,hL5,hS5,hG5,hnd5⟩);have HM:=qb hmem;have HA10:=qb A10;have HD10:=qb (D5.trans (E10.mono (T:=p :: q :: b :: bk :: (Bw++(Bl++iv.ownBlock.toList))) Ma));clear h5 k9 m1 A9 E m10 A10 E10 hL5 hS5 hG5 hnd5 hmem hlw D5 A5 k10;by_cases e0:yk.e=0
 ·have g3:(yk.e != 0)=false:=by simpa using e0
  have hn:y0 = { x with k:=yk,w:=some (Wk.new x.c x.lo),line:=11 }:=by rw [<- HY.out,qg e0]
  have HE:=qb e0;clear e0;go_wp2_with fail;go_ret;rw [HKS.out.1,HKS.out.2];exact Stp.of (by rw [show (!decide (yk.e=0))=false by have:=HE.out;simp [this]];rfl) HP.out.inn HM.out HA10.out HD10.out
 ·have g3:(yk.e != 0)=true:=by simpa using e0
  have hn:y0 = { x with k:=yk,w:=some (Wk.new x.c x.lo),line:=0 }:=by rw [<- HY.out,qf e0]
  have HE:=qb e0;clear e0;have o11:Tp _ b { x with k:=yk,w:=some (Wk.new x.c x.lo),line:=0 } bk (some bw) lp iv:=Ob.set o10 (i:=11) (.int .i64 0);have d12:=(zu o11).2.2.2.2.2.2.2.2.2.2.2.1;have z10:=o10.frozen;have HO:=qb o11;clear o11;go_wp2_with fail;go_ret;rw [HKS.out.1,HKS.out.2];have S6:=Fr.setCell (S:=[b]) (w:=((w9.setCell ⟨b,11,none⟩ (.int .i64 11)).setCell ⟨b,9,none⟩ (.pointer (some ⟨bw,0,none⟩)))) (b:=b) (i:=11) (.int .i64 0) Ma;have nbb:=nbw.1;exact Stp.of (by rw [show (!decide (yk.e=0))=true by have:=HE.out;simp [this]];rfl) (Xt.inn (HP.out.re S6 (fun k hk hi=>by simp at hi;subst hi;simp only [List.mem_cons,List.mem_append,List.not_mem_nil,or_false] at hk;rcases hk with h | h | h | h <;> first | contradiction | exact absurd h.symm nbb) HO.out rfl rfl rfl rfl)) HM.out (HA10.out.kept S6 Oe Oh) (HD10.out.trans (S6.mono))
theorem qby (x:Sn) (s:St) (N:Nat) (hx:Y1 N x) (hl:x.line=11) (y:Wk) (hw:x.w=some y) (b bk p q:Nat) (wp lp:Option Nat) (iv:Value) (Bw Bl:List Nat) (w:World) (h:Xt w x b bk wp lp iv Bw Bl) (hA:Rar w p q s) (hp:p∉b :: bk :: (Bw++(Bl++iv.ownBlock.toList))) (hq:q∉b :: bk :: (Bw++(Bl++iv.ownBlock.toList))) :
  Calls Tryz.prog 71 #[.pointer (some ⟨b,0,none⟩),.pointer (some ⟨p,0,none⟩)] w (Stp w (fun w' B'=>Kr w' B' b (if (y.step s).1.line=0 then ({ x with w:=some (y.step s).1 }:Sn).chunk (y.step s).1.at_ else { x with w:=some (y.step s).1 })) (b :: bk :: (Bw++(Bl++iv.ownBlock.toList))) p q ((y.step s).2) (false)):=by
 generalize hy:(if (y.step s).1.line=0 then ({ x with w:=some (y.step s).1 }:Sn).chunk (y.step s).1.at_ else { x with w:=some (y.step s).1 })=y0;have HY:=qb hy;clear hy;have hlt:=h.inn.lt;have hnd:=h.nd;simp only [List.nodup_cons,List.mem_cons,List.mem_append,not_or] at hnd;obtain ⟨⟨n1,n2,n3,n4⟩,⟨n5,n6,n7⟩,n8⟩:=hnd;have hp':=hp;have hq':=hq;simp only [List.mem_cons,List.mem_append,not_or] at hp' hq';obtain ⟨p1,p2,p3,p4,p5⟩:=hp';obtain ⟨q1,q2,q3,q4,q5⟩:=hq';have HL:=qb (qd hlt (qd h.nd (qd hp hq)));clear hlt hp hq;obtain ⟨c0,c1,c2,c3,c4,c5,c6,c7,c8,c9,c10,c11,c12,c13,c14⟩:=zu h.o;have z:=h.o.frozen;obtain ⟨bw,rfl,hwk,rfl⟩:∃ bw,wp=some bw/\Z8 w bw y/\Bw=[bw]:=by have:=h.ww;rw [hw] at this;exact this
 unfold vh at c9;simp only at c9;go_enter Tryz.func71,Tryz.ntmps71;go_wp2_with fail;have hyw:=hx.w y hw;refine (Kl y (by rw [hyw.1];exact hx.c) (by rw [hyw.2];exact hx.lo) bw p q s w hwk hA (fun e=>p3 (by simp [e])) (fun e=>q3 (by simp [e]))).mono ?_;rintro e w5 ⟨rfl,k5,A5,F5⟩;generalize hyk:(y.step s).1=yk at *;generalize hys:(y.step s).2=ys at *
 have nbw:¬ b=bw/\¬ bk=bw/\bw∉Bl/\bw∉iv.ownBlock.toList:=by simp only [List.mem_singleton] at n2 n5;refine ⟨n2,n5,?_⟩;have:=List.nodup_cons.1 n8;simpa [List.mem_append,not_or] using this.1
 have h5:=h.rew F5 (fun k hk hi=>by simp only [List.mem_cons,List.mem_append,List.not_mem_nil,or_false] at hk hi;rcases hi with rfl | rfl | rfl <;> rcases hk with h | h | h | h <;> first | contradiction | exact nbw.1 h.symm | exact nbw.2.1 h.symm | exact nbw.2.2.1 h | exact nbw.2.2.2 h) k5;have D5:Fr (p :: q :: b :: bk :: ([bw]++(Bl++iv.ownBlock.toList))) w w5:=F5.mono Nu;have HKS:=qb (qd hyk hys);have HW:=qb F5.size;clear hyk hys c0 c1 c2 c3 c4 c5 c6 c7 c8 c9 c10 c11 c12 c13 c14 z h hA hwk F5;by_cases e0:yk.line=0
 ·have g2:decide (yk.line=0)=true:=by simpa using e0
  have hn:y0=({ x with w:=some yk }:Sn).chunk yk.at_:=by rw [<- HY.out,qg e0]
  have HN:=qb hn;rw [g2];clear hn e0;obtain ⟨c0,c1,c2,c3,c4,c5,c6,c7,c8,c9,c10,c11,c12,c13,c14⟩:=zu h5.o;unfold vh at c9;simp only at c9;have y9:=(xh k5).2.2.2.2.2.2.2.2.2;go_wp2_with fail;refine (Su { x with w:=some yk } yk.at_ b bk p q (some bw) lp iv w5 h5.o h5.k).mono ?_;rintro e w6 ⟨bl,rfl,hbl,o6,m6,F6⟩;have hw5:=HW.out;have hlw:=HL.out.1;have hnd6:(b :: bk :: ([bw]++([bl]++iv.ownBlock.toList))).Nodup:=Y8 (A:=[b,bk,bw]) (Y:=Bl) (Y':=[bl]) (n:=w.heap.size) HL.out.2.1 hlw Ma Mv;have hmem:∀ k,k∈b :: bk :: ([bw]++([bl]++iv.ownBlock.toList))->k∈b :: bk :: ([bw]++(Bl++iv.ownBlock.toList))\/w.heap.size<=k:=q2q (A:=[b,bk,bw]) (Y:=Bl) (Y':=[bl]) (n:=w.heap.size) Mv;have HP:=qb (show Xt w6 (({ x with w:=some yk }:Sn).chunk yk.at_) b bk (some bw) (some bl) iv [bw] [bl] from ⟨o6,Ob.kept h5.k F6 Pq,⟨bw,rfl,Ob.kept k5 F6 (by simp;exact Ne.symm nbw.1),rfl⟩,⟨bl,rfl,q06.new m6⟩,h5.s.kept F6 (fun g hg hi=>by simp at hi;subst hi;exact n4 hg),fun g hg=>ql (h5.g g hg) F6.size,hnd6⟩);have HM:=qb hmem;have HA6:=qb (A5.kept F6 Oe Oh);have HD6:=qb (D5.trans (F6.mono));clear c0 c1 c2 c3 c4 c5 c6 c7 c8 c9 c10 c11 c12 c13 c14 y9 h5 k5 A5 D5 F6 m6 hnd6 hmem hlw;obtain ⟨c0,c1,c2,c3,c4,c5,c6,c7,c8,c9,c10,c11,c12,c13,c14⟩:=zu o6;unfold Sn.chunk at c11;simp only at c11;go_wp2_with fail;go_ret;rw [HN.out,HKS.out.2];exact Ie
 ·have g2:decide (yk.line=0)=false:=by simpa using e0
  have hn:y0 = { x with w:=some yk }:=by rw [<- HY.out,qf e0]
  have HN:=qb hn;rw [g2];clear hn e0;obtain ⟨c0,c1,c2,c3,c4,c5,c6,c7,c8,c9,c10,c11,c12,c13,c14⟩:=zu h5.o;go_wp2_with fail;go_ret;rw [HN.out,HKS.out.2];exact Ij
theorem qcr (x:Sn) (s:St) (N:Nat) (hx:Y1 N x) (hl:x.line=3) (b bk p q:Nat) (wp lp:Option Nat) (iv:Value) (Bw Bl:List Nat) (w:World) (h:Xt w x b bk wp lp iv Bw Bl) (hA:Rar w p q s) (hp:p∉b :: bk :: (Bw++(Bl++iv.ownBlock.toList))) (hq:q∉b :: bk :: (Bw++(Bl++iv.ownBlock.toList))) :
  Calls Tryz.prog 71 #[.pointer (some ⟨b,0,none⟩),.pointer (some ⟨p,0,none⟩)] w (Stp w (fun w' B'=>Kr w' B' b (if qx s.l (wrap64 x.n)<=x.hi then x.chunk x.n else { x with line:=4 })) (b :: bk :: (Bw++(Bl++iv.ownBlock.toList))) p q (s.load (wrap64 x.n)) (false)):=by
 generalize hy:(if qx s.l (wrap64 x.n)<=x.hi then x.chunk x.n else { x with line:=4 })=y0;have HY:=qb hy;clear hy;have hlt:=h.inn.lt;have hnd:=h.nd;simp only [List.nodup_cons,List.mem_cons,List.mem_append,not_or] at hnd;obtain ⟨⟨n1,n2,n3,n4⟩,⟨n5,n6,n7⟩,n8⟩:=hnd;have hp':=hp;have hq':=hq;simp only [List.mem_cons,List.mem_append,not_or] at hp' hq';obtain ⟨p1,p2,p3,p4,p5⟩:=hp';obtain ⟨q1,q2,q3,q4,q5⟩:=hq';have HL:=qb (qd hlt (qd h.nd (qd hp hq)));clear hlt hp hq;obtain ⟨c0,c1,c2,c3,c4,c5,c6,c7,c8,c9,c10,c11,c12,c13,c14⟩:=zu h.o;have z:=h.o.frozen;go_enter Tryz.func71,Tryz.ntmps71;go_wp2_with fail;have S1:Fr [b] w (w.setCell ⟨b,11,none⟩ (.int .i64 4)):=Fr.setCell _ Ma;have h1:Xt (w.setCell ⟨b,11,none⟩ (.int .i64 4)) { x with line:=4 } b bk wp lp iv Bw Bl:=h.re S1 (fun k hk hi=>by simp at hi;subst hi;simp only [List.mem_cons,List.mem_append] at hk;rcases hk with h | h | h | h <;> contradiction) (Ob.set h.o (i:=11) (.int .i64 4)) rfl rfl rfl rfl;have A1:=Rar.set hA (Ne.symm p1) (Ne.symm q1) (i:=11) (.int .i64 4);have D1:Fr (p :: q :: b :: bk :: (Bw++(Bl++iv.ownBlock.toList))) w (w.setCell ⟨b,11,none⟩ (.int .i64 4)):=S1.mono;have HW:=qb S1.size;clear c0 c1 c2 c3 c4 c5 c6 c7 c8 c9 c10 c11 c12 c13 c14 z h hA S1;generalize (w.setCell ⟨b,11,none⟩ (.int .i64 4))=w1 at *;refine ze Me [p,q] (fun w2 F2=>?_);refine epq [true,true,true,true,true,true,false,true,true,true,true,false] 2 (F2.mono) ?_;apply qh;refine ⟨fun wf Ff=>?_,?_⟩
 ·obtain ⟨c0,c1,c2,c3,c4,c5,c6,c7,c8,c9,c10,c11,c12,c13,c14⟩:=zu (Ob.kept h1.o Ff Nn);have j7:=qc c7;have j13:=qc c13;exact Ls
 refine eoq 6 (fun w3 F3=>?_);have E:=F2.trans F3;clear F2 F3;go_wp2_with fail;refine (Ref.zl _ p q s _ (A1.kept E)).mono ?_;rintro e w5 ⟨rfl,A5,F5⟩;have E5:=(E.mono (T:=[p,q]) Ma).trans F5;clear E F5;generalize hv:qx s.l (wrap64 x.n)=v at *;have HV:=qb hv;clear hv;go_wp2_with fail;refine qo ⟨E5,?_⟩;refine eoq 11 (fun w6 F6=>?_);have E6:=E5.then F6;have A6:=A5.kept F6;clear E5 F6 A5;go_wp2_with fail;refine qo ⟨E6,?_⟩;refine zw Me (fun w7 F7=>?_);have E7:=E6.then F7;have A7:=A6.kept F7;clear E6 F7 A6;have h5:=h1.re E7 (fun k hk hi=>by simp only [List.mem_cons,List.mem_append,List.not_mem_nil,or_false] at hk hi;rcases hi with rfl | rfl <;> rcases hk with h | h | h | h <;> contradiction) (Ob.kept h1.o E7 Nn) rfl rfl rfl rfl;have D5:Fr (p :: q :: b :: bk :: (Bw++(Bl++iv.ownBlock.toList))) w w7:=D1.trans (E7.mono);have HW7:=qb (qi HW.out E7.size);clear h1 A1 D1 E7;obtain ⟨c0,c1,c2,c3,c4,c5,c6,c7,c8,c9,c10,c11,c12,c13,c14⟩:=zu h5.o;by_cases e0:v<=x.hi
 ·have g2:decide (v<=x.hi)=true:=by simpa using e0
  have hn:y0=({ x with line:=4 }:Sn).chunk x.n:=by rw [<- HY.out,qg e0];rfl
  have HN:=qb hn;clear hn e0;go_wp2_with fail;rotate_left
  ·exfalso;have:=of_decide_eq_true g2;omega
  refine (Su { x with line:=4 } x.n b bk p q wp lp iv w7 h5.o h5.k).mono ?_;rintro e w6 ⟨bl,rfl,hbl,o6,m6,F6⟩;have hw5:=HW7.out;have hlw:=HL.out.1;have hnd6:(b :: bk :: (Bw++([bl]++iv.ownBlock.toList))).Nodup:=Y8 (A:=b :: bk :: Bw) (Y:=Bl) (Y':=[bl]) (n:=w.heap.size) HL.out.2.1 hlw Ma Mv;have hmem:∀ k,k∈b :: bk :: (Bw++([bl]++iv.ownBlock.toList))->k∈b :: bk :: (Bw++(Bl++iv.ownBlock.toList))\/w.heap.size<=k:=q2q (A:=b :: bk :: Bw) (Y:=Bl) (Y':=[bl]) (n:=w.heap.size) Mv;have HP:=qb (show Xt w6 (({ x with line:=4 }:Sn).chunk x.n) b bk wp (some bl) iv Bw [bl] from ⟨o6,Ob.kept h5.k F6 Pq,h5.ww.kept F6 (fun k hk hi=>by simp at hi;subst hi;exact n2 hk),⟨bl,rfl,q06.new m6⟩,h5.s.kept F6 (fun g hg hi=>by simp at hi;subst hi;exact n4 hg),fun g hg=>ql (h5.g g hg) F6.size,hnd6⟩);have HM:=qb hmem;have HA6:=qb (A7.kept F6 Oe Oh);have HD6:=qb (D5.trans (F6.mono));clear c0 c1 c2 c3 c4 c5 c6 c7 c8 c9 c10 c11 c12 c13 c14 h5 A7 D5 F6 m6 hnd6 hmem hlw;obtain ⟨c0,c1,c2,c3,c4,c5,c6,c7,c8,c9,c10,c11,c12,c13,c14⟩:=zu o6;unfold Sn.chunk at c11;simp only at c11;go_wp2_with fail;go_ret;rw [HN.out];exact Ie
 ·have g2:decide (v<=x.hi)=false:=by simpa using e0
  have hn:y0 = { x with line:=4 }:=by rw [<- HY.out,qf e0]
  have HN:=qb hn;clear hn e0;go_wp2_with fail
  ·exfalso;have:=of_decide_eq_false g2;omega
  go_ret;rw [HN.out];exact Stp.of rfl h5.inn (fun k hk=>.inl hk) A7 D5
theorem qcj (x:Sn) (s:St) (N:Nat) (hx:Y1 N x) (hl:x.line=1) (y:Lok) (hly:x.l=some y) (hN:N<=40000) (b bk p q:Nat) (wp lp:Option Nat) (iv:Value) (Bw Bl:List Nat) (w:World) (h:Xt w x b bk wp lp iv Bw Bl) (hA:Rar w p q s) (hp:p∉b :: bk :: (Bw++(Bl++iv.ownBlock.toList))) (hq:q∉b :: bk :: (Bw++(Bl++iv.ownBlock.toList))) :
  Calls Tryz.prog 71 #[.pointer (some ⟨b,0,none⟩),.pointer (some ⟨p,0,none⟩)] w (Stp w (fun w' B'=>Kr w' B' b (if (y.step s).1.line=0 then { x with l:=some (y.step s).1,items:=(y.step s).1.l.foldl Xh x.items,line:=2 } else { x with l:=some (y.step s).1 })) (b :: bk :: (Bw++(Bl++iv.ownBlock.toList))) p q ((y.step s).2) (false)):=by
 generalize hy:(if (y.step s).1.line=0 then { x with l:=some (y.step s).1,items:=(y.step s).1.l.foldl Xh x.items,line:=2 } else { x with l:=some (y.step s).1 })=y0;have HY:=qb hy;clear hy;have hlt:=h.inn.lt;have hnd:=h.nd;simp only [List.nodup_cons,List.mem_cons,List.mem_append,not_or] at hnd;obtain ⟨⟨n1,n2,n3,n4⟩,⟨n5,n6,n7⟩,n8⟩:=hnd;have hp':=hp;have hq':=hq;simp only [List.mem_cons,List.mem_append,not_or] at hp' hq';obtain ⟨p1,p2,p3,p4,p5⟩:=hp';obtain ⟨q1,q2,q3,q4,q5⟩:=hq';have HL:=qb (qd hlt (qd h.nd (qd hp hq)));clear hlt hp hq;obtain ⟨c0,c1,c2,c3,c4,c5,c6,c7,c8,c9,c10,c11,c12,c13,c14⟩:=zu h.o;have z:=h.o.frozen;obtain ⟨bl,rfl,hlk⟩:∃ bl,lp=some bl/\q06 w Bl bl y:=by have:=h.l;rw [hly] at this;exact this
 unfold vh at c10;simp only at c10;go_enter Tryz.func71,Tryz.ntmps71;go_wp2_with fail;have hyo:=hx.l y hly;have hyo2:=hyo.step s;refine (q61 y hyo Bl bl p q s w hlk hA p4 q4).mono ?_;rintro e w5 ⟨rfl,⟨B3,k1,k2⟩,A5,F5⟩;generalize hyk:(y.step s).1=yk at *;generalize hys:(y.step s).2=ys at *;have hlw:=HL.out.1;have hnd5:(b :: bk :: (Bw++(B3++iv.ownBlock.toList))).Nodup:=Y8 (A:=b :: bk :: Bw) (Y:=Bl) (Y':=B3) (n:=w.heap.size) HL.out.2.1 hlw k1.nd k2;have HM:=qb (show ∀ k,k∈b :: bk :: (Bw++(B3++iv.ownBlock.toList))->k∈b :: bk :: (Bw++(Bl++iv.ownBlock.toList))\/w.heap.size<=k from q2q (A:=b :: bk :: Bw) (Y:=Bl) (Y':=B3) (n:=w.heap.size) k2);have hdis:∀ k,k∈Bw->k∉Bl:=fun k hk hi=>(List.nodup_append.1 n8).2.2 k hk k (List.mem_append.2 (.inl hi)) rfl
 have hdis2:∀ k,k∈iv.ownBlock.toList->k∉Bl:=fun k hk hi=>(List.nodup_append.1 (List.nodup_append.1 n8).2.1).2.2 k hi k hk rfl
 have h5:Xt w5 { x with l:=some yk } b bk wp (some bl) iv Bw B3:=⟨Ob.kept h.o F5 (by simp only [List.mem_cons,not_or];exact ⟨Ne.symm p1,Ne.symm q1,n3⟩),Ob.kept h.k F5 (by simp only [List.mem_cons,not_or];exact ⟨Ne.symm p2,Ne.symm q2,n6⟩),h.ww.kept F5 (fun k hk=>by simp only [List.mem_cons,not_or];exact ⟨fun e=>p3 (e ▸ hk),fun e=>q3 (e ▸ hk),hdis k hk⟩),⟨bl,rfl,k1⟩,h.s.kept F5 (fun k hk=>by simp only [List.mem_cons,not_or];exact ⟨fun e=>p5 (e ▸ hk),fun e=>q5 (e ▸ hk),hdis2 k hk⟩),fun g hg=>ql (h.g g hg) F5.size,hnd5⟩;have D5:Fr (p :: q :: b :: bk :: (Bw++(Bl++iv.ownBlock.toList))) w w5:=F5.mono (by intro k hk;simp only [List.mem_cons,List.mem_append] at hk ⊢;rcases hk with h | h | h <;> simp [h]);have HKS:=qb (qd hyk hys);have HW:=qb F5.size;clear hyk hys c0 c1 c2 c3 c4 c5 c6 c7 c8 c9 c10 c11 c12 c13 c14 z h hA hlk F5 hdis hdis2 hlw;by_cases e0:yk.line=0
 ·have g2:decide (yk.line=0)=true:=by simpa using e0
  have hn:y0 = { x with l:=some yk,items:=yk.l.foldl Xh x.items,line:=2 }:=by rw [<- HY.out,qg e0]
  have HN:=qb hn;rw [g2];clear hn e0;obtain ⟨lv,l1,l2,l3,rfl,l5⟩:=k1;have hnn:=hnd5;simp only [List.nodup_cons,List.mem_cons,List.mem_append,not_or] at hnn;go_wp2_with fail;refine (q5k { x with l:=some yk } yk b bk bl wp iv lv w5 h5.o l1 l2 h5.s (by have:=hyo2.len;have:=hyo2.i1;omega) (by have:=hx.n;show x.items.length<=800000;omega) hnn.1.2.2.1.1 hnn.1.2.2.1.2 n4).mono ?_;rintro e w6 ⟨iv',rfl,o6,s6,d6,F6⟩;have hw5:=HW.out;have hlb:∀ k,k∈b :: bk :: (Bw++((bl :: lv.ownBlock.toList)++iv.ownBlock.toList))->k<w5.heap.size:=h5.inn.lt
  have own6:∀ g,g∈iv'.ownBlock.toList->g∈iv.ownBlock.toList\/w5.heap.size<=g:=fun g hg=>by
   rcases d6 with d | ⟨-,d⟩
   ·rw [d] at hg;exact .inl hg
   ·exact .inr (d g hg)
  have lt6:∀ g,g∈iv'.ownBlock.toList->g<w6.heap.size:=fun g hg=>by
   rcases d6 with d | ⟨hne,-⟩
   ·rw [d] at hg;exact ql (h5.g g hg) F6.size
   ·exact Qh s6 hne g hg
  have hnd6:(b :: bk :: (Bw++((bl :: lv.ownBlock.toList)++iv'.ownBlock.toList))).Nodup:=by have:=Y8 (A:=b :: bk :: (Bw++(bl :: lv.ownBlock.toList))) (Y:=iv.ownBlock.toList) (Z:=[]) (Y':=iv'.ownBlock.toList) (n:=w5.heap.size) (by simpa [List.append_assoc] using hnd5) (by simpa [List.append_assoc] using hlb) (qaf _) own6;simpa [List.append_assoc] using this
  have hmem:∀ k,k∈b :: bk :: (Bw++((bl :: lv.ownBlock.toList)++iv'.ownBlock.toList))->k∈b :: bk :: (Bw++(Bl++iv.ownBlock.toList))\/w.heap.size<=k:=by
   intro k hk;by_cases hko:k∈iv'.ownBlock.toList
   ·rcases own6 k hko with h | h
    ·exact .inl (by simp only [List.mem_cons,List.mem_append];simp [h])
    ·exact .inr Ly
   ·refine HM.out k ?_;simp only [List.mem_cons,List.mem_append] at hk ⊢;rcases hk with h | h | h | (h | h) | h <;> first | exact absurd h hko | simp [h]
  have hbl:¬ b=bl:=hnn.1.2.2.1.1;have hblo:b∉lv.ownBlock.toList:=hnn.1.2.2.1.2;have h6:Xt w6 { x with l:=some yk,items:=yk.l.foldl Xh x.items } b bk wp (some bl) iv' Bw (bl :: lv.ownBlock.toList):=⟨o6,Ob.kept h5.k F6 Pq,h5.ww.kept F6 (fun k hk hi=>by simp at hi;subst hi;exact n2 hk),h5.l.kept F6 (fun k hk hi=>by simp at hi;subst hi;simp only [List.mem_cons] at hk;rcases hk with h | h;exact hbl h;exact hblo h),s6,lt6,hnd6⟩;have HM6:=qb hmem;have A6:=A5.kept F6 Oe Oh;have D6:=D5.trans (F6.mono (T:=p :: q :: b :: bk :: (Bw++(Bl++iv.ownBlock.toList))) Ma);have nb6:b∉bk :: (Bw++((bl :: lv.ownBlock.toList)++iv'.ownBlock.toList)):=(List.nodup_cons.1 hnd6).1;clear h5 A5 D5 F6 hnd5 hnd6 hmem own6 lt6 hlb hnn l1 l2 l3 l5 d6 s6;obtain ⟨c0,c1,c2,c3,c4,c5,c6,c7,c8,c9,c10,c11,c12,c13,c14⟩:=zu h6.o;have z:=h6.o.frozen;go_wp2_with fail;go_ret;rw [HN.out,HKS.out.2];have S6:Fr [b] w6 (w6.setCell ⟨b,11,none⟩ (.int .i64 2)):=Fr.setCell _ Ma;exact Stp.of rfl (Xt.inn (h6.re S6 (fun k hk hi=>by simp at hi;subst hi;exact nb6 hk) (Ob.set h6.o (i:=11) (.int .i64 2)) rfl rfl rfl rfl)) HM6.out (A6.kept S6 Oe Oh) (D6.trans (S6.mono))
 ·have g2:decide (yk.line=0)=false:=by simpa using e0
  have hn:y0 = { x with l:=some yk }:=by rw [<- HY.out,qf e0]
  have HN:=qb hn;rw [g2];clear hn e0;obtain ⟨c0,c1,c2,c3,c4,c5,c6,c7,c8,c9,c10,c11,c12,c13,c14⟩:=zu h5.o;go_wp2_with fail;go_ret;rw [HN.out,HKS.out.2];exact Stp.of rfl h5.inn HM.out A5 D5
theorem q6d (x:Sn) (N:Nat) (hx:Y1 N x) (hN:N<=40000) (B:List Nat) (b p q:Nat) (s:St) (w:World) (h:Kr w B b x) (hA:Rar w p q s) (hp:p∉B) (hq:q∉B) :
  Calls Tryz.prog 71 #[.pointer (some ⟨b,0,none⟩),.pointer (some ⟨p,0,none⟩)] w (Stp w (fun w' B'=>Kr w' B' b (x.step s).1) B p q (x.step s).2 (decide ((x.step s).1.line=0))):=by
 obtain ⟨bk,wp,lp,iv,Bw,Bl,hpt,rfl⟩:=h.pt;by_cases l10:x.line=10
 ·by_cases hh:x.hi<x.lo
  ·have e:x.step s=({ x with line:=0 },s):=by unfold Sn.step;rw [qg l10,qg hh]
   rw [e];exact q8b x s N hx l10 hh b bk p q wp lp iv Bw Bl w hpt hA hp hq
  ·by_cases hd:(x.k.step s).1.line=0
   ·have e:x.step s=({ x with k:=(x.k.step s).1,w:=some (Wk.new x.c x.lo),line:=if (x.k.step s).1.e=0 then 11 else 0 },(x.k.step s).2):=by unfold Sn.step;rw [qg l10,qf hh,qg hd]
    have e2:decide ((if (x.k.step s).1.e=0 then (11:Int) else 0)=0)=decide (¬ (x.k.step s).1.e=0):=by split <;> rename_i h <;> simp [h]
    rw [e];show Calls _ _ _ _ (Stp _ _ _ _ _ _ (decide ((if (x.k.step s).1.e=0 then (11:Int) else 0)=0)));rw [e2];exact q8g x s N hx l10 hh hd b bk p q wp lp iv Bw Bl w hpt hA hp hq
   ·have e:x.step s=({ x with k:=(x.k.step s).1 },(x.k.step s).2):=by unfold Sn.step;rw [qg l10,qf hh,qf hd]
    rw [e];show Calls _ _ _ _ (Stp _ _ _ _ _ _ (decide (x.line=0)));rw [show decide (x.line=0)=false by simp [l10]];exact q91 x s N hx l10 hh hd b bk p q wp lp iv Bw Bl w hpt hA hp hq
 ·by_cases l11:x.line=11
  ·obtain ⟨y,hy⟩:∃ y,x.w=some y:=by cases hw:x.w with | none=>exact absurd hw (hx.w1 l11) | some y=>exact ⟨y,rfl⟩
   have e:x.step s=(if (y.step s).1.line=0 then ({ x with w:=some (y.step s).1 }:Sn).chunk (y.step s).1.at_ else { x with w:=some (y.step s).1 },(y.step s).2):=by unfold Sn.step;rw [qf l10,qg l11,hy]
   have e2:(if (y.step s).1.line=0 then ({ x with w:=some (y.step s).1 }:Sn).chunk (y.step s).1.at_ else { x with w:=some (y.step s).1 }).line≠0:=by split;simp [Sn.chunk];simp [l11]
   rw [e];show Calls _ _ _ _ (Stp _ _ _ _ _ _ (decide (_=0)));rw [decide_eq_false e2];exact qby x s N hx l11 y hy b bk p q wp lp iv Bw Bl w hpt hA hp hq
  ·by_cases l1:x.line=1
   ·obtain ⟨y,hy⟩:∃ y,x.l=some y:=by cases hw:x.l with | none=>exact absurd hw (hx.l1 l1) | some y=>exact ⟨y,rfl⟩
    have e:x.step s=(if (y.step s).1.line=0 then { x with l:=some (y.step s).1,items:=(y.step s).1.l.foldl Xh x.items,line:=2 } else { x with l:=some (y.step s).1 },(y.step s).2):=by unfold Sn.step;rw [qf l10,qf l11,qg l1,hy]
    have e2:(if (y.step s).1.line=0 then ({ x with l:=some (y.step s).1,items:=(y.step s).1.l.foldl Xh x.items,line:=2 }:Sn) else { x with l:=some (y.step s).1 }).line≠0:=by split;simp;simp [l1]
    rw [e];show Calls _ _ _ _ (Stp _ _ _ _ _ _ (decide (_=0)));rw [decide_eq_false e2];exact qcj x s N hx l1 y hy hN b bk p q wp lp iv Bw Bl w hpt hA hp hq
   ·by_cases l2:x.line=2
    ·have e:x.step s=({ x with n:=atW (qx s.l (wrap64 (x.at_+2))),line:=if atW (qx s.l (wrap64 (x.at_+2)))=0 then 4 else 3 },s.load (wrap64 (x.at_+2))):=by unfold Sn.step;rw [qf l10,qf l11,qf l1,qg l2]
     have e2:(if atW (qx s.l (wrap64 (x.at_+2)))=0 then (4:Int) else 3)≠0:=by split <;> simp
     rw [e];show Calls _ _ _ _ (Stp _ _ _ _ _ _ (decide (_=0)));rw [decide_eq_false e2];exact qdl x s N hx l2 b bk p q wp lp iv Bw Bl w hpt hA hp hq
    ·by_cases l3:x.line=3
     ·have e:x.step s=(if qx s.l (wrap64 x.n)<=x.hi then x.chunk x.n else { x with line:=4 },s.load (wrap64 x.n)):=by unfold Sn.step;rw [qf l10,qf l11,qf l1,qf l2,qg l3]
      have e2:(if qx s.l (wrap64 x.n)<=x.hi then x.chunk x.n else { x with line:=4 }).line≠0:=by split;simp [Sn.chunk];simp
      rw [e];show Calls _ _ _ _ (Stp _ _ _ _ _ _ (decide (_=0)));rw [decide_eq_false e2];exact qcr x s N hx l3 b bk p q wp lp iv Bw Bl w hpt hA hp hq
     ·by_cases l4:x.line=4
      ·have e:x.step s=({ x with line:=0 },s.store (qab x.t) (Qi x.seq 0)):=by unfold Sn.step;rw [qf l10,qf l11,qf l1,qf l2,qf l3,qg l4]
       rw [e];exact qd7 x s N hx l4 b bk p q wp lp iv Bw Bl w hpt hA hp hq
      ·have e:x.step s=(x,s):=by unfold Sn.step;rw [qf l10,qf l11,qf l1,qf l2,qf l3,qf l4]
       rw [e];exact qdr x s N hx ⟨l10,l11,l1,l2,l3,l4⟩ b bk p q wp lp iv Bw Bl w hpt hA hp hq
end Go.Proofs.YtbddhncgemeohaaGreatDoor.Mx
