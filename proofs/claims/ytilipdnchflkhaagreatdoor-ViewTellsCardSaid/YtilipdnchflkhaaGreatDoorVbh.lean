/- Texts that this proof leans on, one behind the other: Scan3. -/
import Derived.Test.YtilipdnchflkhaaGreatDoorVbg
set_option linter.unusedVariables false
set_option linter.unusedSimpArgs false
set_option maxRecDepth 100000
set_option maxHeartbeats 12800000
namespace Go.Proofs.YtilipdnchflkhaaGreatDoor.Mx
open Go.RowKit Go.Proofs.YtilipdnchflkhaaGreatDoor.Ar Go.Proofs.YtilipdnchflkhaaGreatDoor.Ref Go.Proofs.YtilipdnchflkhaaGreatDoor.Mp
structure SnOk (N:Nat) (x:Sn):Prop where
 c:x.c.Ok
 kc:x.k.c=x.c
 kt:x.k.t=x.t
 t0:0≤x.t∧x.t≤8
 lo:0≤x.lo∧x.lo≤63
 w:∀ y,x.w=some y→y.c=x.c∧y.key=x.lo
 w1:x.line=11→x.w≠none
 l:∀ y,x.l=some y→LokOk y
 l1:x.line=1→x.l≠none
 n:x.items.length≤16 * N
theorem SnOk.new {c:Cf} (hc:c.Ok) {t seq lo hi:Int} (ht:0≤t∧t≤8) (hl:0≤lo∧lo≤63):SnOk 0 (Sn.new c t seq lo hi) :=
 ⟨hc,rfl,rfl,ht,hl,fun y h=>(by cases h),fun h=>(by simp [Sn.new] at h),fun y h=>(by cases h),fun h=>(by simp [Sn.new] at h),by simp [Sn.new]⟩
theorem km_step_c (x:Km) (s:St):(x.step s).1.c=x.c∧(x.step s).1.t=x.t:=by
 unfold Km.step
 split
 ·unfold Km.next
  (repeat' split) <;> exact ⟨rfl,rfl⟩
 ·exact ⟨rfl,rfl⟩
theorem SnOk.chunk {N:Nat} {x:Sn} (h:SnOk N x) (a:Int):SnOk N (x.chunk a) :=
 ⟨h.c,h.kc,h.kt,h.t0,h.lo,h.w,fun e=>(by simp [Sn.chunk] at e),fun y e=>(by cases e;exact LokOk.new h.c _ _ _ _),fun _=>by simp [Sn.chunk],h.n⟩
theorem SnOk.step {N:Nat} {x:Sn} (h:SnOk N x) (s:St):SnOk (N+1) (x.step s).1:=by
 have up:∀ {y:Sn},SnOk N y→SnOk (N+1) y:=fun k=>⟨k.c,k.kc,k.kt,k.t0,k.lo,k.w,k.w1,k.l,k.l1,Nat.le_trans k.n (by omega)⟩
 unfold Sn.step
 split
 ·split
  ·exact up ⟨h.c,h.kc,h.kt,h.t0,h.lo,h.w,fun e=>by simp at e,h.l,fun e=>by simp at e,h.n⟩
  ·have hk:=km_step_c x.k s
   simp only
   split
   ·refine up ⟨h.c,hk.1.trans h.kc,hk.2.trans h.kt,h.t0,h.lo,fun y e=>by cases e;exact ⟨rfl,rfl⟩,fun e=>by simp,h.l,fun e=>?_,h.n⟩
    simp only at e
    split at e <;> simp at e
   ·exact up ⟨h.c,hk.1.trans h.kc,hk.2.trans h.kt,h.t0,h.lo,h.w,h.w1,h.l,h.l1,h.n⟩
 ·split
  ·split
   ·rename_i y hy
    have hw:=h.w y hy
    have hk:=wk_step_c y s
    have h2:SnOk N { x with w:=some (y.step s).1 }:=⟨h.c,h.kc,h.kt,h.t0,h.lo,fun z e=>by cases e;exact ⟨hk.1.trans hw.1,hk.2.trans hw.2⟩,fun e=>by simp,h.l,h.l1,h.n⟩
    simp only
    split
    ·exact up (h2.chunk _)
    ·exact up h2
   ·exact up h
  ·split
   ·split
    ·rename_i y hy
     have hl:=(h.l y hy).step s
     have h3:=hl.len
     have h4:=hl.i1
     simp only
     split
     ·refine ⟨h.c,h.kc,h.kt,h.t0,h.lo,h.w,fun e=>by simp at e,fun z e=>by cases e;exact hl,fun e=>by simp at e,?_⟩
      have:=takes_len (y.step s).1.l x.items
      have:=h.n
      simp only
      omega
     ·exact up ⟨h.c,h.kc,h.kt,h.t0,h.lo,h.w,h.w1,fun z e=>by cases e;exact hl,fun e=>by simp,h.n⟩
    ·exact up h
   ·split
    ·refine up ⟨h.c,h.kc,h.kt,h.t0,h.lo,h.w,fun e=>?_,h.l,fun e=>?_,h.n⟩
     ·simp only at e;split at e <;> simp at e
     ·simp only at e;split at e <;> simp at e
    ·split
     ·simp only
      split
      ·exact up (h.chunk _)
      ·exact up ⟨h.c,h.kc,h.kt,h.t0,h.lo,h.w,fun e=>by simp at e,h.l,fun e=>by simp at e,h.n⟩
     ·split
      ·exact up ⟨h.c,h.kc,h.kt,h.t0,h.lo,h.w,fun e=>by simp at e,h.l,fun e=>by simp at e,h.n⟩
      ·exact up h
structure SnPt (w:World) (x:Sn) (b bk:Nat) (wp lp:Option Nat) (iv:Value) (Bw Bl:List Nat):Prop where
 o:SnOb w b x bk wp lp iv
 k:KmAt w bk x.k
 ww:OpW w Bw x.w wp
 l:OpL w Bl x.l lp
 s:Sq fT w iv x.items
 g:∀ g,g∈iv.ownBlock.toList→g<w.heap.size
 nd:(b :: bk :: (Bw++(Bl++iv.ownBlock.toList))).Nodup
theorem SnPt.inn {w:World} {x:Sn} {b bk:Nat} {wp lp:Option Nat} {iv:Value} {Bw Bl:List Nat} (h:SnPt w x b bk wp lp iv Bw Bl):SnIn w (b :: bk :: (Bw++(Bl++iv.ownBlock.toList))) b x :=
 ⟨bk,wp,lp,iv,Bw,Bl,h.o,h.k,h.ww,h.l,h.s,h.g,rfl,h.nd⟩
theorem SnIn.pt {w:World} {B:List Nat} {x:Sn} {b:Nat} (h:SnIn w B b x):∃ bk wp lp iv Bw Bl,SnPt w x b bk wp lp iv Bw Bl∧B=b :: bk :: (Bw++(Bl++iv.ownBlock.toList)):=by
 obtain ⟨bk,wp,lp,iv,Bw,Bl,h1,h2,h3,h4,h5,h6,rfl,h8⟩:=h
 exact ⟨bk,wp,lp,iv,Bw,Bl,⟨h1,h2,h3,h4,h5,h6,h8⟩,rfl⟩
theorem SnPt.re {S:List Nat} {w w':World} {x y:Sn} {b bk:Nat} {wp lp:Option Nat} {iv:Value} {Bw Bl:List Nat} (h:SnPt w x b bk wp lp iv Bw Bl) (F:Fr S w w') (hS:∀ k,k∈bk :: (Bw++(Bl++iv.ownBlock.toList))→k∉S) (o:SnOb w' b y bk wp lp iv)
  (ek:y.k=x.k) (ew:y.w=x.w) (el:y.l=x.l) (ei:y.items=x.items):SnPt w' y b bk wp lp iv Bw Bl :=
 ⟨o,by rw [ek];exact Ob.kept h.k F (hS _ (by simp)),by rw [ew];exact h.ww.kept F (fun k hk=>hS k (by simp [hk])),by rw [el];exact h.l.kept F (fun k hk=>hS k (by simp [hk])),by rw [ei];exact h.s.kept F (fun g hg=>hS g (by simp only [List.mem_cons,List.mem_append];simp [hg])),fun g hg=>Nat.lt_of_lt_of_le (h.g g hg) F.size,h.nd⟩
theorem SnPt.rek {S:List Nat} {w w':World} {x:Sn} {b bk:Nat} {wp lp:Option Nat} {iv:Value} {Bw Bl:List Nat} {y:Km} (h:SnPt w x b bk wp lp iv Bw Bl) (F:Fr S w w') (hS:∀ k,k∈b :: (Bw++(Bl++iv.ownBlock.toList))→k∉S) (k:KmAt w' bk y):SnPt w' { x with k:=y } b bk wp lp iv Bw Bl :=
 ⟨Ob.kept h.o F (hS _ (by simp)),k,h.ww.kept F (fun k hk=>hS k (by simp [hk])),h.l.kept F (fun k hk=>hS k (by simp [hk])),h.s.kept F (fun g hg=>hS g (by simp only [List.mem_cons,List.mem_append];simp [hg])),fun g hg=>Nat.lt_of_lt_of_le (h.g g hg) F.size,h.nd⟩
theorem SnPt.rew {S:List Nat} {w w':World} {x:Sn} {b bk bw:Nat} {lp:Option Nat} {iv:Value} {Bl:List Nat} {y:Wk} (h:SnPt w x b bk (some bw) lp iv [bw] Bl) (F:Fr S w w') (hS:∀ k,k∈b :: bk :: (Bl++iv.ownBlock.toList)→k∉S) (k:WkAt w' bw y):SnPt w' { x with w:=some y } b bk (some bw) lp iv [bw] Bl :=
 ⟨Ob.kept h.o F (hS _ (by simp)),Ob.kept h.k F (hS _ (by simp)),⟨bw,rfl,k,rfl⟩,h.l.kept F (fun k hk=>hS k (by simp [hk])),h.s.kept F (fun g hg=>hS g (by simp only [List.mem_cons,List.mem_append];simp [hg])),fun g hg=>Nat.lt_of_lt_of_le (h.g g hg) F.size,h.nd⟩
theorem scan_10a (x:Sn) (s:St) (N:Nat) (hx:SnOk N x) (hl:x.line=10) (hh:x.hi<x.lo) (b bk p q:Nat) (wp lp:Option Nat) (iv:Value) (Bw Bl:List Nat) (w:World) (h:SnPt w x b bk wp lp iv Bw Bl) (hA:Rar w p q s) (hp:p∉b :: bk :: (Bw++(Bl++iv.ownBlock.toList))) (hq:q∉b :: bk :: (Bw++(Bl++iv.ownBlock.toList))) :
  Calls Tryz.prog 147 #[.pointer (some ⟨b,0,none⟩),.pointer (some ⟨p,0,none⟩)] w (Stp w (fun w' B'=>SnIn w' B' b ({ x with line:=0 })) (b :: bk :: (Bw++(Bl++iv.ownBlock.toList))) p q (s) (true)):=by
 generalize hy:({ x with line:=0 })=y0
 have HY:=Lib.hid hy
 clear hy
 have hlt:=h.inn.lt
 have hnd:=h.nd
 simp only [List.nodup_cons,List.mem_cons,List.mem_append,not_or] at hnd
 obtain ⟨⟨n1,n2,n3,n4⟩,⟨n5,n6,n7⟩,n8⟩:=hnd
 have hp':=hp
 have hq':=hq
 simp only [List.mem_cons,List.mem_append,not_or] at hp' hq'
 obtain ⟨p1,p2,p3,p4,p5⟩:=hp'
 obtain ⟨q1,q2,q3,q4,q5⟩:=hq'
 have HL:=Lib.hid (And.intro hlt (And.intro h.nd (And.intro hp hq)))
 clear hlt hp hq
 obtain ⟨c0,c1,c2,c3,c4,c5,c6,c7,c8,c9,c10,c11,c12,c13,c14⟩:=sn_cells h.o
 have z:=h.o.frozen
 go_enter Tryz.func147,Tryz.ntmps147
 go_wp2_with fail
 have k6:=In.cell c6
 have k7:=In.cell c7
 have g1:decide (x.lo>x.hi)=true:=by simpa using hh
 refine wi ?_
 repeat (go_big_quiet_step (fail))
 refine wpQuiet_nil ?_
 intro w5 F5
 have h5:=h.re F5 (by simp) (Ob.up h.o F5) rfl rfl rfl rfl
 have A5:=hA.kept F5
 clear k6 k7 c0 c1 c2 c3 c4 c5 c6 c7 c8 c9 c10 c11 c12 c13 c14 z
 obtain ⟨c0,c1,c2,c3,c4,c5,c6,c7,c8,c9,c10,c11,c12,c13,c14⟩:=sn_cells h5.o
 have z:=h5.o.frozen
 clear h hA
 go_wp2_with fail
 go_ret
 have SC:Fr [b] w5 (w5.setCell ⟨b,11,none⟩ (.int .i64 0)):=Fr.setCell _ (by simp)
 rw [← HY.out]
 exact Stp.of rfl (SnPt.inn (h5.re SC (fun k hk hi=>by simp at hi;subst hi;simp only [List.mem_cons,List.mem_append] at hk;rcases hk with h | h | h | h <;> contradiction) (Ob.set h5.o (i:=11) (.int .i64 0)) rfl rfl rfl rfl)) (fun k hk=>.inl hk) (Rar.set A5 (Ne.symm p1) (Ne.symm q1) _) ((F5.mono).trans (SC.mono))
theorem scan_2 (x:Sn) (s:St) (N:Nat) (hx:SnOk N x) (hl:x.line=2) (b bk p q:Nat) (wp lp:Option Nat) (iv:Value) (Bw Bl:List Nat) (w:World) (h:SnPt w x b bk wp lp iv Bw Bl) (hA:Rar w p q s) (hp:p∉b :: bk :: (Bw++(Bl++iv.ownBlock.toList))) (hq:q∉b :: bk :: (Bw++(Bl++iv.ownBlock.toList))) :
  Calls Tryz.prog 147 #[.pointer (some ⟨b,0,none⟩),.pointer (some ⟨p,0,none⟩)] w (Stp w (fun w' B'=>SnIn w' B' b ({ x with n:=atW (peek s.l (wrap64 (x.at_+2))),line:=if atW (peek s.l (wrap64 (x.at_+2)))=0 then 4 else 3 })) (b :: bk :: (Bw++(Bl++iv.ownBlock.toList))) p q (s.load (wrap64 (x.at_+2))) (false)):=by
 generalize hy:({ x with n:=atW (peek s.l (wrap64 (x.at_+2))),line:=if atW (peek s.l (wrap64 (x.at_+2)))=0 then 4 else 3 })=y0
 have HY:=Lib.hid hy
 clear hy
 have hlt:=h.inn.lt
 have hnd:=h.nd
 simp only [List.nodup_cons,List.mem_cons,List.mem_append,not_or] at hnd
 obtain ⟨⟨n1,n2,n3,n4⟩,⟨n5,n6,n7⟩,n8⟩:=hnd
 have hp':=hp
 have hq':=hq
 simp only [List.mem_cons,List.mem_append,not_or] at hp' hq'
 obtain ⟨p1,p2,p3,p4,p5⟩:=hp'
 obtain ⟨q1,q2,q3,q4,q5⟩:=hq'
 have HL:=Lib.hid (And.intro hlt (And.intro h.nd (And.intro hp hq)))
 clear hlt hp hq
 obtain ⟨c0,c1,c2,c3,c4,c5,c6,c7,c8,c9,c10,c11,c12,c13,c14⟩:=sn_cells h.o
 have z:=h.o.frozen
 go_enter Tryz.func147,Tryz.ntmps147
 go_wp2_with fail
 refine (Ref.load_any _ p q s _ hA).mono ?_;rintro e w5 ⟨rfl,A5,F5⟩
 have h5:=h.re F5 (fun k hk hi=>by simp only [List.mem_cons,List.mem_append,List.not_mem_nil,or_false] at hk hi;rcases hi with rfl | rfl <;> rcases hk with h | h | h | h <;> contradiction) (Ob.kept h.o F5 (by simp;exact ⟨Ne.symm p1,Ne.symm q1⟩)) rfl rfl rfl rfl
 have D5:Fr (p :: q :: b :: bk :: (Bw++(Bl++iv.ownBlock.toList))) w w5:=F5.mono
 clear c0 c1 c2 c3 c4 c5 c6 c7 c8 c9 c10 c11 c12 c13 c14 z h hA F5
 go_wp2_with fail
 refine (at_any _ _).mono ?_;rintro e _ ⟨rfl,rfl⟩
 generalize hv:atW (peek s.l (wrap64 (x.at_+2)))=v at *
 have HV:=Lib.hid hv
 clear hv
 obtain ⟨c0,c1,c2,c3,c4,c5,c6,c7,c8,c9,c10,c11,c12,c13,c14⟩:=sn_cells h5.o
 have z:=h5.o.frozen
 by_cases e0:v=0
 ·have g1:(v == 0)=true:=by simpa using e0
  have hn:y0 = { x with n:=v,line:=4 }:=by rw [← HY.out,if_pos e0]
  subst hn
  clear e0
  have o6:SnOb _ b { x with n:=v,line:=4 } bk wp lp iv:=Ob.set (Ob.set (Ob.set h5.o (i:=13) (.int .i64 v)) (i:=11) (.int .i64 3)) (i:=11) (.int .i64 4)
  have d11:=(sn_cells o6).2.2.2.2.2.2.2.2.2.2.2.1
  go_wp2_with fail
  go_ret
  have S6:Fr [b] w5 (((w5.setCell ⟨b,13,none⟩ (.int .i64 v)).setCell ⟨b,11,none⟩ (.int .i64 3)).setCell ⟨b,11,none⟩ (.int .i64 4)):=((Fr.setCell _ (by simp)).setCell' _ (by simp)).setCell' _ (by simp)
  exact Stp.of rfl (SnPt.inn (h5.re S6 (fun k hk hi=>by simp at hi;subst hi;simp only [List.mem_cons,List.mem_append] at hk;rcases hk with h | h | h | h <;> contradiction) o6 rfl rfl rfl rfl)) (fun k hk=>.inl hk) (A5.kept S6 (by simpa using p1) (by simpa using q1)) (D5.trans (S6.mono))
 ·have g1:(v == 0)=false:=by simpa using e0
  have hn:y0 = { x with n:=v,line:=3 }:=by rw [← HY.out,if_neg e0]
  subst hn
  go_wp2_with fail
  go_ret
  have o6:SnOb _ b { x with n:=v,line:=3 } bk wp lp iv:=Ob.set (Ob.set h5.o (i:=13) (.int .i64 v)) (i:=11) (.int .i64 3)
  have S6:Fr [b] w5 ((w5.setCell ⟨b,13,none⟩ (.int .i64 v)).setCell ⟨b,11,none⟩ (.int .i64 3)):=(Fr.setCell _ (by simp)).setCell' _ (by simp)
  exact Stp.of rfl (SnPt.inn (h5.re S6 (fun k hk hi=>by simp at hi;subst hi;simp only [List.mem_cons,List.mem_append] at hk;rcases hk with h | h | h | h <;> contradiction) o6 rfl rfl rfl rfl)) (fun k hk=>.inl hk) (A5.kept S6 (by simpa using p1) (by simpa using q1)) (D5.trans (S6.mono))
theorem scan_4 (x:Sn) (s:St) (N:Nat) (hx:SnOk N x) (hl:x.line=4) (b bk p q:Nat) (wp lp:Option Nat) (iv:Value) (Bw Bl:List Nat) (w:World) (h:SnPt w x b bk wp lp iv Bw Bl) (hA:Rar w p q s) (hp:p∉b :: bk :: (Bw++(Bl++iv.ownBlock.toList))) (hq:q∉b :: bk :: (Bw++(Bl++iv.ownBlock.toList))) :
  Calls Tryz.prog 147 #[.pointer (some ⟨b,0,none⟩),.pointer (some ⟨p,0,none⟩)] w (Stp w (fun w' B'=>SnIn w' B' b ({ x with line:=0 })) (b :: bk :: (Bw++(Bl++iv.ownBlock.toList))) p q (s.store (psaP x.t) (claimW x.seq 0)) (true)):=by
 generalize hy:({ x with line:=0 })=y0
 have HY:=Lib.hid hy
 clear hy
 have hlt:=h.inn.lt
 have hnd:=h.nd
 simp only [List.nodup_cons,List.mem_cons,List.mem_append,not_or] at hnd
 obtain ⟨⟨n1,n2,n3,n4⟩,⟨n5,n6,n7⟩,n8⟩:=hnd
 have hp':=hp
 have hq':=hq
 simp only [List.mem_cons,List.mem_append,not_or] at hp' hq'
 obtain ⟨p1,p2,p3,p4,p5⟩:=hp'
 obtain ⟨q1,q2,q3,q4,q5⟩:=hq'
 have HL:=Lib.hid (And.intro hlt (And.intro h.nd (And.intro hp hq)))
 clear hlt hp hq
 obtain ⟨c0,c1,c2,c3,c4,c5,c6,c7,c8,c9,c10,c11,c12,c13,c14⟩:=sn_cells h.o
 have z:=h.o.frozen
 go_enter Tryz.func147,Tryz.ntmps147
 go_wp2_with fail
 have ht:=hx.t0
 refine wp_region_env (by kernel_rfl) [p,q] (fun w2 F2=>?_)
 refine ep [true,true,true,true,true,true,true,true,true,true,true,false] 1 (F2.mono) ?_
 apply Exists.intro
 refine ⟨fun wf Ff=>?_,?_⟩
 ·have of:SnOb wf b x bk wp lp iv:=Ob.kept h.o Ff (by simp;exact ⟨Ne.symm p1,Ne.symm q1⟩)
  obtain ⟨c0,c1,c2,c3,c4,c5,c6,c7,c8,c9,c10,c11,c12,c13,c14⟩:=sn_cells of
  have k4:=In.cell c4
  have k5:=In.cell c5
  clear c0 c1 c2 c3 c4 c5 c6 c7 c8 c9 c10 c11 c12 c13 c14
  simp only [sel]
  repeat (go_big_quiet_step ((first | (go_at_call 175;exact Calls.in_same (Ref.psa_any x.t ht.1 ht.2 _)) | (go_at_call 176;exact Calls.in_same (claim_any _ _ _)))))
  exact wpQuiet_nil rfl
 refine eo 11 (fun w3 F3=>?_)
 have E:=F2.trans F3
 clear F2 F3 c0 c1 c2 c3 c4 c5 c6 c7 c8 c9 c10 c11 c12 c13 c14 z
 go_wp2_with fail
 refine (Ref.store_any _ p q s _ _ (hA.kept E)).mono ?_;rintro e w5 ⟨rfl,A5,F5⟩
 have E5:=(E.mono (T:=[p,q]) (by simp)).trans F5
 clear E F5
 go_wp2_with fail
 refine nx_normal ⟨E5,?_⟩
 refine env_done (by kernel_rfl) (fun w6 F6=>?_)
 have E6:=E5.then F6
 have A6:=A5.kept F6
 have h5:=h.re E6 (fun k hk hi=>by simp only [List.mem_cons,List.mem_append,List.not_mem_nil,or_false] at hk hi;rcases hi with rfl | rfl <;> rcases hk with h | h | h | h <;> contradiction) (Ob.kept h.o E6 (by simp;exact ⟨Ne.symm p1,Ne.symm q1⟩)) rfl rfl rfl rfl
 have D5:Fr (p :: q :: b :: bk :: (Bw++(Bl++iv.ownBlock.toList))) w w6:=E6.mono
 clear E5 E6 A5 F6 h hA
 obtain ⟨c0,c1,c2,c3,c4,c5,c6,c7,c8,c9,c10,c11,c12,c13,c14⟩:=sn_cells h5.o
 have z:=h5.o.frozen
 go_wp2_with fail
 go_ret
 have S6:Fr [b] w6 (w6.setCell ⟨b,11,none⟩ (.int .i64 0)):=Fr.setCell _ (by simp)
 rw [← HY.out]
 exact Stp.of rfl (SnPt.inn (h5.re S6 (fun k hk hi=>by simp at hi;subst hi;simp only [List.mem_cons,List.mem_append] at hk;rcases hk with h | h | h | h <;> contradiction) (Ob.set h5.o (i:=11) (.int .i64 0)) rfl rfl rfl rfl)) (fun k hk=>.inl hk) (A6.kept S6 (by simpa using p1) (by simpa using q1)) (D5.trans (S6.mono))
theorem scan_0 (x:Sn) (s:St) (N:Nat) (hx:SnOk N x) (hl:x.line≠10∧x.line≠11∧x.line≠1∧x.line≠2∧x.line≠3∧x.line≠4) (b bk p q:Nat) (wp lp:Option Nat) (iv:Value) (Bw Bl:List Nat) (w:World) (h:SnPt w x b bk wp lp iv Bw Bl) (hA:Rar w p q s) (hp:p∉b :: bk :: (Bw++(Bl++iv.ownBlock.toList))) (hq:q∉b :: bk :: (Bw++(Bl++iv.ownBlock.toList))) :
  Calls Tryz.prog 147 #[.pointer (some ⟨b,0,none⟩),.pointer (some ⟨p,0,none⟩)] w (Stp w (fun w' B'=>SnIn w' B' b (x)) (b :: bk :: (Bw++(Bl++iv.ownBlock.toList))) p q (s) (decide (x.line=0))):=by
 generalize hy:(x)=y0
 have HY:=Lib.hid hy
 clear hy
 have hlt:=h.inn.lt
 have hnd:=h.nd
 simp only [List.nodup_cons,List.mem_cons,List.mem_append,not_or] at hnd
 obtain ⟨⟨n1,n2,n3,n4⟩,⟨n5,n6,n7⟩,n8⟩:=hnd
 have hp':=hp
 have hq':=hq
 simp only [List.mem_cons,List.mem_append,not_or] at hp' hq'
 obtain ⟨p1,p2,p3,p4,p5⟩:=hp'
 obtain ⟨q1,q2,q3,q4,q5⟩:=hq'
 have HL:=Lib.hid (And.intro hlt (And.intro h.nd (And.intro hp hq)))
 clear hlt hp hq
 obtain ⟨c0,c1,c2,c3,c4,c5,c6,c7,c8,c9,c10,c11,c12,c13,c14⟩:=sn_cells h.o
 have z:=h.o.frozen
 obtain ⟨l1,l2,l3,l4,l5,l6⟩:=hl
 go_enter Tryz.func147,Tryz.ntmps147
 go_wp2_with fail
 go_ret
 rw [← HY.out]
 exact Stp.of rfl h.inn (fun k hk=>.inl hk) hA (Fr.refl _ _)
theorem scan_10b (x:Sn) (s:St) (N:Nat) (hx:SnOk N x) (hl:x.line=10) (hh:¬ x.hi<x.lo) (hd:¬ (x.k.step s).1.line=0) (b bk p q:Nat) (wp lp:Option Nat) (iv:Value) (Bw Bl:List Nat) (w:World) (h:SnPt w x b bk wp lp iv Bw Bl) (hA:Rar w p q s) (hp:p∉b :: bk :: (Bw++(Bl++iv.ownBlock.toList))) (hq:q∉b :: bk :: (Bw++(Bl++iv.ownBlock.toList))) :
  Calls Tryz.prog 147 #[.pointer (some ⟨b,0,none⟩),.pointer (some ⟨p,0,none⟩)] w (Stp w (fun w' B'=>SnIn w' B' b ({ x with k:=(x.k.step s).1 })) (b :: bk :: (Bw++(Bl++iv.ownBlock.toList))) p q ((x.k.step s).2) (false)):=by
 generalize hy:({ x with k:=(x.k.step s).1 })=y0
 have HY:=Lib.hid hy
 clear hy
 have hlt:=h.inn.lt
 have hnd:=h.nd
 simp only [List.nodup_cons,List.mem_cons,List.mem_append,not_or] at hnd
 obtain ⟨⟨n1,n2,n3,n4⟩,⟨n5,n6,n7⟩,n8⟩:=hnd
 have hp':=hp
 have hq':=hq
 simp only [List.mem_cons,List.mem_append,not_or] at hp' hq'
 obtain ⟨p1,p2,p3,p4,p5⟩:=hp'
 obtain ⟨q1,q2,q3,q4,q5⟩:=hq'
 have HL:=Lib.hid (And.intro hlt (And.intro h.nd (And.intro hp hq)))
 clear hlt hp hq
 obtain ⟨c0,c1,c2,c3,c4,c5,c6,c7,c8,c9,c10,c11,c12,c13,c14⟩:=sn_cells h.o
 have z:=h.o.frozen
 go_enter Tryz.func147,Tryz.ntmps147
 go_wp2_with fail
 have g1:decide (x.lo>x.hi)=false:=by simpa using hh
 have k6:=In.cell c6
 have k7:=In.cell c7
 refine wi ?_
 repeat (go_big_quiet_step (fail))
 refine wpQuiet_nil ?_
 intro w4 F4
 have h4:=h.re F4 (by simp) (Ob.up h.o F4) rfl rfl rfl rfl
 have A4:=hA.kept F4
 clear k6 k7 c0 c1 c2 c3 c4 c5 c6 c7 c8 c9 c10 c11 c12 c13 c14 z h hA
 obtain ⟨c0,c1,c2,c3,c4,c5,c6,c7,c8,c9,c10,c11,c12,c13,c14⟩:=sn_cells h4.o
 go_wp2_with fail
 refine (claim_step x.k (by rw [hx.kc];exact hx.c) (by rw [hx.kt];exact hx.t0) bk p q s w4 h4.k A4 (Ne.symm p2) (Ne.symm q2)).mono ?_;rintro e w5 ⟨rfl,k5,A5,F5⟩
 generalize hyk:(x.k.step s).1=yk at *
 generalize hys:(x.k.step s).2=ys at *
 have h5:=h4.rek F5 (fun k hk hi=>by simp only [List.mem_cons,List.mem_append,List.not_mem_nil,or_false] at hk hi;rcases hi with rfl | rfl | rfl <;> rcases hk with h | h | h | h <;> first | contradiction | exact absurd h (Ne.symm (by assumption)) | exact absurd h.symm (by assumption)) k5
 have D5:Fr (p :: q :: b :: bk :: (Bw++(Bl++iv.ownBlock.toList))) w w5:=(F4.mono).trans (F5.mono (by intro k hk;simp at hk;rcases hk with rfl | rfl | rfl <;> simp))
 have HKS:=Lib.hid (And.intro hyk hys)
 have HW:=Lib.hid (Nat.le_trans F4.size F5.size)
 clear hyk hys c0 c1 c2 c3 c4 c5 c6 c7 c8 c9 c10 c11 c12 c13 c14 h4 A4 k5 F4 F5
 have g2:decide (yk.line=0)=false:=by simpa using hd
 rw [g2]
 obtain ⟨c0,c1,c2,c3,c4,c5,c6,c7,c8,c9,c10,c11,c12,c13,c14⟩:=sn_cells h5.o
 go_wp2_with fail
 go_ret
 rw [← HY.out,HKS.out.2]
 exact Stp.of rfl h5.inn (fun k hk=>.inl hk) A5 D5
theorem scan_10c (x:Sn) (s:St) (N:Nat) (hx:SnOk N x) (hl:x.line=10) (hh:¬ x.hi<x.lo) (hd:(x.k.step s).1.line=0) (b bk p q:Nat) (wp lp:Option Nat) (iv:Value) (Bw Bl:List Nat) (w:World) (h:SnPt w x b bk wp lp iv Bw Bl) (hA:Rar w p q s) (hp:p∉b :: bk :: (Bw++(Bl++iv.ownBlock.toList))) (hq:q∉b :: bk :: (Bw++(Bl++iv.ownBlock.toList))) :
  Calls Tryz.prog 147 #[.pointer (some ⟨b,0,none⟩),.pointer (some ⟨p,0,none⟩)] w (Stp w (fun w' B'=>SnIn w' B' b ({ x with k:=(x.k.step s).1,w:=some (Wk.new x.c x.lo),line:=if (x.k.step s).1.e=0 then 11 else 0 })) (b :: bk :: (Bw++(Bl++iv.ownBlock.toList))) p q ((x.k.step s).2) (decide (¬ (x.k.step s).1.e=0))):=by
 generalize hy:({ x with k:=(x.k.step s).1,w:=some (Wk.new x.c x.lo),line:=if (x.k.step s).1.e=0 then 11 else 0 })=y0
 have HY:=Lib.hid hy
 clear hy
 have hlt:=h.inn.lt
 have hnd:=h.nd
 simp only [List.nodup_cons,List.mem_cons,List.mem_append,not_or] at hnd
 obtain ⟨⟨n1,n2,n3,n4⟩,⟨n5,n6,n7⟩,n8⟩:=hnd
 have hp':=hp
 have hq':=hq
 simp only [List.mem_cons,List.mem_append,not_or] at hp' hq'
 obtain ⟨p1,p2,p3,p4,p5⟩:=hp'
 obtain ⟨q1,q2,q3,q4,q5⟩:=hq'
 have HL:=Lib.hid (And.intro hlt (And.intro h.nd (And.intro hp hq)))
 clear hlt hp hq
 obtain ⟨c0,c1,c2,c3,c4,c5,c6,c7,c8,c9,c10,c11,c12,c13,c14⟩:=sn_cells h.o
 have z:=h.o.frozen
 go_enter Tryz.func147,Tryz.ntmps147
 go_wp2_with fail
 have g1:decide (x.lo>x.hi)=false:=by simpa using hh
 have k6:=In.cell c6
 have k7:=In.cell c7
 refine wi ?_
 repeat (go_big_quiet_step (fail))
 refine wpQuiet_nil ?_
 intro w4 F4
 have h4:=h.re F4 (by simp) (Ob.up h.o F4) rfl rfl rfl rfl
 have A4:=hA.kept F4
 clear k6 k7 c0 c1 c2 c3 c4 c5 c6 c7 c8 c9 c10 c11 c12 c13 c14 z h hA
 obtain ⟨c0,c1,c2,c3,c4,c5,c6,c7,c8,c9,c10,c11,c12,c13,c14⟩:=sn_cells h4.o
 go_wp2_with fail
 refine (claim_step x.k (by rw [hx.kc];exact hx.c) (by rw [hx.kt];exact hx.t0) bk p q s w4 h4.k A4 (Ne.symm p2) (Ne.symm q2)).mono ?_;rintro e w5 ⟨rfl,k5,A5,F5⟩
 generalize hyk:(x.k.step s).1=yk at *
 generalize hys:(x.k.step s).2=ys at *
 have h5:=h4.rek F5 (fun k hk hi=>by simp only [List.mem_cons,List.mem_append,List.not_mem_nil,or_false] at hk hi;rcases hi with rfl | rfl | rfl <;> rcases hk with h | h | h | h <;> first | contradiction | exact absurd h (Ne.symm (by assumption)) | exact absurd h.symm (by assumption)) k5
 have D5:Fr (p :: q :: b :: bk :: (Bw++(Bl++iv.ownBlock.toList))) w w5:=(F4.mono).trans (F5.mono (by intro k hk;simp at hk;rcases hk with rfl | rfl | rfl <;> simp))
 have HKS:=Lib.hid (And.intro hyk hys)
 have HW:=Lib.hid (Nat.le_trans F4.size F5.size)
 clear hyk hys c0 c1 c2 c3 c4 c5 c6 c7 c8 c9 c10 c11 c12 c13 c14 h4 A4 k5 F4 F5
 have g2:decide (yk.line=0)=true:=by simpa using hd
 rw [g2]
 go_wp2_with fail
 refine wp_region_free (by kernel_rfl) ?_
 refine take_move 1 rfl (by kernel_rfl) (by kernel_rfl) (by kernel_rfl) rfl (fun _ _ d _ _ h=>by cases d <;> exact h) ?_
 go_frame
 refine any_envL [] w5 #[true,true,true,true,true,true,true,true,true,true,true,false,false,false,false,false,false] 10 6 rfl ?_
 refine envM_pass [true,false,true,true,true,true,true,true,true,true,false,false,false,false,false,false,false] 1 (n:=154) (listed':=#[true,true,true,true,true,true,true,true,true,true,false,false,false,false,false,false,false]) rfl (by kernel_rfl) (by kernel_rfl) (by kernel_rfl) (by kernel_rfl) rfl (by kernel_rfl) (fun _ _ d _ _ h=>by cases d <;> exact h) ((Fr.refl _ w5).drew) ?_
 apply Exists.intro
 refine ⟨fun wf Ff=>?_,?_⟩
 ·obtain ⟨c0,c1,c2,c3,c4,c5,c6,c7,c8,c9,c10,c11,c12,c13,c14⟩:=sn_cells (Ob.up h5.o Ff)
  have j0:=In.cell c0
  have j1:=In.cell c1
  have j2:=In.cell c2
  have j3:=In.cell c3
  have j6:=In.cell c6
  clear c0 c1 c2 c3 c4 c5 c6 c7 c8 c9 c10 c11 c12 c13 c14
  simp only [sel]
  repeat (go_big_quiet_step (fail))
  exact wpQuiet_nil rfl
 refine lo 10 (fun w7 F7=>?_)
 have E:=((Fr.refl [] w5).drew.trans F7)
 clear F7
 go_wp2_with fail
 refine (newWalk_any x.c x.lo w7).mono ?_;rintro e w8 ⟨bw,rfl,hbw,m1,F8⟩
 have hE:=E.size
 replace E:=E.trans F8
 clear F8
 go_wp2_with fail
 refine nx_normal ⟨E,?_⟩
 refine envL_tail (k:=11) rfl (by kernel_rfl) (fun w9 F9=>?_)
 replace E:=E.trans F9
 replace m1:WkAt w9 bw (Wk.new x.c x.lo):=Ob.up m1 F9
 clear F9
 have o9:SnOb w9 b { x with k:=yk } bk wp lp iv:=Ob.up h5.o E
 have k9:KmAt w9 bk yk:=Ob.up h5.k E
 have A9:=A5.kept E
 have hb5:=Ob.lt h5.o
 have hbk5:=Ob.lt h5.k
 have nbw:bw≠b∧bw≠bk:=by constructor <;> omega
 obtain ⟨c0,c1,c2,c3,c4,c5,c6,c7,c8,c9,c10,c11,c12,c13,c14⟩:=sn_cells o9
 have z:=o9.frozen
 have o10:SnOb _ b { x with k:=yk,w:=some (Wk.new x.c x.lo),line:=11 } bk (some bw) lp iv:=Ob.set (Ob.set o9 (i:=11) (.int .i64 11)) (i:=9) (.pointer (some ⟨bw,0,none⟩))
 have k10:KmAt _ bk yk:=Ob.other (Ob.other k9 (Ne.symm n1) (i:=11) (.int .i64 11)) (Ne.symm n1) (i:=9) (.pointer (some ⟨bw,0,none⟩))
 have m10:WkAt _ bw (Wk.new x.c x.lo):=Ob.other (Ob.other m1 nbw.1 (i:=11) (.int .i64 11)) nbw.1 (i:=9) (.pointer (some ⟨bw,0,none⟩))
 have A10:=Rar.set (Rar.set A9 (Ne.symm p1) (Ne.symm q1) (i:=11) (.int .i64 11)) (Ne.symm p1) (Ne.symm q1) (i:=9) (.pointer (some ⟨bw,0,none⟩))
 have E10:=((E.mono (T:=[b]) (by simp)).setCell' (b:=b) (i:=11) (.int .i64 11) (by simp)).setCell' (b:=b) (i:=9) (.pointer (some ⟨bw,0,none⟩)) (by simp)
 have y9:=(km_cells k10).2.2.2.2.2.2.2.2.2
 have d8:=(sn_cells o10).2.2.2.2.2.2.2.2.1
 have d11:=(sn_cells o10).2.2.2.2.2.2.2.2.2.2.2.1
 have hlw:=HL.out.1
 have hw5:=HW.out
 have hnd5:(b :: bk :: ([bw]++(Bl++iv.ownBlock.toList))).Nodup:=nodup_in (A:=[b,bk]) (Y:=Bw) (Y':=[bw]) (n:=w.heap.size) HL.out.2.1 hlw (by simp) (by intro k hk;simp at hk;subst hk;exact .inr (by omega))
 have hmem:∀ k,k∈b :: bk :: ([bw]++(Bl++iv.ownBlock.toList))→k∈b :: bk :: (Bw++(Bl++iv.ownBlock.toList))∨w.heap.size≤k:=mem_in (A:=[b,bk]) (Y:=Bw) (Y':=[bw]) (n:=w.heap.size) (by intro k hk;simp at hk;subst hk;exact .inr (by omega))
 have hL5:=h5.l.kept E10 (fun k hk hi=>by simp at hi;subst hi;exact n3 hk)
 have hS5:=h5.s.kept E10 (fun g hg hi=>by simp at hi;subst hi;exact n4 hg)
 have hG5:∀ g,g∈iv.ownBlock.toList→g<_:=fun g hg=>Nat.lt_of_lt_of_le (h5.g g hg) E10.size
 have HP:=Lib.hid (show SnPt _ { x with k:=yk,w:=some (Wk.new x.c x.lo),line:=11 } b bk (some bw) lp iv [bw] Bl from ⟨o10,k10,⟨bw,rfl,m10,rfl⟩,hL5,hS5,hG5,hnd5⟩)
 have HM:=Lib.hid hmem
 have HA10:=Lib.hid A10
 have HD10:=Lib.hid (D5.trans (E10.mono (T:=p :: q :: b :: bk :: (Bw++(Bl++iv.ownBlock.toList))) (by simp)))
 clear h5 k9 m1 A9 E m10 A10 E10 hL5 hS5 hG5 hnd5 hmem hlw D5 A5 k10
 by_cases e0:yk.e=0
 ·have g3:(yk.e != 0)=false:=by simpa using e0
  have hn:y0 = { x with k:=yk,w:=some (Wk.new x.c x.lo),line:=11 }:=by rw [← HY.out,if_pos e0]
  have HE:=Lib.hid e0
  clear e0
  go_wp2_with fail
  go_ret
  rw [HKS.out.1,HKS.out.2]
  exact Stp.of (by rw [show (!decide (yk.e=0))=false by have:=HE.out;simp [this]];rfl) HP.out.inn HM.out HA10.out HD10.out
 ·have g3:(yk.e != 0)=true:=by simpa using e0
  have hn:y0 = { x with k:=yk,w:=some (Wk.new x.c x.lo),line:=0 }:=by rw [← HY.out,if_neg e0]
  have HE:=Lib.hid e0
  clear e0
  have o11:SnOb _ b { x with k:=yk,w:=some (Wk.new x.c x.lo),line:=0 } bk (some bw) lp iv:=Ob.set o10 (i:=11) (.int .i64 0)
  have d12:=(sn_cells o11).2.2.2.2.2.2.2.2.2.2.2.1
  have z10:=o10.frozen
  have HO:=Lib.hid o11
  clear o11
  go_wp2_with fail
  go_ret
  rw [HKS.out.1,HKS.out.2]
  have S6:=Fr.setCell (S:=[b]) (w:=((w9.setCell ⟨b,11,none⟩ (.int .i64 11)).setCell ⟨b,9,none⟩ (.pointer (some ⟨bw,0,none⟩)))) (b:=b) (i:=11) (.int .i64 0) (by simp)
  have nbb:=nbw.1
  exact Stp.of (by rw [show (!decide (yk.e=0))=true by have:=HE.out;simp [this]];rfl) (SnPt.inn (HP.out.re S6 (fun k hk hi=>by simp at hi;subst hi;simp only [List.mem_cons,List.mem_append,List.not_mem_nil,or_false] at hk;rcases hk with h | h | h | h <;> first | contradiction | exact absurd h.symm nbb) HO.out rfl rfl rfl rfl)) HM.out (HA10.out.kept S6 (by simpa using p1) (by simpa using q1)) (HD10.out.trans (S6.mono))
theorem scan_11 (x:Sn) (s:St) (N:Nat) (hx:SnOk N x) (hl:x.line=11) (y:Wk) (hw:x.w=some y) (b bk p q:Nat) (wp lp:Option Nat) (iv:Value) (Bw Bl:List Nat) (w:World) (h:SnPt w x b bk wp lp iv Bw Bl) (hA:Rar w p q s) (hp:p∉b :: bk :: (Bw++(Bl++iv.ownBlock.toList))) (hq:q∉b :: bk :: (Bw++(Bl++iv.ownBlock.toList))) :
  Calls Tryz.prog 147 #[.pointer (some ⟨b,0,none⟩),.pointer (some ⟨p,0,none⟩)] w (Stp w (fun w' B'=>SnIn w' B' b (if (y.step s).1.line=0 then ({ x with w:=some (y.step s).1 }:Sn).chunk (y.step s).1.at_ else { x with w:=some (y.step s).1 })) (b :: bk :: (Bw++(Bl++iv.ownBlock.toList))) p q ((y.step s).2) (false)):=by
 generalize hy:(if (y.step s).1.line=0 then ({ x with w:=some (y.step s).1 }:Sn).chunk (y.step s).1.at_ else { x with w:=some (y.step s).1 })=y0
 have HY:=Lib.hid hy
 clear hy
 have hlt:=h.inn.lt
 have hnd:=h.nd
 simp only [List.nodup_cons,List.mem_cons,List.mem_append,not_or] at hnd
 obtain ⟨⟨n1,n2,n3,n4⟩,⟨n5,n6,n7⟩,n8⟩:=hnd
 have hp':=hp
 have hq':=hq
 simp only [List.mem_cons,List.mem_append,not_or] at hp' hq'
 obtain ⟨p1,p2,p3,p4,p5⟩:=hp'
 obtain ⟨q1,q2,q3,q4,q5⟩:=hq'
 have HL:=Lib.hid (And.intro hlt (And.intro h.nd (And.intro hp hq)))
 clear hlt hp hq
 obtain ⟨c0,c1,c2,c3,c4,c5,c6,c7,c8,c9,c10,c11,c12,c13,c14⟩:=sn_cells h.o
 have z:=h.o.frozen
 obtain ⟨bw,rfl,hwk,rfl⟩:∃ bw,wp=some bw∧WkAt w bw y∧Bw=[bw]:=by have:=h.ww;rw [hw] at this;exact this
 unfold ptrV at c9
 simp only at c9
 go_enter Tryz.func147,Tryz.ntmps147
 go_wp2_with fail
 have hyw:=hx.w y hw
 refine (walk_step y (by rw [hyw.1];exact hx.c) (by rw [hyw.2];exact hx.lo) bw p q s w hwk hA (fun e=>p3 (by simp [e])) (fun e=>q3 (by simp [e]))).mono ?_;rintro e w5 ⟨rfl,k5,A5,F5⟩
 generalize hyk:(y.step s).1=yk at *
 generalize hys:(y.step s).2=ys at *
 have nbw:¬ b=bw∧¬ bk=bw∧bw∉Bl∧bw∉iv.ownBlock.toList:=by
  simp only [List.mem_singleton] at n2 n5
  refine ⟨n2,n5,?_⟩
  have:=List.nodup_cons.1 n8
  simpa [List.mem_append,not_or] using this.1
 have h5:=h.rew F5 (fun k hk hi=>by simp only [List.mem_cons,List.mem_append,List.not_mem_nil,or_false] at hk hi;rcases hi with rfl | rfl | rfl <;> rcases hk with h | h | h | h <;> first | contradiction | exact nbw.1 h.symm | exact nbw.2.1 h.symm | exact nbw.2.2.1 h | exact nbw.2.2.2 h) k5
 have D5:Fr (p :: q :: b :: bk :: ([bw]++(Bl++iv.ownBlock.toList))) w w5:=F5.mono (by intro k hk;simp at hk;rcases hk with rfl | rfl | rfl <;> simp)
 have HKS:=Lib.hid (And.intro hyk hys)
 have HW:=Lib.hid F5.size
 clear hyk hys c0 c1 c2 c3 c4 c5 c6 c7 c8 c9 c10 c11 c12 c13 c14 z h hA hwk F5
 by_cases e0:yk.line=0
 ·have g2:decide (yk.line=0)=true:=by simpa using e0
  have hn:y0=({ x with w:=some yk }:Sn).chunk yk.at_:=by rw [← HY.out,if_pos e0]
  have HN:=Lib.hid hn
  rw [g2]
  clear hn e0
  obtain ⟨c0,c1,c2,c3,c4,c5,c6,c7,c8,c9,c10,c11,c12,c13,c14⟩:=sn_cells h5.o
  unfold ptrV at c9
  simp only at c9
  have y9:=(wk_cells k5).2.2.2.2.2.2.2.2.2
  go_wp2_with fail
  refine (chunk_any { x with w:=some yk } yk.at_ b bk p q (some bw) lp iv w5 h5.o h5.k).mono ?_;rintro e w6 ⟨bl,rfl,hbl,o6,m6,F6⟩
  have hw5:=HW.out
  have hlw:=HL.out.1
  have hnd6:(b :: bk :: ([bw]++([bl]++iv.ownBlock.toList))).Nodup:=nodup_in (A:=[b,bk,bw]) (Y:=Bl) (Y':=[bl]) (n:=w.heap.size) HL.out.2.1 hlw (by simp) (by intro k hk;simp at hk;subst hk;exact .inr (by omega))
  have hmem:∀ k,k∈b :: bk :: ([bw]++([bl]++iv.ownBlock.toList))→k∈b :: bk :: ([bw]++(Bl++iv.ownBlock.toList))∨w.heap.size≤k:=mem_in (A:=[b,bk,bw]) (Y:=Bl) (Y':=[bl]) (n:=w.heap.size) (by intro k hk;simp at hk;subst hk;exact .inr (by omega))
  have HP:=Lib.hid (show SnPt w6 (({ x with w:=some yk }:Sn).chunk yk.at_) b bk (some bw) (some bl) iv [bw] [bl] from ⟨o6,Ob.kept h5.k F6 (by simp;exact Ne.symm n1),⟨bw,rfl,Ob.kept k5 F6 (by simp;exact Ne.symm nbw.1),rfl⟩,⟨bl,rfl,LkIn.new m6⟩,h5.s.kept F6 (fun g hg hi=>by simp at hi;subst hi;exact n4 hg),fun g hg=>Nat.lt_of_lt_of_le (h5.g g hg) F6.size,hnd6⟩)
  have HM:=Lib.hid hmem
  have HA6:=Lib.hid (A5.kept F6 (by simpa using p1) (by simpa using q1))
  have HD6:=Lib.hid (D5.trans (F6.mono))
  clear c0 c1 c2 c3 c4 c5 c6 c7 c8 c9 c10 c11 c12 c13 c14 y9 h5 k5 A5 D5 F6 m6 hnd6 hmem hlw
  obtain ⟨c0,c1,c2,c3,c4,c5,c6,c7,c8,c9,c10,c11,c12,c13,c14⟩:=sn_cells o6
  unfold Sn.chunk at c11
  simp only at c11
  go_wp2_with fail
  go_ret
  rw [HN.out,HKS.out.2]
  exact Stp.of rfl HP.out.inn HM.out HA6.out HD6.out
 ·have g2:decide (yk.line=0)=false:=by simpa using e0
  have hn:y0 = { x with w:=some yk }:=by rw [← HY.out,if_neg e0]
  have HN:=Lib.hid hn
  rw [g2]
  clear hn e0
  obtain ⟨c0,c1,c2,c3,c4,c5,c6,c7,c8,c9,c10,c11,c12,c13,c14⟩:=sn_cells h5.o
  go_wp2_with fail
  go_ret
  rw [HN.out,HKS.out.2]
  exact Stp.of rfl h5.inn (fun k hk=>.inl hk) A5 D5
theorem scan_3 (x:Sn) (s:St) (N:Nat) (hx:SnOk N x) (hl:x.line=3) (b bk p q:Nat) (wp lp:Option Nat) (iv:Value) (Bw Bl:List Nat) (w:World) (h:SnPt w x b bk wp lp iv Bw Bl) (hA:Rar w p q s) (hp:p∉b :: bk :: (Bw++(Bl++iv.ownBlock.toList))) (hq:q∉b :: bk :: (Bw++(Bl++iv.ownBlock.toList))) :
  Calls Tryz.prog 147 #[.pointer (some ⟨b,0,none⟩),.pointer (some ⟨p,0,none⟩)] w (Stp w (fun w' B'=>SnIn w' B' b (if peek s.l (wrap64 x.n)≤x.hi then x.chunk x.n else { x with line:=4 })) (b :: bk :: (Bw++(Bl++iv.ownBlock.toList))) p q (s.load (wrap64 x.n)) (false)):=by
 generalize hy:(if peek s.l (wrap64 x.n)≤x.hi then x.chunk x.n else { x with line:=4 })=y0
 have HY:=Lib.hid hy
 clear hy
 have hlt:=h.inn.lt
 have hnd:=h.nd
 simp only [List.nodup_cons,List.mem_cons,List.mem_append,not_or] at hnd
 obtain ⟨⟨n1,n2,n3,n4⟩,⟨n5,n6,n7⟩,n8⟩:=hnd
 have hp':=hp
 have hq':=hq
 simp only [List.mem_cons,List.mem_append,not_or] at hp' hq'
 obtain ⟨p1,p2,p3,p4,p5⟩:=hp'
 obtain ⟨q1,q2,q3,q4,q5⟩:=hq'
 have HL:=Lib.hid (And.intro hlt (And.intro h.nd (And.intro hp hq)))
 clear hlt hp hq
 obtain ⟨c0,c1,c2,c3,c4,c5,c6,c7,c8,c9,c10,c11,c12,c13,c14⟩:=sn_cells h.o
 have z:=h.o.frozen
 go_enter Tryz.func147,Tryz.ntmps147
 go_wp2_with fail
 have S1:Fr [b] w (w.setCell ⟨b,11,none⟩ (.int .i64 4)):=Fr.setCell _ (by simp)
 have h1:SnPt (w.setCell ⟨b,11,none⟩ (.int .i64 4)) { x with line:=4 } b bk wp lp iv Bw Bl:=h.re S1 (fun k hk hi=>by simp at hi;subst hi;simp only [List.mem_cons,List.mem_append] at hk;rcases hk with h | h | h | h <;> contradiction) (Ob.set h.o (i:=11) (.int .i64 4)) rfl rfl rfl rfl
 have A1:=Rar.set hA (Ne.symm p1) (Ne.symm q1) (i:=11) (.int .i64 4)
 have D1:Fr (p :: q :: b :: bk :: (Bw++(Bl++iv.ownBlock.toList))) w (w.setCell ⟨b,11,none⟩ (.int .i64 4)):=S1.mono
 have HW:=Lib.hid S1.size
 clear c0 c1 c2 c3 c4 c5 c6 c7 c8 c9 c10 c11 c12 c13 c14 z h hA S1
 generalize (w.setCell ⟨b,11,none⟩ (.int .i64 4))=w1 at *
 refine wp_region_env (by kernel_rfl) [p,q] (fun w2 F2=>?_)
 refine ep [true,true,true,true,true,true,false,true,true,true,true,false] 2 (F2.mono) ?_
 apply Exists.intro
 refine ⟨fun wf Ff=>?_,?_⟩
 ·obtain ⟨c0,c1,c2,c3,c4,c5,c6,c7,c8,c9,c10,c11,c12,c13,c14⟩:=sn_cells (Ob.kept h1.o Ff (by simp;exact ⟨Ne.symm p1,Ne.symm q1⟩))
  have j7:=In.cell c7
  have j13:=In.cell c13
  clear c0 c1 c2 c3 c4 c5 c6 c7 c8 c9 c10 c11 c12 c13 c14
  simp only [sel]
  repeat (go_big_quiet_step (fail))
  exact wpQuiet_nil rfl
 refine eo 6 (fun w3 F3=>?_)
 have E:=F2.trans F3
 clear F2 F3
 go_wp2_with fail
 refine (Ref.load_any _ p q s _ (A1.kept E)).mono ?_;rintro e w5 ⟨rfl,A5,F5⟩
 have E5:=(E.mono (T:=[p,q]) (by simp)).trans F5
 clear E F5
 generalize hv:peek s.l (wrap64 x.n)=v at *
 have HV:=Lib.hid hv
 clear hv
 go_wp2_with fail
 refine nx_normal ⟨E5,?_⟩
 refine eo 11 (fun w6 F6=>?_)
 have E6:=E5.then F6
 have A6:=A5.kept F6
 clear E5 F6 A5
 go_wp2_with fail
 refine nx_normal ⟨E6,?_⟩
 refine env_done (by kernel_rfl) (fun w7 F7=>?_)
 have E7:=E6.then F7
 have A7:=A6.kept F7
 clear E6 F7 A6
 have h5:=h1.re E7 (fun k hk hi=>by simp only [List.mem_cons,List.mem_append,List.not_mem_nil,or_false] at hk hi;rcases hi with rfl | rfl <;> rcases hk with h | h | h | h <;> contradiction) (Ob.kept h1.o E7 (by simp;exact ⟨Ne.symm p1,Ne.symm q1⟩)) rfl rfl rfl rfl
 have D5:Fr (p :: q :: b :: bk :: (Bw++(Bl++iv.ownBlock.toList))) w w7:=D1.trans (E7.mono)
 have HW7:=Lib.hid (Nat.le_trans HW.out E7.size)
 clear h1 A1 D1 E7
 obtain ⟨c0,c1,c2,c3,c4,c5,c6,c7,c8,c9,c10,c11,c12,c13,c14⟩:=sn_cells h5.o
 by_cases e0:v≤x.hi
 ·have g2:decide (v≤x.hi)=true:=by simpa using e0
  have hn:y0=({ x with line:=4 }:Sn).chunk x.n:=by rw [← HY.out,if_pos e0];rfl
  have HN:=Lib.hid hn
  clear hn e0
  go_wp2_with fail
  rotate_left
  ·exfalso;have:=of_decide_eq_true g2;omega
  refine (chunk_any { x with line:=4 } x.n b bk p q wp lp iv w7 h5.o h5.k).mono ?_;rintro e w6 ⟨bl,rfl,hbl,o6,m6,F6⟩
  have hw5:=HW7.out
  have hlw:=HL.out.1
  have hnd6:(b :: bk :: (Bw++([bl]++iv.ownBlock.toList))).Nodup:=nodup_in (A:=b :: bk :: Bw) (Y:=Bl) (Y':=[bl]) (n:=w.heap.size) HL.out.2.1 hlw (by simp) (by intro k hk;simp at hk;subst hk;exact .inr (by omega))
  have hmem:∀ k,k∈b :: bk :: (Bw++([bl]++iv.ownBlock.toList))→k∈b :: bk :: (Bw++(Bl++iv.ownBlock.toList))∨w.heap.size≤k:=mem_in (A:=b :: bk :: Bw) (Y:=Bl) (Y':=[bl]) (n:=w.heap.size) (by intro k hk;simp at hk;subst hk;exact .inr (by omega))
  have HP:=Lib.hid (show SnPt w6 (({ x with line:=4 }:Sn).chunk x.n) b bk wp (some bl) iv Bw [bl] from ⟨o6,Ob.kept h5.k F6 (by simp;exact Ne.symm n1),h5.ww.kept F6 (fun k hk hi=>by simp at hi;subst hi;exact n2 hk),⟨bl,rfl,LkIn.new m6⟩,h5.s.kept F6 (fun g hg hi=>by simp at hi;subst hi;exact n4 hg),fun g hg=>Nat.lt_of_lt_of_le (h5.g g hg) F6.size,hnd6⟩)
  have HM:=Lib.hid hmem
  have HA6:=Lib.hid (A7.kept F6 (by simpa using p1) (by simpa using q1))
  have HD6:=Lib.hid (D5.trans (F6.mono))
  clear c0 c1 c2 c3 c4 c5 c6 c7 c8 c9 c10 c11 c12 c13 c14 h5 A7 D5 F6 m6 hnd6 hmem hlw
  obtain ⟨c0,c1,c2,c3,c4,c5,c6,c7,c8,c9,c10,c11,c12,c13,c14⟩:=sn_cells o6
  unfold Sn.chunk at c11
  simp only at c11
  go_wp2_with fail
  go_ret
  rw [HN.out]
  exact Stp.of rfl HP.out.inn HM.out HA6.out HD6.out
 ·have g2:decide (v≤x.hi)=false:=by simpa using e0
  have hn:y0 = { x with line:=4 }:=by rw [← HY.out,if_neg e0]
  have HN:=Lib.hid hn
  clear hn e0
  go_wp2_with fail
  ·exfalso;have:=of_decide_eq_false g2;omega
  go_ret
  rw [HN.out]
  exact Stp.of rfl h5.inn (fun k hk=>.inl hk) A7 D5
theorem scan_1 (x:Sn) (s:St) (N:Nat) (hx:SnOk N x) (hl:x.line=1) (y:Lok) (hly:x.l=some y) (hN:N≤40000) (b bk p q:Nat) (wp lp:Option Nat) (iv:Value) (Bw Bl:List Nat) (w:World) (h:SnPt w x b bk wp lp iv Bw Bl) (hA:Rar w p q s) (hp:p∉b :: bk :: (Bw++(Bl++iv.ownBlock.toList))) (hq:q∉b :: bk :: (Bw++(Bl++iv.ownBlock.toList))) :
  Calls Tryz.prog 147 #[.pointer (some ⟨b,0,none⟩),.pointer (some ⟨p,0,none⟩)] w (Stp w (fun w' B'=>SnIn w' B' b (if (y.step s).1.line=0 then { x with l:=some (y.step s).1,items:=(y.step s).1.l.foldl takI x.items,line:=2 } else { x with l:=some (y.step s).1 })) (b :: bk :: (Bw++(Bl++iv.ownBlock.toList))) p q ((y.step s).2) (false)):=by
 generalize hy:(if (y.step s).1.line=0 then { x with l:=some (y.step s).1,items:=(y.step s).1.l.foldl takI x.items,line:=2 } else { x with l:=some (y.step s).1 })=y0
 have HY:=Lib.hid hy
 clear hy
 have hlt:=h.inn.lt
 have hnd:=h.nd
 simp only [List.nodup_cons,List.mem_cons,List.mem_append,not_or] at hnd
 obtain ⟨⟨n1,n2,n3,n4⟩,⟨n5,n6,n7⟩,n8⟩:=hnd
 have hp':=hp
 have hq':=hq
 simp only [List.mem_cons,List.mem_append,not_or] at hp' hq'
 obtain ⟨p1,p2,p3,p4,p5⟩:=hp'
 obtain ⟨q1,q2,q3,q4,q5⟩:=hq'
 have HL:=Lib.hid (And.intro hlt (And.intro h.nd (And.intro hp hq)))
 clear hlt hp hq
 obtain ⟨c0,c1,c2,c3,c4,c5,c6,c7,c8,c9,c10,c11,c12,c13,c14⟩:=sn_cells h.o
 have z:=h.o.frozen
 obtain ⟨bl,rfl,hlk⟩:∃ bl,lp=some bl∧LkIn w Bl bl y:=by have:=h.l;rw [hly] at this;exact this
 unfold ptrV at c10
 simp only at c10
 go_enter Tryz.func147,Tryz.ntmps147
 go_wp2_with fail
 have hyo:=hx.l y hly
 have hyo2:=hyo.step s
 refine (lk_step y hyo Bl bl p q s w hlk hA p4 q4).mono ?_;rintro e w5 ⟨rfl,⟨B3,k1,k2⟩,A5,F5⟩
 generalize hyk:(y.step s).1=yk at *
 generalize hys:(y.step s).2=ys at *
 have hlw:=HL.out.1
 have hnd5:(b :: bk :: (Bw++(B3++iv.ownBlock.toList))).Nodup:=nodup_in (A:=b :: bk :: Bw) (Y:=Bl) (Y':=B3) (n:=w.heap.size) HL.out.2.1 hlw k1.nd k2
 have HM:=Lib.hid (show ∀ k,k∈b :: bk :: (Bw++(B3++iv.ownBlock.toList))→k∈b :: bk :: (Bw++(Bl++iv.ownBlock.toList))∨w.heap.size≤k from mem_in (A:=b :: bk :: Bw) (Y:=Bl) (Y':=B3) (n:=w.heap.size) k2)
 have hdis:∀ k,k∈Bw→k∉Bl:=fun k hk hi=>(List.nodup_append.1 n8).2.2 k hk k (List.mem_append.2 (.inl hi)) rfl
 have hdis2:∀ k,k∈iv.ownBlock.toList→k∉Bl:=fun k hk hi=>(List.nodup_append.1 (List.nodup_append.1 n8).2.1).2.2 k hi k hk rfl
 have h5:SnPt w5 { x with l:=some yk } b bk wp (some bl) iv Bw B3:=⟨Ob.kept h.o F5 (by simp only [List.mem_cons,not_or];exact ⟨Ne.symm p1,Ne.symm q1,n3⟩),Ob.kept h.k F5 (by simp only [List.mem_cons,not_or];exact ⟨Ne.symm p2,Ne.symm q2,n6⟩),h.ww.kept F5 (fun k hk=>by simp only [List.mem_cons,not_or];exact ⟨fun e=>p3 (e ▸ hk),fun e=>q3 (e ▸ hk),hdis k hk⟩),⟨bl,rfl,k1⟩,h.s.kept F5 (fun k hk=>by simp only [List.mem_cons,not_or];exact ⟨fun e=>p5 (e ▸ hk),fun e=>q5 (e ▸ hk),hdis2 k hk⟩),fun g hg=>Nat.lt_of_lt_of_le (h.g g hg) F5.size,hnd5⟩
 have D5:Fr (p :: q :: b :: bk :: (Bw++(Bl++iv.ownBlock.toList))) w w5:=F5.mono (by intro k hk;simp only [List.mem_cons,List.mem_append] at hk ⊢;rcases hk with h | h | h <;> simp [h])
 have HKS:=Lib.hid (And.intro hyk hys)
 have HW:=Lib.hid F5.size
 clear hyk hys c0 c1 c2 c3 c4 c5 c6 c7 c8 c9 c10 c11 c12 c13 c14 z h hA hlk F5 hdis hdis2 hlw
 by_cases e0:yk.line=0
 ·have g2:decide (yk.line=0)=true:=by simpa using e0
  have hn:y0 = { x with l:=some yk,items:=yk.l.foldl takI x.items,line:=2 }:=by rw [← HY.out,if_pos e0]
  have HN:=Lib.hid hn
  rw [g2]
  clear hn e0
  obtain ⟨lv,l1,l2,l3,rfl,l5⟩:=k1
  have hnn:=hnd5
  simp only [List.nodup_cons,List.mem_cons,List.mem_append,not_or] at hnn
  go_wp2_with fail
  refine (takes_any { x with l:=some yk } yk b bk bl wp iv lv w5 h5.o l1 l2 h5.s (by have:=hyo2.len;have:=hyo2.i1;omega) (by have:=hx.n;show x.items.length≤800000;omega) hnn.1.2.2.1.1 hnn.1.2.2.1.2 n4).mono ?_;rintro e w6 ⟨iv',rfl,o6,s6,d6,F6⟩
  have hw5:=HW.out
  have hlb:∀ k,k∈b :: bk :: (Bw++((bl :: lv.ownBlock.toList)++iv.ownBlock.toList))→k<w5.heap.size:=h5.inn.lt
  have own6:∀ g,g∈iv'.ownBlock.toList→g∈iv.ownBlock.toList∨w5.heap.size≤g:=fun g hg=>by
   rcases d6 with d | ⟨-,d⟩
   ·rw [d] at hg;exact .inl hg
   ·exact .inr (d g hg)
  have lt6:∀ g,g∈iv'.ownBlock.toList→g<w6.heap.size:=fun g hg=>by
   rcases d6 with d | ⟨hne,-⟩
   ·rw [d] at hg;exact Nat.lt_of_lt_of_le (h5.g g hg) F6.size
   ·exact sq_own_lt s6 hne g hg
  have hnd6:(b :: bk :: (Bw++((bl :: lv.ownBlock.toList)++iv'.ownBlock.toList))).Nodup:=by
   have:=nodup_in (A:=b :: bk :: (Bw++(bl :: lv.ownBlock.toList))) (Y:=iv.ownBlock.toList) (Z:=[]) (Y':=iv'.ownBlock.toList) (n:=w5.heap.size) (by simpa [List.append_assoc] using hnd5) (by simpa [List.append_assoc] using hlb) (own_nd _) own6
   simpa [List.append_assoc] using this
  have hmem:∀ k,k∈b :: bk :: (Bw++((bl :: lv.ownBlock.toList)++iv'.ownBlock.toList))→k∈b :: bk :: (Bw++(Bl++iv.ownBlock.toList))∨w.heap.size≤k:=by
   intro k hk
   by_cases hko:k∈iv'.ownBlock.toList
   ·rcases own6 k hko with h | h
    ·exact .inl (by simp only [List.mem_cons,List.mem_append];simp [h])
    ·exact .inr (by omega)
   ·refine HM.out k ?_
    simp only [List.mem_cons,List.mem_append] at hk ⊢
    rcases hk with h | h | h | (h | h) | h <;> first | exact absurd h hko | simp [h]
  have hbl:¬ b=bl:=hnn.1.2.2.1.1
  have hblo:b∉lv.ownBlock.toList:=hnn.1.2.2.1.2
  have h6:SnPt w6 { x with l:=some yk,items:=yk.l.foldl takI x.items } b bk wp (some bl) iv' Bw (bl :: lv.ownBlock.toList):=⟨o6,Ob.kept h5.k F6 (by simp;exact Ne.symm n1),h5.ww.kept F6 (fun k hk hi=>by simp at hi;subst hi;exact n2 hk),h5.l.kept F6 (fun k hk hi=>by simp at hi;subst hi;simp only [List.mem_cons] at hk;rcases hk with h | h;exact hbl h;exact hblo h),s6,lt6,hnd6⟩
  have HM6:=Lib.hid hmem
  have A6:=A5.kept F6 (by simpa using p1) (by simpa using q1)
  have D6:=D5.trans (F6.mono (T:=p :: q :: b :: bk :: (Bw++(Bl++iv.ownBlock.toList))) (by simp))
  have nb6:b∉bk :: (Bw++((bl :: lv.ownBlock.toList)++iv'.ownBlock.toList)):=(List.nodup_cons.1 hnd6).1
  clear h5 A5 D5 F6 hnd5 hnd6 hmem own6 lt6 hlb hnn l1 l2 l3 l5 d6 s6
  obtain ⟨c0,c1,c2,c3,c4,c5,c6,c7,c8,c9,c10,c11,c12,c13,c14⟩:=sn_cells h6.o
  have z:=h6.o.frozen
  go_wp2_with fail
  go_ret
  rw [HN.out,HKS.out.2]
  have S6:Fr [b] w6 (w6.setCell ⟨b,11,none⟩ (.int .i64 2)):=Fr.setCell _ (by simp)
  exact Stp.of rfl (SnPt.inn (h6.re S6 (fun k hk hi=>by simp at hi;subst hi;exact nb6 hk) (Ob.set h6.o (i:=11) (.int .i64 2)) rfl rfl rfl rfl)) HM6.out (A6.kept S6 (by simpa using p1) (by simpa using q1)) (D6.trans (S6.mono))
 ·have g2:decide (yk.line=0)=false:=by simpa using e0
  have hn:y0 = { x with l:=some yk }:=by rw [← HY.out,if_neg e0]
  have HN:=Lib.hid hn
  rw [g2]
  clear hn e0
  obtain ⟨c0,c1,c2,c3,c4,c5,c6,c7,c8,c9,c10,c11,c12,c13,c14⟩:=sn_cells h5.o
  go_wp2_with fail
  go_ret
  rw [HN.out,HKS.out.2]
  exact Stp.of rfl h5.inn HM.out A5 D5
theorem scan_step (x:Sn) (N:Nat) (hx:SnOk N x) (hN:N≤40000) (B:List Nat) (b p q:Nat) (s:St) (w:World) (h:SnIn w B b x) (hA:Rar w p q s) (hp:p∉B) (hq:q∉B) :
  Calls Tryz.prog 147 #[.pointer (some ⟨b,0,none⟩),.pointer (some ⟨p,0,none⟩)] w (Stp w (fun w' B'=>SnIn w' B' b (x.step s).1) B p q (x.step s).2 (decide ((x.step s).1.line=0))):=by
 obtain ⟨bk,wp,lp,iv,Bw,Bl,hpt,rfl⟩:=h.pt
 by_cases l10:x.line=10
 ·by_cases hh:x.hi<x.lo
  ·have e:x.step s=({ x with line:=0 },s):=by unfold Sn.step;rw [if_pos l10,if_pos hh]
   rw [e];exact scan_10a x s N hx l10 hh b bk p q wp lp iv Bw Bl w hpt hA hp hq
  ·by_cases hd:(x.k.step s).1.line=0
   ·have e:x.step s=({ x with k:=(x.k.step s).1,w:=some (Wk.new x.c x.lo),line:=if (x.k.step s).1.e=0 then 11 else 0 },(x.k.step s).2):=by unfold Sn.step;rw [if_pos l10,if_neg hh,if_pos hd]
    have e2:decide ((if (x.k.step s).1.e=0 then (11:Int) else 0)=0)=decide (¬ (x.k.step s).1.e=0):=by split <;> rename_i h <;> simp [h]
    rw [e];show Calls _ _ _ _ (Stp _ _ _ _ _ _ (decide ((if (x.k.step s).1.e=0 then (11:Int) else 0)=0)));rw [e2];exact scan_10c x s N hx l10 hh hd b bk p q wp lp iv Bw Bl w hpt hA hp hq
   ·have e:x.step s=({ x with k:=(x.k.step s).1 },(x.k.step s).2):=by unfold Sn.step;rw [if_pos l10,if_neg hh,if_neg hd]
    rw [e];show Calls _ _ _ _ (Stp _ _ _ _ _ _ (decide (x.line=0)));rw [show decide (x.line=0)=false by simp [l10]];exact scan_10b x s N hx l10 hh hd b bk p q wp lp iv Bw Bl w hpt hA hp hq
 ·by_cases l11:x.line=11
  ·obtain ⟨y,hy⟩:∃ y,x.w=some y:=by cases hw:x.w with | none=>exact absurd hw (hx.w1 l11) | some y=>exact ⟨y,rfl⟩
   have e:x.step s=(if (y.step s).1.line=0 then ({ x with w:=some (y.step s).1 }:Sn).chunk (y.step s).1.at_ else { x with w:=some (y.step s).1 },(y.step s).2):=by unfold Sn.step;rw [if_neg l10,if_pos l11,hy]
   have e2:(if (y.step s).1.line=0 then ({ x with w:=some (y.step s).1 }:Sn).chunk (y.step s).1.at_ else { x with w:=some (y.step s).1 }).line≠0:=by split;simp [Sn.chunk];simp [l11]
   rw [e];show Calls _ _ _ _ (Stp _ _ _ _ _ _ (decide (_=0)));rw [decide_eq_false e2];exact scan_11 x s N hx l11 y hy b bk p q wp lp iv Bw Bl w hpt hA hp hq
  ·by_cases l1:x.line=1
   ·obtain ⟨y,hy⟩:∃ y,x.l=some y:=by cases hw:x.l with | none=>exact absurd hw (hx.l1 l1) | some y=>exact ⟨y,rfl⟩
    have e:x.step s=(if (y.step s).1.line=0 then { x with l:=some (y.step s).1,items:=(y.step s).1.l.foldl takI x.items,line:=2 } else { x with l:=some (y.step s).1 },(y.step s).2):=by unfold Sn.step;rw [if_neg l10,if_neg l11,if_pos l1,hy]
    have e2:(if (y.step s).1.line=0 then ({ x with l:=some (y.step s).1,items:=(y.step s).1.l.foldl takI x.items,line:=2 }:Sn) else { x with l:=some (y.step s).1 }).line≠0:=by split;simp;simp [l1]
    rw [e];show Calls _ _ _ _ (Stp _ _ _ _ _ _ (decide (_=0)));rw [decide_eq_false e2];exact scan_1 x s N hx l1 y hy hN b bk p q wp lp iv Bw Bl w hpt hA hp hq
   ·by_cases l2:x.line=2
    ·have e:x.step s=({ x with n:=atW (peek s.l (wrap64 (x.at_+2))),line:=if atW (peek s.l (wrap64 (x.at_+2)))=0 then 4 else 3 },s.load (wrap64 (x.at_+2))):=by unfold Sn.step;rw [if_neg l10,if_neg l11,if_neg l1,if_pos l2]
     have e2:(if atW (peek s.l (wrap64 (x.at_+2)))=0 then (4:Int) else 3)≠0:=by split <;> simp
     rw [e];show Calls _ _ _ _ (Stp _ _ _ _ _ _ (decide (_=0)));rw [decide_eq_false e2];exact scan_2 x s N hx l2 b bk p q wp lp iv Bw Bl w hpt hA hp hq
    ·by_cases l3:x.line=3
     ·have e:x.step s=(if peek s.l (wrap64 x.n)≤x.hi then x.chunk x.n else { x with line:=4 },s.load (wrap64 x.n)):=by unfold Sn.step;rw [if_neg l10,if_neg l11,if_neg l1,if_neg l2,if_pos l3]
      have e2:(if peek s.l (wrap64 x.n)≤x.hi then x.chunk x.n else { x with line:=4 }).line≠0:=by split;simp [Sn.chunk];simp
      rw [e];show Calls _ _ _ _ (Stp _ _ _ _ _ _ (decide (_=0)));rw [decide_eq_false e2];exact scan_3 x s N hx l3 b bk p q wp lp iv Bw Bl w hpt hA hp hq
     ·by_cases l4:x.line=4
      ·have e:x.step s=({ x with line:=0 },s.store (psaP x.t) (claimW x.seq 0)):=by unfold Sn.step;rw [if_neg l10,if_neg l11,if_neg l1,if_neg l2,if_neg l3,if_pos l4]
       rw [e];exact scan_4 x s N hx l4 b bk p q wp lp iv Bw Bl w hpt hA hp hq
      ·have e:x.step s=(x,s):=by unfold Sn.step;rw [if_neg l10,if_neg l11,if_neg l1,if_neg l2,if_neg l3,if_neg l4]
       rw [e];exact scan_0 x s N hx ⟨l10,l11,l1,l2,l3,l4⟩ b bk p q wp lp iv Bw Bl w hpt hA hp hq
end Go.Proofs.YtilipdnchflkhaaGreatDoor.Mx
