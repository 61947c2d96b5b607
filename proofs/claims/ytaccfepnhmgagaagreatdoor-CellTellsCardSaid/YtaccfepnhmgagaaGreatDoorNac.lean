/- Parts. -/
import Derived.Test.YtaccfepnhmgagaaGreatDoorNab
import Derived.Test.YtaccfepnhmgagaaGreatDoorVbj
import Derived.Test.YtaccfepnhmgagaaGreatDoorNaa
import Derived.Test.YtaccfepnhmgagaaGreatDoorVac
set_option linter.unusedVariables false
set_option linter.unusedSimpArgs false
set_option maxRecDepth 100000
namespace Go.Proofs.YtaccfepnhmgagaaGreatDoor.Cc_u
open Go.RowKit Go.Proofs.YtaccfepnhmgagaaGreatDoor.Ar Go.Proofs.YtaccfepnhmgagaaGreatDoor.Og Go.Proofs.YtaccfepnhmgagaaGreatDoor.Ref Go.Proofs.YtaccfepnhmgagaaGreatDoor.Mx Go.Proofs.YtaccfepnhmgagaaGreatDoor.Wd
set_option linter.unusedVariables false
set_option linter.unusedSimpArgs false
theorem cl_keep (x:Cl) (s:St):(x.step s).1.c=x.c:=by
 unfold Cl.step
 split
 ·unfold Cl.next
  repeat' split
  all_goals rfl
 ·rfl
theorem cl_line (x:Cl) (s:St) (h:1≤x.line∧x.line≤8):(x.step s).1.line=0∨((x.step s).1.line=x.line+1∧x.line≤7):=by
 unfold Cl.step
 rw [qf (by unfold Cl.live;simp;omega)]
 show (x.next (x.told s)).line=0∨((x.next (x.told s)).line=x.line+1∧x.line≤7)
 generalize x.told s=v
 obtain ⟨c,ch,ky,dt,line,i,g,ver⟩:=x
 simp only at h ⊢
 rcases (by omega:line=1∨line=2∨line=3∨line=4∨line=5∨line=6∨line=7∨line=8) with rfl | rfl | rfl | rfl | rfl | rfl | rfl | rfl
 ·by_cases hv:v=0
  ·exact .inr (by simp [Cl.next,hv])
  ·exact .inl (by simp [Cl.next,hv])
 ·by_cases hv:0≤v∧v<c.c
  ·exact .inr (by simp [Cl.next,hv])
  ·exact .inl (by simp [Cl.next,hv])
 ·exact .inr (by simp [Cl.next])
 ·exact .inr (by simp [Cl.next])
 ·by_cases hv:v=1
  ·exact .inr (by simp [Cl.next,hv])
  ·exact .inl (by simp [Cl.next,hv])
 ·exact .inr (by simp [Cl.next])
 ·exact .inr (by simp [Cl.next])
 ·exact .inl (by simp [Cl.next])
theorem f7_I {y:Cx_u} {s:St} (hA:Zp s.l) (h:I64 y.f7):I64 (y.go s).1.f7:=by
 unfold Cx_u.go Cx_u.step Cx_u.put
 repeat' split
 all_goals first | exact h | exact hA _
theorem laidC_I {s s':St} (h:Zp s.l) (k:Lay.Laid s s'):Zp s'.l:=by
 rcases k with rfl | ⟨at_,v,h1,h2,h3,rfl⟩
 ·exact h
 ·intro p
  show I64 (qw (yl s.l at_ v) p)
  rw [pk_pokeC]
  split
  ·exact ⟨by omega,by omega⟩
  ·exact h p
def TcAt (c:Cf) (W:World) (b bd pa qa pr qr:Nat) (iv:Value) (wr:World):Prop:=∃ (i:Nat) (x:Cl) (y:Cx_u) (s:St),iv = .int .i64 i∧x.line=i+1∧i≤7∧x.c=c∧(ClW x∧I64 y.f7∧Zp s.l)∧CrR x y∧CcIs wr b y∧X6 wr bd x∧Ar wr pa qa s∧Rar wr pr qr s∧Fr [b,bd,pa,qa,pr,qr] W wr
set_option maxRecDepth 100000 in
set_option maxHeartbeats 6400000 in
theorem tells15 (c:Cf) (rs:List (List O)) (ps ds:List Int) (ov pv dv:Value) (ss:List Sv) (R:List Nat) (k ky dt:Int) (lv:Value) (n:Nat) (A V:Nat→Int) (hk:0≤k∧k≤255) (hsq:(0≤ky∧ky≤65535)∧0≤dt∧dt≤65535) (w:World) (t:Word.Tab w) (hP:Lay.Pks w lv n A V)
  (hS:q52 w (.agg #[.int .i64 c.t,.int .i64 c.c,.int .i64 c.wd,.int .i64 c.v,ov,pv,dv]) c rs ps ds ov pv dv ss R) :
  Calls Tryz.prog 3 #[.agg #[.int .i64 c.t,.int .i64 c.c,.int .i64 c.wd,.int .i64 c.v,ov,pv,dv],.int .u8 k,.int .u16 ky,.int .u16 dt,lv] w fun e w'=>e = .returned (.bool true)∧Fr [] w w':=by
 have HS:=q9 hS
 have HPK:=q9 hP
 obtain ⟨va,vcap,rfl,hvm,-⟩:=hP
 have F0:=(Fr.refl [] w).alloc (.cells #[.int .i64 c.t,.int .i64 c.c,.int .i64 c.wd,.int .i64 c.v,ov,pv,dv] 27)
 have o1:=Ob.new w 27 #[.int .i64 c.t,.int .i64 c.c,.int .i64 c.wd,.int .i64 c.v,ov,pv,dv]
 clear hS
 go_enter Tryz.func3,Tryz.ntmps3
 go_wp2_with fail
 generalize World.alloc w _=w0 at *
 generalize hb1:w.heap.size=b1 at *
 refine (known_true w0 (Gq_u.tab_up t F0)).mono ?_;rintro e w1 ⟨rfl,F1⟩
 have G:=F0.trans F1
 replace o1:=o1.up F1
 clear F0 F1
 have HX:=q9 (qc hb1 o1.lt)
 clear hb1
 have d0:=Ob.cell (i:=0) o1 rfl
 have d1:=Ob.cell (i:=1) o1 rfl
 have d2:=Ob.cell (i:=2) o1 rfl
 have d3:=Ob.cell (i:=3) o1 rfl
 have d4:=Ob.cell (i:=4) o1 rfl
 have d5:=Ob.cell (i:=5) o1 rfl
 have d6:=Ob.cell (i:=6) o1 rfl
 go_wp2_with fail
 refine (wide_any c.t c.c c.wd c.v rs ps ds _ 300 _ (HS.out.scr.up G)).mono ?_;rintro e w2 ⟨rfl,F2⟩
 replace G:=G.trans F2
 replace o1:=o1.up F2
 clear d0 d1 d2 d3 d4 d5 d6 F2
 have d0:=Ob.cell (i:=0) o1 rfl
 have d1:=Ob.cell (i:=1) o1 rfl
 have d2:=Ob.cell (i:=2) o1 rfl
 have d3:=Ob.cell (i:=3) o1 rfl
 have d4:=Ob.cell (i:=4) o1 rfl
 have d5:=Ob.cell (i:=5) o1 rfl
 have d6:=Ob.cell (i:=6) o1 rfl
 cases hw:Ui c.t c.c c.wd c.v rs ps ds 300 with
 | true =>
  clear hw
  go_wp2_with fail
  go_ret
  exact ⟨rfl,G⟩
 | false =>
  have HW:=q9 (qbu hw)
  clear hw
  by_cases hn20:n≤20
  case neg =>
   have g1:decide ((n:Int)>20)=true:=by simp;omega
   have g2:decide ((20:Int)<(n:Int))=true:=by simp;omega
   have g3:decide (20<n)=true:=by simp;omega
   clear hn20
   go_wp2_with fail
   go_ret
   exact ⟨rfl,G⟩
  have g1:decide ((n:Int)>20)=false:=by simp;omega
  have g2:decide ((20:Int)<(n:Int))=false:=by simp;omega
  have g3:decide (n>20)=false:=by simp;omega
  have HT:=q9 (qc t (qc hk hsq))
  clear t hk hsq hn20
  go_wp2_with fail
  refine (left_any c rs ps ds ov pv dv ss R _ _ (HS.out.up G) HW.out.2.2.2.2.2 (by have:=HW.out.1;omega)).mono ?_;rintro e w4 ⟨pr,qr,rfl,hpr,hqr,Hr,F4⟩
  have HK:=q9 (qb1 HW.out.2.2.2.2.2).1
  have hAI:=runP_W ds HK.out (q96 ds HW.out.2.2.2.2.2) ps
  have hLN:=runP_len HK.out rs ds ps
  generalize (q7w c rs ds ps).a=s at *
  have HAI:=q9 (qc hAI hLN)
  clear hAI hLN
  replace G:=G.trans F4
  replace o1:=o1.up F4
  clear F4 hpr hqr d0 d1 d2 d3 d4 d5 d6
  go_wp2_with fail
  refine (fresh_any pr qr s _ Hr).mono ?_;rintro e w5 ⟨pf,qf_u,rfl,hpf,hqf,Hf_u,F5⟩
  have hGs0:=G.size
  have hbl0:=o1.lt
  have hrl:=Hr.lt
  have hlt5:=Hf_u.lt
  replace G:=G.trans F5
  replace o1:=o1.up F5
  clear Hr F5
  go_wp2_with fail
  refine (arena_any pf qf_u (q2p s.l) _ Hf_u).mono ?_;rintro e w6 ⟨pa,qa,rfl,hpa,hqa,Ha_u,F6⟩
  have hGs:=G.size
  have hbl:=o1.lt
  replace Hf_u:=Hf_u.kept F6 (by simp) (by simp)
  replace G:=G.trans F6
  replace o1:=o1.up F6
  have hGs6:=G.size
  have hal:=Ha_u.lt
  have hfs:q2p (q2p s.l).l=q2p s.l:=rfl
  rw [hfs] at Ha_u
  clear F6 hfs
  have d0:=Ob.cell (i:=0) o1 rfl
  have d1:=Ob.cell (i:=1) o1 rfl
  have d2:=Ob.cell (i:=2) o1 rfl
  have d3:=Ob.cell (i:=3) o1 rfl
  have hk:=HT.out.2.1
  go_wp2_with fail
  refine (Pick15.q98 c HK.out k hk pf qf_u (q2p s.l) w6 Hf_u (by show (s.l.length:Int)=c.wd;exact HAI.out.2)).mono ?_;rintro e w6' ⟨rfl,hkc,F6'⟩
  generalize Pick15.pickV c (q2p s.l) k=kc at *
  have hkI:I64 kc:=by
   have h1:=hkc.1;have h2:=hkc.2;have h3:=HAI.out.2;have h4:=HK.out
   have h5:(s.l.length:Int)≤20000:=Int.ofNat_le.2 Hf_u.hi
   have h6:(((q2p s.l).l.length:Nat):Int)=s.l.length:=rfl
   have h7:=HK.out.c2;have h8:=HK.out.t1
   exact ⟨by omega,by omega⟩
  replace G:=G.trans F6'
  replace o1:=o1.up F6'
  replace Ha_u:=Ha_u.kept F6' (by simp) (by simp)
  replace Hf_u:=Hf_u.kept F6' (by simp) (by simp)
  have hs6:=F6'.size
  have HKI:=q9 hkI
  clear F6' d0 d1 d2 d3 hkc hk hkI
  have d0:=Ob.cell (i:=0) o1 rfl
  have d1:=Ob.cell (i:=1) o1 rfl
  have d2:=Ob.cell (i:=2) o1 rfl
  have d3:=Ob.cell (i:=3) o1 rfl
  have hwk:wrap64 ky=ky:=w64 (by have:=HT.out.2.2.1;omega) (by have:=HT.out.2.2.1;omega)
  have hwd:wrap64 dt=dt:=w64 (by have:=HT.out.2.2.2;omega) (by have:=HT.out.2.2.2;omega)
  go_wp2_with fail
  refine z7 (by kernel_rfl) [] (fun w7 F7=>?_)
  refine Z8 [true,true,true,true,true,true,true,false,true,true,true,true,true,true,true,false,false,false] 4 (n:=128) (listed':=#[true,true,true,true,true,true,true,false,true,true,true,true,true,true,true,false,false,false]) rfl (by kernel_rfl) (by kernel_rfl) (by kernel_rfl) rfl (by kernel_rfl) (fun _ _ d _ _ h=>by cases d <;> exact h) F7 ?_
  apply qg
  refine ⟨fun wf Ff=>?_,?_⟩
  ·have k0:=qb (Ff.cell d0 (by simp))
   have k1:=qb (Ff.cell d1 (by simp))
   have k2:=qb (Ff.cell d2 (by simp))
   have k3:=qb (Ff.cell d3 (by simp))
   simp only [sel]
   repeat (go_big_quiet_step (fail))
   exact wpQuiet_nil rfl
  refine qb9 7 (by kernel_rfl) rfl rfl (fun w8 F8=>?_)
  have E8:=F7.trans F8
  clear d0 d1 d2 d3 F7 F8
  go_wp2_with fail
  refine (qbe c kc ky dt _).mono ?_;rintro e w9 ⟨b,rfl,hb,D,F9⟩
  have E9:=E8.trans F9
  have hs9:=E8.size
  have hD9:=CcIs.lt D
  go_wp2_with fail
  refine ql ⟨E9,?_⟩
  refine qb9 15 (by kernel_rfl) rfl rfl (fun w10 F10=>?_)
  have E10:=E9.trans F10
  have D10:CcIs w10 b _:=CcIs.up D F10
  clear D F10 E8 F9 E9
  go_wp2_with fail
  refine (q0t c kc ky dt _).mono ?_;rintro e w11 ⟨bd,rfl,hbd,Dd,F11⟩
  have E11:=E10.trans F11
  have D11:=D10.up F11
  have hs11:=D10.lt
  clear D10 F11 E10
  go_wp2_with fail
  refine ql ⟨E11,?_⟩
  refine Z8 [false,false,false,false,false,false,false,false,false,false,false,false,false,false,false,false,true,true] 0 (n:=128) (listed':=#[true,true,true,true,true,true,true,true,true,true,true,true,true,true,true,true,true,true]) rfl (by kernel_rfl) (by kernel_rfl) (by kernel_rfl) rfl (by kernel_rfl) (fun _ _ d _ _ h=>by cases d <;> exact h) E11 ?_
  apply qg
  refine ⟨fun wf Ff=>?_,?_⟩
  ·simp only [sel]
   repeat (go_big_quiet_step (fail))
   exact wpQuiet_nil rfl
  refine zq (by kernel_rfl) (fun w12 F12=>?_)
  have hX:=HX.out
  have ht:=Gq_u.tab_lt HT.out.1
  have HN:=q9 (show (b≠pa∧b≠qa)∧(bd≠pf∧bd≠qf_u)∧(pa≠pf∧pa≠qf_u∧qa≠pf∧qa≠qf_u)∧(b≠bd∧b≠pf∧b≠qf_u∧bd≠pa∧bd≠qa)∧(1≠b∧1≠bd∧1≠pa∧1≠qa∧1≠pf∧1≠qf_u)∧True∧(w.heap.size≤b∧w.heap.size≤bd∧w.heap.size≤pa∧w.heap.size≤qa∧w.heap.size≤pf∧w.heap.size≤qf_u) by
   refine ⟨?_,?_,?_,?_,?_,trivial,?_⟩ <;> omega)
  have HG:=q9 ((G.trans E11).trans F12)
  replace D11:=D11.up F12
  replace Dd:=Ob.up Dd F12
  have A:=Ha_u.kept (E11.trans F12) (by simp) (by simp)
  have Rr:=Hf_u.kept (E11.trans F12) (by simp) (by simp)
  clear Ha_u Hf_u G o1 hGs hbl hGs0 hbl0 hrl hlt5 hGs6 hal hpf hqf hpa hqa hb hbd hs9 hD9 hs11 hX ht E11 F12 hs6 hwk hwd
  have hA0:Zp (q2p s.l).l:=HAI.out.1
  generalize q2p s.l=sa at *
  go_wp2_with fail
  go_loopw [16] (fun iv wr=>TcAt c w12 b bd pa qa pf qf_u iv wr) (fun iv _=>20 - (intOf iv).toNat)
  case atStart=>exact ⟨0,Cl.new c kc ky dt,Cx_u.new c.c kc ky dt,sa,rfl,rfl,by omega,rfl,⟨⟨⟨by show -_≤ky;have:=HT.out.2.2.1;omega,by show ky≤_;have:=HT.out.2.2.1;omega⟩,⟨by show -_≤dt;have:=HT.out.2.2.2;omega,by show dt≤_;have:=HT.out.2.2.2;omega⟩,HKI.out⟩,⟨by show -_≤(0:Int);omega,by show (0:Int)≤_;omega⟩,hA0⟩,CrR.new _ _ _ _,D11,Dd,A,Rr,Fr.refl _ _⟩
  case round =>
   obtain ⟨i,x,y,s2,rfl,hxl,hi4,hxc,hxt,hR,D2,Dd2,A2,R2,F2⟩:=hrel
   have hk1:=kstep_any hR.lnb (Gq_u.tab_kept (Gq_u.tab_up HT.out.1 HG.out) F2 (by simp;exact HN.out.2.2.2.2.1)) D2 A2 HN.out.1 ⟨HN.out.2.2.2.2.1.2.2.1,HN.out.2.2.2.2.1.2.2.2.1,HN.out.2.2.2.2.1.1⟩
   have HK1:=q9 hk1
   have HI:=q9 (qc hxl (qc hi4 (qc hxc (qc hxt hR))))
   have HF:=q9 (qc F2 (qc Dd2 R2))
   have q1:decide ((i:Int)<400)=true:=by simp;omega
   clear hk1 D2 A2 F2 Dd2 R2 hxl hi4 hxc hxt hR D11 Dd A Rr hA0
   go_wp2_with fail
   refine HK1.out.mono ?_;rintro e w13 ⟨rfl,D3,A3,F3⟩
   have HS2:=q9 (Ri x (by rw [HI.out.2.2.1];exact HK.out) bd pf qf_u s2 w13 (Ob.kept HF.out.2.1 F3 (by simp;exact ⟨fun e=>HN.out.2.2.2.1.1 e.symm,HN.out.2.2.2.1.2.2.2.1,HN.out.2.2.2.1.2.2.2.2⟩)) (HF.out.2.2.kept F3 (by simp;exact ⟨fun e=>HN.out.2.2.2.1.2.1 e.symm,fun e=>HN.out.2.2.1.1 e.symm,fun e=>HN.out.2.2.1.2.2.1 e.symm⟩) (by simp;exact ⟨fun e=>HN.out.2.2.2.1.2.2.1 e.symm,fun e=>HN.out.2.2.1.2.1 e.symm,fun e=>HN.out.2.2.1.2.2.2 e.symm⟩)) HN.out.2.1.1 HN.out.2.1.2)
   have HD3:=q9 (qc D3 (qc A3 F3))
   clear D3 A3 F3
   go_wp2_with fail
   refine HS2.out.mono ?_;rintro e w14 ⟨rfl,Dd4,R4_u,F4⟩
   have D4:=HD3.out.1.kept F4 (by simp;exact ⟨HN.out.2.2.2.1.1,HN.out.2.2.2.1.2.1,HN.out.2.2.2.1.2.2.1⟩)
   have A4:=HD3.out.2.1.kept F4 (by simp;exact ⟨fun e=>HN.out.2.2.2.1.2.2.2.1 e.symm,HN.out.2.2.1.1,HN.out.2.2.1.2.1⟩) (by simp;exact ⟨fun e=>HN.out.2.2.2.1.2.2.2.2 e.symm,HN.out.2.2.1.2.2.1,HN.out.2.2.1.2.2.2⟩)
   have HF4:=q9 (show Fr [b,bd,pa,qa,pf,qf_u] w12 w14 from (HF.out.1.trans (HD3.out.2.2.mono (by simp))).trans (F4.mono (by simp)))
   obtain ⟨hst1,hst2⟩:=HI.out.2.2.2.2.step s2
   rw [over_eq hst1]
   rw [← hst2] at A4
   have HY:=q9 hst1
   have HXL:=q9 (qc (cl_keep x s2) (cl_line x s2 (by have:=HI.out.1;have:=HI.out.2.1;omega)))
   have hcw:=ClW.step HI.out.2.2.2.1.2.2 HI.out.2.2.2.1.1
   have HW3:=q9 (show ClW (x.step s2).1∧I64 (y.go s2).1.f7∧Zp (x.step s2).2.l from ⟨hcw.1,f7_I HI.out.2.2.2.1.2.2 HI.out.2.2.2.1.2.1,hcw.2⟩)
   clear hcw
   clear hst1 hst2 HS2 HK1 F4 HF HD3
   generalize (x.step s2).1=x3 at *
   generalize (y.go s2).1=y3 at *
   generalize (x.step s2).2=s3 at *
   have hi4:=HI.out.2.1
   have hbb:(decide (x3.line=0) != decide (x3.line=0))=false:=by cases decide (x3.line=0) <;> rfl
   obtain ⟨cap,hcap,r0,r1,r2',r3,r4,r5,r6,hc⟩:=Ref.Qj R4_u
   have i1:=qb r1
   have i2:=qb r2'
   have i3:=qb r3
   have i4:=qb r4
   have i5:=qb r5
   have i6:=qb r6
   have HQ:=q9 (qc D4 (qc A4 (qc R4_u Dd4)))
   clear r0 r1 r2' r3 r4 r5 r6 hc hcap
   have hG:=Al.q9e
   have hne:=Al.qb2 s3.a.kind s3.a.at_ s3.a.old s3.a.new s3.a.kind s3.a.at_ s3.a.old s3.a.new s3.a.ok s3.a.ok
   simp only [beq_self_eq_true,Bool.and_self,Bool.not_true] at hne
   clear D4 R4_u Dd4
   have ht14:=Gq_u.tab_kept (Gq_u.tab_up HT.out.1 HG.out) HF4.out (by simp;exact ⟨HN.out.2.2.2.2.1.1,HN.out.2.2.2.2.1.2.1,HN.out.2.2.2.2.1.2.2.1,HN.out.2.2.2.2.1.2.2.2.1,HN.out.2.2.2.2.1.2.2.2.2.1,HN.out.2.2.2.2.1.2.2.2.2.2⟩)
   have HTE:=q9 ht14
   clear ht14
   by_cases hz:x3.line=0
   ·rw [decide_eq_true hz] at hbb ⊢
    have HZ:=q9 hz
    clear hz
    go_wp2_with fail
    refine Ru (by kernel_rfl) (by kernel_rfl) ?_
    repeat (go_big_quiet_step ((first | (go_at_call 17;exact Calls.in_same (R7 _ pa qa s3 (A4.kept (In.fr _) (by simp) (by simp)))) | (go_at_call 18;exact Calls.in_ (Ar.qc6 _ pa qa s3 _ _ _ _ _ (A4.kept (In.fr _) (by simp) (by simp)) rfl)))))
    refine wpQuiet_nil ?_
    intro w15 F15
    clear i1 i2 i3 i4 i5 i6 hne hG hbb A4
    obtain ⟨t1,t2,t3,t4⟩:=HY.out.told HW3.out.2.1.2 HW3.out.2.1.1
    have HV:=q9 (kver_any HW3.out.2.1.2 (HQ.out.1.up F15))
    have HP:=q9 (fun wz (Fz:Fr [] w15 wz)=>kplc_any ((HQ.out.1.up F15).up Fz))
    rw [t3,t2] at HV
    rw [t1] at HP
    have HT4:=q9 t4
    clear t1 t2 t3 t4
    go_wp2_with fail
    refine HV.out.mono ?_;rintro e w16 ⟨rfl,F16⟩
    have FF:=F15.trans F16
    have hd:=Ob.up HQ.out.2.2.2 FF
    obtain ⟨-,-,-,-,-,-,-,-,m8,-,m10⟩:=zu hd
    have HR:=q9 (qc (HQ.out.2.1.kept FF (by simp) (by simp)) (qc (HQ.out.2.2.1.kept FF (by simp) (by simp)) (qc (fun wz (Fz:Fr [] w16 wz)=>HP.out wz (F16.trans Fz)) (HF4.out.then FF))))
    clear hd HV HP HQ F15 F16 FF
    have j8:=qb m8
    generalize x3.i=xi at *
    by_cases hv:x3.version = -1
    ·rw [hv] at m10
     have j10:=qb m10
     rw [hv]
     clear m8 m10
     rw [show decide ((0:Int) ≤ -1)=false by decide,show max (0:Int) (-1)=0 by decide]
     have gm:((0:Int) == max 0 (-1))=true:=by decide
     go_wp2_with fail
     refine Ru (by kernel_rfl) (by kernel_rfl) ?_
     repeat (go_big_quiet_step ((first | (go_at_call 21;exact Calls.in_ (HR.out.2.2.1 _ (In.fr _))) | (go_at_call 22;exact Calls.in_ (Al.alike_any _ pa qa pf qf_u s3 (HR.out.1.kept (In.fr _) (by simp) (by simp)) (HR.out.2.1.kept (In.fr _) (by simp) (by simp)))))))
     refine wpQuiet_nil ?_
     intro w17 F17
     go_wp2
     go_ret
     exact ⟨rfl,HG.out.own (HR.out.2.2.2.then F17) (by have:=HN.out.2.2.2.2.2.2;simp;omega)⟩
    ·have hv0:0≤x3.version:=by have:=HT4.out;omega
     have j10:=qb m10
     clear m8 m10 hv
     generalize x3.version=xv at *
     rw [show decide ((0:Int)≤xv)=true by simpa using hv0,show max (0:Int) xv=xv by omega]
     have g1:decide (0≤xv)=true:=by simpa using hv0
     have gm:(xv == max 0 xv)=true:=by simp;omega
     go_wp2_with fail
     refine Ru (by kernel_rfl) (by kernel_rfl) ?_
     repeat (go_big_quiet_step ((first | (go_at_call 21;exact Calls.in_ (HR.out.2.2.1 _ (In.fr _))) | (go_at_call 22;exact Calls.in_ (Al.alike_any _ pa qa pf qf_u s3 (HR.out.1.kept (In.fr _) (by simp) (by simp)) (HR.out.2.1.kept (In.fr _) (by simp) (by simp)))))))
     refine wpQuiet_nil ?_
     intro w17 F17
     go_wp2
     go_ret
     exact ⟨rfl,HG.out.own (HR.out.2.2.2.then F17) (by have:=HN.out.2.2.2.2.2.2;simp;omega)⟩
   ·rw [decide_eq_false hz] at hbb ⊢
    have HZ:=q9 hz
    clear hz
    go_wp2_with fail
    refine Ru (by kernel_rfl) (by kernel_rfl) ?_
    repeat (go_big_quiet_step ((first | (go_at_call 17;exact Calls.in_same (R7 _ pa qa s3 (A4.kept (In.fr _) (by simp) (by simp)))) | (go_at_call 18;exact Calls.in_ (Ar.qc6 _ pa qa s3 _ _ _ _ _ (A4.kept (In.fr _) (by simp) (by simp)) rfl)))))
    refine wpQuiet_nil ?_
    intro w15 F15
    clear i1 i2 i3 i4 i5 i6 hne hG hbb A4
    have HL:=q9 (Lay.lay_any pa qa pf qf_u s3 _ n A V i w15 (HQ.out.2.1.kept F15 (by simp) (by simp)) (HQ.out.2.2.1.kept F15 (by simp) (by simp)) (HPK.out.kept (w0:=w) (S:=[b,bd,pa,qa,pf,qf_u]) (((HG.out.mono (by simp)).trans HF4.out).then F15) (by have:=HN.out.2.2.2.2.2.2;simp;omega)) (by have:=HI.out.2.1;omega) HN.out.2.2.1)
    go_wp2_with fail
    refine HL.out.mono ?_;rintro e w16 ⟨rfl,s4,hs4,A5,R5,F16⟩
    have D5:=(HQ.out.1.up F15).kept F16 (by simp;exact ⟨HN.out.1.1,HN.out.1.2,HN.out.2.2.2.1.2.1,HN.out.2.2.2.1.2.2.1⟩)
    have Dd5:=Ob.kept (Ob.up HQ.out.2.2.2 F15) F16 (by simp;exact ⟨HN.out.2.2.2.1.2.2.2.1,HN.out.2.2.2.1.2.2.2.2,HN.out.2.1.1,HN.out.2.1.2⟩)
    have HF5:=q9 ((HF4.out.then F15).trans (F16.mono (by intro k hk;simp at hk ⊢;rcases hk with h | h | h | h <;> simp [h])))
    have HL4:=q9 hs4
    clear HL F15 F16 HQ hs4
    go_wp2_with fail
    go_roundw
    case rel =>
     have hl:=HXL.out.2.resolve_left HZ.out
     exact ⟨i+1,x3,y3,s4,by simp,by rw [hl.1,HI.out.1];simp,by have:=HI.out.1;omega,HXL.out.1.trans HI.out.2.2.1,⟨HW3.out.1,HW3.out.2.1,laidC_I HW3.out.2.2 HL4.out⟩,HY.out,D5,Dd5,A5,R5,HF5.out⟩
    case measure=>have:=HI.out.2.1;simp [intOf];omega
end Go.Proofs.YtaccfepnhmgagaaGreatDoor.Cc_u
