/- ClaimTells: from whatever arena a machine leaves, with words laid between its steps: each access, the version, or that there is none. -/
import Derived.Test.YthokjbikomjhgaaGreatDoorZStart
import Derived.Test.YthokjbikomjhgaaGreatDoorZKr
import Derived.Test.YthokjbikomjhgaaGreatDoorZKc3
import Derived.Test.YthokjbikomjhgaaGreatDoorZLy
import Derived.Test.YthokjbikomjhgaaGreatDoorZCode13
import Derived.Test.YthokjbikomjhgaaGreatDoorVao
namespace Go.Proofs.YthokjbikomjhgaaGreatDoor.Kc_u
open Go.RowKit Ar Og Ref Mx Wd
set_option linter.unusedVariables false
set_option linter.unusedSimpArgs false
theorem km_keep (x:Km) (s:St):(x.step s).1.c=x.c∧(x.step s).1.t=x.t:=by
 unfold Km.step
 split
 ·unfold Km.next
  repeat' split
  all_goals exact ⟨rfl,rfl⟩
 ·exact ⟨rfl,rfl⟩
theorem km_line (x:Km) (s:St) (h:1≤x.line∧x.line≤5):(x.step s).1.line=0∨((x.step s).1.line=x.line+1∧x.line≤4):=by
 unfold Km.step
 rw [qf (by unfold Km.live;simp;omega)]
 show (x.next (x.told s)).line=0∨((x.next (x.told s)).line=x.line+1∧x.line≤4)
 generalize x.told s=v
 obtain ⟨c,t,sq,line,xv,ver,e⟩:=x
 simp only at h ⊢
 rcases (by omega:line=1∨line=2∨line=3∨line=4∨line=5) with rfl | rfl | rfl | rfl | rfl
 ·by_cases hv:c.v≤v
  ·exact .inl (by simp [Km.next,hv])
  ·exact .inr (by simp [Km.next,hv])
 ·exact .inr (by simp [Km.next])
 ·exact .inr (by simp [Km.next])
 ·exact .inr (by simp [Km.next])
 ·exact .inl (by simp [Km.next])
theorem over_eq {x:Km} {y:Cm} (h:KmR x y):decide (y.ln=5)=decide (x.line=0):=decide_eq_decide.2 h.over.symm
def TcAt (c:Cf) (th:Int) (W:World) (b bd pa qa pr qr:Nat) (iv:Value) (wr:World):Prop:=∃ (i:Nat) (x:Km) (y:Cm) (s:St),iv = .int .i64 i∧x.line=i+1∧i≤4∧x.c=c∧x.t=th∧KmR x y∧KcIs wr b y∧J0 wr bd x∧Ar wr pa qa s∧Rar wr pr qr s∧Fr [b,bd,pa,qa,pr,qr] W wr
set_option maxRecDepth 100000 in
set_option maxHeartbeats 6400000 in
theorem tells13 (c:Cf) (rs:List (List O)) (ps ds:List Int) (ov pv dv:Value) (ss:List Sv) (R:List Nat) (k sq:Int) (lv:Value) (n:Nat) (A V:Nat→Int) (hk:0≤k∧k≤255) (hsq:0≤sq∧sq≤65535) (w:World) (t:Word.Tab w) (hE:Er.ErrType w) (hP:Lay.Pks w lv n A V)
  (hS:q4k w (.agg #[.int .i64 c.t,.int .i64 c.c,.int .i64 c.wd,.int .i64 c.v,ov,pv,dv]) c rs ps ds ov pv dv ss R) :
  Calls Tryz.prog 10 #[.agg #[.int .i64 c.t,.int .i64 c.c,.int .i64 c.wd,.int .i64 c.v,ov,pv,dv],.int .u8 k,.int .u16 sq,lv] w fun e w'=>e = .returned (.bool true)∧Fr [] w w':=by
 have HS:=q9 hS
 have HPK:=q9 hP
 obtain ⟨va,vcap,rfl,hvm,-⟩:=hP
 have F0:=(Fr.refl [] w).alloc (.cells #[.int .i64 c.t,.int .i64 c.c,.int .i64 c.wd,.int .i64 c.v,ov,pv,dv] 27)
 have o1:=Ob.new w 27 #[.int .i64 c.t,.int .i64 c.c,.int .i64 c.wd,.int .i64 c.v,ov,pv,dv]
 clear hS
 go_enter Tryz.func10,Tryz.ntmps10
 go_wp2_with fail
 generalize World.alloc w _=w0 at *
 generalize hb1:w.heap.size=b1 at *
 refine (known_true w0 (Gq_u.tab_up t F0)).mono ?_;rintro e w1 ⟨rfl,F1⟩
 have G:=F0.trans F1
 replace o1:=o1.up F1
 clear F0 F1
 have HX:=q9 (qc hb1 o1.lt)
 clear hb1
 have d0:=Ob.cell (i:=0) o1 rfl
 have d1:=Ob.cell (i:=1) o1 rfl
 have d2:=Ob.cell (i:=2) o1 rfl
 have d3:=Ob.cell (i:=3) o1 rfl
 have d4:=Ob.cell (i:=4) o1 rfl
 have d5:=Ob.cell (i:=5) o1 rfl
 have d6:=Ob.cell (i:=6) o1 rfl
 go_wp2_with fail
 refine (wide_any c.t c.c c.wd c.v rs ps ds _ 300 _ (HS.out.scr.up G)).mono ?_;rintro e w2 ⟨rfl,F2⟩
 replace G:=G.trans F2
 replace o1:=o1.up F2
 clear d0 d1 d2 d3 d4 d5 d6 F2
 have d0:=Ob.cell (i:=0) o1 rfl
 have d1:=Ob.cell (i:=1) o1 rfl
 have d2:=Ob.cell (i:=2) o1 rfl
 have d3:=Ob.cell (i:=3) o1 rfl
 have d4:=Ob.cell (i:=4) o1 rfl
 have d5:=Ob.cell (i:=5) o1 rfl
 have d6:=Ob.cell (i:=6) o1 rfl
 cases hw:Uj c.t c.c c.wd c.v rs ps ds 300 with
 | true =>
  clear hw
  go_wp2_with fail
  go_ret
  exact ⟨rfl,G⟩
 | false =>
  have HW:=q9 (qbz hw)
  clear hw
  by_cases hn20:n≤20
  case neg =>
   have g1:decide ((n:Int)>20)=true:=by simp;omega
   have g2:decide ((20:Int)<(n:Int))=true:=by simp;omega
   have g3:decide (20<n)=true:=by simp;omega
   clear hn20
   go_wp2_with fail
   go_ret
   exact ⟨rfl,G⟩
  have g1:decide ((n:Int)>20)=false:=by simp;omega
  have g2:decide ((20:Int)<(n:Int))=false:=by simp;omega
  have g3:decide (n>20)=false:=by simp;omega
  have HT:=q9 (qc t (qc hE (qc hk hsq)))
  clear t hE hk hsq hn20
  go_wp2_with fail
  refine (left_any c rs ps ds ov pv dv ss R _ _ (HS.out.up G) HW.out.2.2.2.2.2 (by have:=HW.out.1;omega)).mono ?_;rintro e w4 ⟨pr,qr,rfl,hpr,hqr,Hr,F4⟩
  have HK:=q9 (qbs HW.out.2.2.2.2.2).1
  generalize (q7x c rs ds ps).a=s at *
  replace G:=G.trans F4
  replace o1:=o1.up F4
  clear F4 hpr hqr d0 d1 d2 d3 d4 d5 d6
  go_wp2_with fail
  refine (fresh_any pr qr s _ Hr).mono ?_;rintro e w5 ⟨pf,qf_u,rfl,hpf,hqf,Hf_u,F5⟩
  have hGs0:=G.size
  have hbl0:=o1.lt
  have hrl:=Hr.lt
  have hlt5:=Hf_u.lt
  replace G:=G.trans F5
  replace o1:=o1.up F5
  clear Hr F5
  go_wp2_with fail
  refine (arena_any pf qf_u (q2h s.l) _ Hf_u).mono ?_;rintro e w6 ⟨pa,qa,rfl,hpa,hqa,Ha_u,F6⟩
  have hGs:=G.size
  have hbl:=o1.lt
  replace Hf_u:=Hf_u.kept F6 (by simp) (by simp)
  replace G:=G.trans F6
  replace o1:=o1.up F6
  have hGs6:=G.size
  have hal:=Ha_u.lt
  have hfs:q2h (q2h s.l).l=q2h s.l:=rfl
  rw [hfs] at Ha_u
  clear F6 hfs
  have d0:=Ob.cell (i:=0) o1 rfl
  have d1:=Ob.cell (i:=1) o1 rfl
  have d2:=Ob.cell (i:=2) o1 rfl
  have d3:=Ob.cell (i:=3) o1 rfl
  have hct:=HK.out.t1
  have hct8:=HK.out.t8
  have hk:=HT.out.2.2.1
  have hsq:=HT.out.2.2.2
  have hm:0≤k % c.t∧k % c.t<c.t:=⟨Int.emod_nonneg _ (by omega),Int.emod_lt_of_pos _ (by omega)⟩
  have hz:¬ c.t=0:=by omega
  have htm:Int.tmod k c.t=k % c.t:=Int.tmod_eq_emod_of_nonneg hk.1
  have hws:wrap64 (sq+1)=sq+1:=w64 (by omega) (by omega)
  go_wp2_with fail
  refine z7 (by kernel_rfl) [] (fun w7 F7=>?_)
  refine Z7 [true,true,true,true,false,true,true,true,true,false,false,false] 4 (n:=129) (listed':=#[true,true,true,true,false,true,true,true,true,false,false,false]) rfl (by kernel_rfl) (by kernel_rfl) (by kernel_rfl) rfl (by kernel_rfl) (fun _ _ d _ _ h=>by cases d <;> exact h) F7 ?_
  apply qg
  refine ⟨fun wf Ff=>?_,?_⟩
  ·have k0:=qb (Ff.cell d0 (by simp))
   have k1:=qb (Ff.cell d1 (by simp))
   have k2:=qb (Ff.cell d2 (by simp))
   have k3:=qb (Ff.cell d3 (by simp))
   simp only [sel]
   repeat (go_big_quiet_step (fail))
   exact wpQuiet_nil rfl
  refine qcn 4 (by kernel_rfl) rfl rfl (fun w8 F8=>?_)
  have E8:=F7.trans F8
  clear d0 d1 d2 d3 F7 F8
  go_wp2_with fail
  refine (qbf c (k % c.t) (sq+1) (by omega) _).mono ?_;rintro e w9 ⟨b,rfl,hb,D,F9⟩
  have E9:=E8.trans F9
  have hs9:=E8.size
  have hD9:=D.lt
  go_wp2_with fail
  refine ql ⟨E9,?_⟩
  refine qcn 9 (by kernel_rfl) rfl rfl (fun w10 F10=>?_)
  have E10:=E9.trans F10
  have D10:KcIs w10 b _:=KcIs.up D F10
  clear D F10 E8 F9 E9
  go_wp2_with fail
  refine (Rv c (k % c.t) (sq+1) _).mono ?_;rintro e w11 ⟨bd,rfl,hbd,Dd,F11⟩
  have E11:=E10.trans F11
  have D11:=D10.up F11
  have hs11:=D10.lt
  clear D10 F11 E10
  go_wp2_with fail
  refine ql ⟨E11,?_⟩
  refine Z7 [false,false,false,false,false,false,false,false,false,false,true,true] 0 (n:=129) (listed':=#[true,true,true,true,true,true,true,true,true,true,true,true]) rfl (by kernel_rfl) (by kernel_rfl) (by kernel_rfl) rfl (by kernel_rfl) (fun _ _ d _ _ h=>by cases d <;> exact h) E11 ?_
  apply qg
  refine ⟨fun wf Ff=>?_,?_⟩
  ·simp only [sel]
   repeat (go_big_quiet_step (fail))
   exact wpQuiet_nil rfl
  refine zq (by kernel_rfl) (fun w12 F12=>?_)
  have hX:=HX.out
  have hE:=HT.out.2.1
  have ht:=Gq_u.tab_lt HT.out.1
  have hel:=World.block_lt_of_cell? w _ hE
  have HN:=q9 (show (b≠pa∧b≠qa)∧(bd≠pf∧bd≠qf_u)∧(pa≠pf∧pa≠qf_u∧qa≠pf∧qa≠qf_u)∧(b≠bd∧b≠pf∧b≠qf_u∧bd≠pa∧bd≠qa)∧(2≠b∧2≠bd∧2≠pa∧2≠qa∧2≠pf∧2≠qf_u)∧(1≠b∧1≠bd∧1≠pa∧1≠qa∧1≠pf∧1≠qf_u)∧(w.heap.size≤b∧w.heap.size≤bd∧w.heap.size≤pa∧w.heap.size≤qa∧w.heap.size≤pf∧w.heap.size≤qf_u) by omega)
  have HG:=q9 ((G.trans E11).trans F12)
  replace D11:=D11.up F12
  replace Dd:=Ob.up Dd F12
  have A:=Ha_u.kept (E11.trans F12) (by simp) (by simp)
  have Rr:=Hf_u.kept (E11.trans F12) (by simp) (by simp)
  have HM:=q9 hm
  clear Ha_u Hf_u G o1 hGs hbl hGs0 hbl0 hrl hlt5 hGs6 hal hpf hqf hpa hqa hb hbd hs9 hD9 hs11 hX ht hel hE E11 F12 hm hct hct8 hk hsq hz htm hws
  generalize q2h s.l=sa at *
  go_wp2_with fail
  go_loopw [15] (fun iv wr=>TcAt c (k % c.t) w12 b bd pa qa pf qf_u iv wr) (fun iv _=>20 - (intOf iv).toNat)
  case atStart=>exact ⟨0,Km.new c (k % c.t) (sq+1),Cm.new c.v (k % c.t) (sq+1),sa,rfl,rfl,by omega,rfl,rfl,KmR.new _ _ _,D11,Dd,A,Rr,Fr.refl _ _⟩
  case round =>
   obtain ⟨i,x,y,s2,rfl,hxl,hi4,hxc,hxt,hR,D2,Dd2,A2,R2,F2⟩:=hrel
   have hk1:=kstep_any hR.lnb (Gq_u.tab_kept (Gq_u.tab_up HT.out.1 HG.out) F2 (by simp;exact HN.out.2.2.2.2.1)) D2 A2 HN.out.1 ⟨HN.out.2.2.2.2.1.2.2.1,HN.out.2.2.2.2.1.2.2.2.1⟩
   have HK1:=q9 hk1
   have HI:=q9 (qc hxl (qc hi4 (qc hxc (qc hxt hR))))
   have HF:=q9 (qc F2 (qc Dd2 R2))
   have q1:decide ((i:Int)<400)=true:=by simp;omega
   clear hk1 D2 A2 F2 Dd2 R2 hxl hi4 hxc hxt hR D11 Dd A Rr
   go_wp2_with fail
   refine HK1.out.mono ?_;rintro e w13 ⟨rfl,D3,A3,F3⟩
   have HS2:=q9 (Ud x (by rw [HI.out.2.2.1];exact HK.out) (by rw [HI.out.2.2.2.1];have:=HM.out;have:=HK.out.t8;omega) bd pf qf_u s2 w13 (Ob.kept HF.out.2.1 F3 (by simp;exact ⟨fun e=>HN.out.2.2.2.1.1 e.symm,HN.out.2.2.2.1.2.2.2.1,HN.out.2.2.2.1.2.2.2.2⟩)) (HF.out.2.2.kept F3 (by simp;exact ⟨fun e=>HN.out.2.2.2.1.2.1 e.symm,fun e=>HN.out.2.2.1.1 e.symm,fun e=>HN.out.2.2.1.2.2.1 e.symm⟩) (by simp;exact ⟨fun e=>HN.out.2.2.2.1.2.2.1 e.symm,fun e=>HN.out.2.2.1.2.1 e.symm,fun e=>HN.out.2.2.1.2.2.2 e.symm⟩)) HN.out.2.1.1 HN.out.2.1.2)
   have HD3:=q9 (qc D3 (qc A3 F3))
   clear D3 A3 F3
   go_wp2_with fail
   refine HS2.out.mono ?_;rintro e w14 ⟨rfl,Dd4,R4_u,F4⟩
   have D4:=HD3.out.1.kept F4 (by simp;exact ⟨HN.out.2.2.2.1.1,HN.out.2.2.2.1.2.1,HN.out.2.2.2.1.2.2.1⟩)
   have A4:=HD3.out.2.1.kept F4 (by simp;exact ⟨fun e=>HN.out.2.2.2.1.2.2.2.1 e.symm,HN.out.2.2.1.1,HN.out.2.2.1.2.1⟩) (by simp;exact ⟨fun e=>HN.out.2.2.2.1.2.2.2.2 e.symm,HN.out.2.2.1.2.2.1,HN.out.2.2.1.2.2.2⟩)
   have HF4:=q9 (show Fr [b,bd,pa,qa,pf,qf_u] w12 w14 from (HF.out.1.trans (HD3.out.2.2.mono (by simp))).trans (F4.mono (by simp)))
   obtain ⟨hst1,hst2⟩:=HI.out.2.2.2.2.step s2
   rw [over_eq hst1]
   rw [← hst2] at A4
   have HY:=q9 hst1
   have HXL:=q9 (qc (km_keep x s2) (km_line x s2 (by have:=HI.out.1;have:=HI.out.2.1;omega)))
   clear hst1 hst2 HS2 HK1 F4 HF HD3
   generalize (x.step s2).1=x3 at *
   generalize (y.go s2).1=y3 at *
   generalize (x.step s2).2=s3 at *
   have hi4:=HI.out.2.1
   have hbb:(decide (x3.line=0) != decide (x3.line=0))=false:=by cases decide (x3.line=0) <;> rfl
   obtain ⟨cap,hcap,r0,r1,r2',r3,r4,r5,r6,hc⟩:=Ref.Qk R4_u
   have i1:=qb r1
   have i2:=qb r2'
   have i3:=qb r3
   have i4:=qb r4
   have i5:=qb r5
   have i6:=qb r6
   have HQ:=q9 (qc D4 (qc A4 (qc R4_u Dd4)))
   clear r0 r1 r2' r3 r4 r5 r6 hc hcap
   have hG:=Al.q8s
   have hne:=Al.qam s3.a.kind s3.a.at_ s3.a.old s3.a.new s3.a.kind s3.a.at_ s3.a.old s3.a.new s3.a.ok s3.a.ok
   simp only [beq_self_eq_true,Bool.and_self,Bool.not_true] at hne
   clear D4 R4_u Dd4
   have ht14:=Gq_u.tab_kept (Gq_u.tab_up HT.out.1 HG.out) HF4.out (by simp;exact ⟨HN.out.2.2.2.2.1.1,HN.out.2.2.2.2.1.2.1,HN.out.2.2.2.2.1.2.2.1,HN.out.2.2.2.2.1.2.2.2.1,HN.out.2.2.2.2.1.2.2.2.2.1,HN.out.2.2.2.2.1.2.2.2.2.2⟩)
   have hE14:Er.ErrType w14:=(HT.out.2.1.kept HG.out (by simp)).kept HF4.out (by simp;exact ⟨HN.out.2.2.2.2.2.1.1,HN.out.2.2.2.2.2.1.2.1,HN.out.2.2.2.2.2.1.2.2.1,HN.out.2.2.2.2.2.1.2.2.2.1,HN.out.2.2.2.2.2.1.2.2.2.2.1,HN.out.2.2.2.2.2.1.2.2.2.2.2⟩)
   have HTE:=q9 (qc ht14 hE14)
   clear ht14 hE14
   by_cases hz:x3.line=0
   ·rw [decide_eq_true hz] at hbb ⊢
    have HZ:=q9 hz
    clear hz
    go_wp2_with fail
    refine R7 (by kernel_rfl) (by kernel_rfl) ?_
    repeat (go_big_quiet_step ((first | (go_at_call 30;exact Calls.in_same (Rn _ pa qa s3 (A4.kept (In.fr _) (by simp) (by simp)))) | (go_at_call 31;exact Calls.in_ (Ar.qc7 _ pa qa s3 _ _ _ _ _ (A4.kept (In.fr _) (by simp) (by simp)) rfl)))))
    refine wpQuiet_nil ?_
    intro w15 F15
    clear i1 i2 i3 i4 i5 i6 hne hG hbb A4
    have HV:=q9 (Vd (o:=0) (HQ.out.1.up F15) rfl)
    have HTL:=q9 HY.out.told
    rw [HTL.out.1,HTL.out.2] at HV
    go_wp2_with fail
    refine HV.out.mono ?_;rintro e w16 ⟨rfl,F16⟩
    have FF:=F15.trans F16
    have hd:=Ob.up HQ.out.2.2.2 FF
    obtain ⟨-,-,-,-,-,-,m6,-,m8,m9⟩:=yz hd
    have HR:=q9 (qc (HQ.out.2.1.kept FF (by simp) (by simp)) (qc (HQ.out.2.2.1.kept FF (by simp) (by simp)) (qc (HTE.out.2.kept FF (by simp)) (HF4.out.then FF))))
    have he15:=HY.out.e5 HZ.out
    clear hd HV HQ F15 F16 FF
    rw [HZ.out] at m6
    rcases he15 with ⟨k1,k2,k3⟩ | ⟨k1,k2,k3⟩
    ·rw [show (if x3.e≠0∨x3.line≠0 then (0:Int) else x3.version)=0 from qf (.inl (by rw [k1];decide))]
     rw [k1] at m9 ⊢
     have j9:=qb m9
     clear k1 k2 k3
     go_wp2_with fail
     refine R7 (by kernel_rfl) (by kernel_rfl) ?_
     repeat (go_big_quiet_step ((first | (go_at_call 65;exact Calls.in_ (code_errv 15 _ (HR.out.2.2.1.kept (In.fr _) (by simp)))) | (go_at_call 35;exact Calls.in_ (Al.alike_any _ pa qa pf qf_u s3 (HR.out.1.kept (In.fr _) (by simp) (by simp)) (HR.out.2.1.kept (In.fr _) (by simp) (by simp)))))))
     refine wpQuiet_nil ?_
     intro w17 F17
     go_wp2
     go_ret
     exact ⟨rfl,HG.out.own (HR.out.2.2.2.then F17) (by have:=HN.out.2.2.2.2.2.2;simp;omega)⟩
    ·rw [show (if x3.e≠0∨x3.line≠0 then (0:Int) else x3.version)=x3.version from qd (by rw [k1,HZ.out];decide)]
     rw [k1] at m9 ⊢
     have j9:=qb m9
     clear k1 k2 k3
     generalize x3.version=xv at *
     go_wp2_with fail
     refine R7 (by kernel_rfl) (by kernel_rfl) ?_
     repeat (go_big_quiet_step ((first | (go_at_call 65;exact Calls.in_ (code_errv 0 _ (HR.out.2.2.1.kept (In.fr _) (by simp)))) | (go_at_call 35;exact Calls.in_ (Al.alike_any _ pa qa pf qf_u s3 (HR.out.1.kept (In.fr _) (by simp) (by simp)) (HR.out.2.1.kept (In.fr _) (by simp) (by simp)))))))
     refine wpQuiet_nil ?_
     intro w17 F17
     go_wp2
     go_ret
     exact ⟨rfl,HG.out.own (HR.out.2.2.2.then F17) (by have:=HN.out.2.2.2.2.2.2;simp;omega)⟩
   ·rw [decide_eq_false hz] at hbb ⊢
    have HZ:=q9 hz
    clear hz
    go_wp2_with fail
    refine R7 (by kernel_rfl) (by kernel_rfl) ?_
    repeat (go_big_quiet_step ((first | (go_at_call 30;exact Calls.in_same (Rn _ pa qa s3 (A4.kept (In.fr _) (by simp) (by simp)))) | (go_at_call 31;exact Calls.in_ (Ar.qc7 _ pa qa s3 _ _ _ _ _ (A4.kept (In.fr _) (by simp) (by simp)) rfl)))))
    refine wpQuiet_nil ?_
    intro w15 F15
    clear i1 i2 i3 i4 i5 i6 hne hG hbb A4
    have HL:=q9 (Lay.lay_any pa qa pf qf_u s3 _ n A V i w15 (HQ.out.2.1.kept F15 (by simp) (by simp)) (HQ.out.2.2.1.kept F15 (by simp) (by simp)) (HPK.out.kept (w0:=w) (S:=[b,bd,pa,qa,pf,qf_u]) (((HG.out.mono (by simp)).trans HF4.out).then F15) (by have:=HN.out.2.2.2.2.2.2;simp;omega)) (by have:=HI.out.2.1;omega) HN.out.2.2.1)
    go_wp2_with fail
    refine HL.out.mono ?_;rintro e w16 ⟨rfl,s4,hs4,A5,R5,F16⟩
    have D5:=(HQ.out.1.up F15).kept F16 (by simp;exact ⟨HN.out.1.1,HN.out.1.2,HN.out.2.2.2.1.2.1,HN.out.2.2.2.1.2.2.1⟩)
    have Dd5:=Ob.kept (Ob.up HQ.out.2.2.2 F15) F16 (by simp;exact ⟨HN.out.2.2.2.1.2.2.2.1,HN.out.2.2.2.1.2.2.2.2,HN.out.2.1.1,HN.out.2.1.2⟩)
    have HF5:=q9 ((HF4.out.then F15).trans (F16.mono (by intro k hk;simp at hk ⊢;rcases hk with h | h | h | h <;> simp [h])))
    clear HL F15 F16 HQ hs4
    go_wp2_with fail
    go_roundw
    case rel =>
     have hl:=HXL.out.2.resolve_left HZ.out
     exact ⟨i+1,x3,y3,s4,by simp,by rw [hl.1,HI.out.1];simp,by have:=HI.out.1;omega,HXL.out.1.1.trans HI.out.2.2.1,HXL.out.1.2.trans HI.out.2.2.2.1,HY.out,D5,Dd5,A5,R5,HF5.out⟩
    case measure=>have:=HI.out.2.1;simp [intOf];omega
end Go.Proofs.YthokjbikomjhgaaGreatDoor.Kc_u
