/- Parts. -/
import Derived.Test.YtnaahjlpldnjjaaGreatDoorYab
import Derived.Test.YtnaahjlpldnjjaaGreatDoorYaa
set_option linter.unusedVariables false
set_option linter.unusedSimpArgs false
set_option maxRecDepth 100000
namespace Go.Proofs.YtnaahjlpldnjjaaGreatDoor.Kc_u
open Go.RowKit Go.Proofs.YtnaahjlpldnjjaaGreatDoor.Ar Go.Proofs.YtnaahjlpldnjjaaGreatDoor.Og Go.Proofs.YtnaahjlpldnjjaaGreatDoor.Ref Go.Proofs.YtnaahjlpldnjjaaGreatDoor.Mx Go.Proofs.YtnaahjlpldnjjaaGreatDoor.Wd
set_option linter.unusedVariables false
set_option linter.unusedSimpArgs false
def HpAt (vs P W:Int) (len:Nat) (W0:World) (b p q:Nat) (mv iv:Value) (wr:World):Prop:=∃ (i:Nat) (y:Cm) (s:St) (met:Int),mv = .int .i64 met∧iv = .int .i64 i∧HpI vs P W i y s met∧s.l.length=len∧KcIs wr b y∧Ar wr p q s∧Fr [b,p,q] W0 wr
theorem HpI.lnb {vs P W:Int} {i:Nat} {y:Cm} {s:St} {met:Int} (h:HpI vs P W i y s met):0≤y.ln∧y.ln≤5:=by have:=h.hln;have:=h.i4;omega
theorem HpI.met {vs P W:Int} (hW:0≤W) {i:Nat} {y:Cm} {s:St} {met:Int} (h:HpI vs P W i y s met):-1≤met∧met≤W+1:=by
 have:=h.i4;rcases (by omega:i=0∨i=1∨i=2∨i=3∨i=4) with rfl | rfl | rfl | rfl | rfl
 ·have:=(h.z rfl).1;omega
 ·have:=(h.one rfl).1;omega
 ·rcases h.two rfl with ⟨k,_⟩ | ⟨k,_⟩ <;> omega
 ·rcases h.three rfl with ⟨k,_⟩ | ⟨V,k,k2,k3,_⟩ <;> omega
 ·obtain ⟨V,k1,k2,-,-,k⟩:=h.four rfl;omega
set_option maxRecDepth 100000 in
set_option maxHeartbeats 6400000 in
theorem helped13 (c:Cf) (rs:List (List O)) (ps ds:List Int) (ov pv dv:Value) (ss:List Sv) (R:List Nat) (k at_:Int) (hk:0≤k∧k≤255) (hat:0≤at_∧at_≤255) (w:World) (t:Word.Tab w)
  (hS:q3q w (.agg #[.int .i64 c.t,.int .i64 c.c,.int .i64 c.wd,.int .i64 c.v,ov,pv,dv]) c rs ps ds ov pv dv ss R) :
  Calls Tryz.prog 7 #[.agg #[.int .i64 c.t,.int .i64 c.c,.int .i64 c.wd,.int .i64 c.v,ov,pv,dv],.int .u8 k,.int .u8 at_] w fun e w'=>e = .returned (.bool true)∧Fr [] w w':=by
 have HS:=q9 hS;have F0:=(Fr.refl [] w).alloc (.cells #[.int .i64 c.t,.int .i64 c.c,.int .i64 c.wd,.int .i64 c.v,ov,pv,dv] 27);have o1:=Ob.new w 27 #[.int .i64 c.t,.int .i64 c.c,.int .i64 c.wd,.int .i64 c.v,ov,pv,dv];clear hS;go_enter Tryz.func7,Tryz.ntmps7;go_wp2_with fail;generalize World.alloc w _=w0 at *;generalize hb1:w.heap.size=b1 at *;refine (known_true w0 (Gq_u.tab_up t F0)).mono ?_;rintro e w1 ⟨rfl,F1⟩;have G:=F0.trans F1;replace o1:=o1.up F1;clear F0 F1;have HX:=q9 (qc hb1 o1.lt);clear hb1;have d0:=Ob.cell (i:=0) o1 rfl;have d1:=Ob.cell (i:=1) o1 rfl;have d2:=Ob.cell (i:=2) o1 rfl;have d3:=Ob.cell (i:=3) o1 rfl;have d4:=Ob.cell (i:=4) o1 rfl;have d5:=Ob.cell (i:=5) o1 rfl;have d6:=Ob.cell (i:=6) o1 rfl;go_wp2_with fail;refine (wide_any c.t c.c c.wd c.v rs ps ds _ 200 _ (HS.out.scr.up G)).mono ?_;rintro e w2 ⟨rfl,F2⟩;replace G:=G.trans F2;replace o1:=o1.up F2;clear d0 d1 d2 d3 d4 d5 d6 F2;have d0:=Ob.cell (i:=0) o1 rfl;have d1:=Ob.cell (i:=1) o1 rfl;have d2:=Ob.cell (i:=2) o1 rfl;have d3:=Ob.cell (i:=3) o1 rfl;have d4:=Ob.cell (i:=4) o1 rfl;have d5:=Ob.cell (i:=5) o1 rfl;have d6:=Ob.cell (i:=6) o1 rfl;cases hw:Uw c.t c.c c.wd c.v rs ps ds 200 with
 | true =>
  clear hw;go_wp2_with fail;go_ret;exact ⟨rfl,G⟩
 | false =>
  have HW:=q9 (qat hw);clear hw;have HT:=q9 (qc t (qc hk hat));clear t hk hat;have HK:=q9 (qc5 HW.out.2.2.2.2.2).1;have oc:=Ob.new w2 23 #[.int .i64 c.t,.int .i64 c.c,.int .i64 c.wd,.int .i64 c.v];have FA:=(Fr.refl [] w2).alloc (.cells #[.int .i64 c.t,.int .i64 c.c,.int .i64 c.wd,.int .i64 c.v] 23);have hbc:=G.size;have o1a:=o1.up FA;have e0:=Ob.cell (i:=0) o1a rfl;have e1:=Ob.cell (i:=1) o1a rfl;have e2:=Ob.cell (i:=2) o1a rfl;have e3:=Ob.cell (i:=3) o1a rfl;have e4:=Ob.cell (i:=4) o1a rfl;have e5:=Ob.cell (i:=5) o1a rfl;have e6:=Ob.cell (i:=6) o1a rfl;go_wp2_with fail;generalize World.alloc w2 _=w3 at *;generalize w2.heap.size=bc at *;clear d0 d1 d2 d3 d4 d5 d6 e0 e1 e2 e3 e4 e5 e6 o1a;replace G:=G.trans FA;replace o1:=o1.up FA;refine (left_any c rs ps ds ov pv dv ss R _ _ (HS.out.up G) HW.out.2.2.2.2.2 (by have:=HW.out.1;omega)).mono ?_;rintro e w4 ⟨pr,qr,rfl,hpr,hqr,Hr,F4⟩;have hV:=runP_V (M:=60) ds HK.out (q8g ds HW.out.2.2.2.2.2) A0e (fun r hr=>by have:=HW.out.2.2.2.2.1 r hr;omega) ps (by have:=HW.out.1;omega);have hLN:=runP_len HK.out rs ds ps;generalize (q7v c rs ds ps).a=s at *;have HV:=q9 (qc hV hLN);clear hV hLN;replace G:=G.trans F4;replace oc:=oc.up F4;have hbl:=oc.lt;have hGs:=G.size;clear F4 hpr hqr FA o1;go_wp2_with fail;refine (arena_any pr qr s _ Hr).mono ?_;rintro e w5 ⟨pa,qa,rfl,hpa,hqa,Ha_u,F5⟩;replace G:=G.trans F5;replace oc:=oc.up F5;have hal:=Ha_u.lt;clear F5 Hr;have HN0:=q9 (show bc≠pa∧bc≠qa∧w.heap.size≤bc∧w.heap.size≤pa∧w.heap.size≤qa by omega);obtain ⟨c0,c1,c2,c3⟩:=Pl.yn oc;have hct:=HK.out.t1;have hct8:=HK.out.t8;have hk:=HT.out.2.1;have hm:0≤k % c.t∧k % c.t<c.t:=⟨Int.emod_nonneg _ A0e,Int.emod_lt_of_pos _ A0e⟩;have hz:¬ c.t=0:=by omega
  have htm:Int.tmod k c.t=k % c.t:=Int.tmod_eq_emod_of_nonneg hk.1;have HOC:=q9 oc;have HG:=q9 G;have hal2:=hal;clear oc G hpa hqa hbl hGs hbc;go_wp2_with fail;refine (yd _ pa qa _ 1 Ha_u).mono ?_;rintro e _ ⟨rfl,rfl⟩;go_wp2_with fail;refine (qbe c (k % c.t) 500 A0e _).mono ?_;rintro e w6 ⟨b,rfl,hb,D,F6⟩;have A6:=Ha_u.kept F6 A0g A0g;have HG6:=q9 (HG.out.trans F6);have HO6:=q9 (HOC.out.up F6);have ht:=tabLt HT.out.1;have hgs:=HG.out.size;have hbcl:=HOC.out.lt;have hn0:=HN0.out;have hX:=HX.out;have HN:=q9 (show (b≠pa∧b≠qa)∧(bc≠b∧bc≠pa∧bc≠qa)∧(2≠b∧2≠pa∧2≠qa)∧(w.heap.size≤b∧w.heap.size≤pa∧w.heap.size≤qa) by omega);clear c0 c1 c2 c3 hal hal2 Ha_u F6 hb ht hgs hbcl hn0 hX htm hz hk;have hth:=hm;generalize k % c.t=th at *;have hfs:(q2t s.l).l=s.l:=rfl;have hlen:(s.l.length:Int)=c.wd:=HV.out.2;have htop:=HK.out.top;have hcc:=HK.out.c2;have hv20:=HK.out.v2;have hPP:1<3+th∧3+th<(s.l.length:Int):=by omega
  have HP:=q9 (qc hth hPP);have hW0:=HV.out.1.c0;have hps:=HV.out.1.ps th hth.1 hth.2;rw [hfs]
  have hI:HpI c.v (3+th) (qw s.l 1) 0 (y00 c.v (3+th) 500) (q2t s.l) (-1):=by refine ⟨rfl,rfl,rfl,rfl,by omega,fun k=>by omega,fun _=>⟨rfl,rfl,?_⟩,fun k=>by omega,fun k=>by omega,fun k=>by omega,fun k=>by omega⟩;show q55 (qw s.l (3+th))≠500;omega
  have hln:(q2t s.l).l.length=s.l.length:=rfl;have HW0:=q9 hW0;generalize qw s.l 1=W at *;generalize s.l.length=len at *;have D6:KcIs w6 b (y00 c.v (3+th) 500):=D;generalize q2t s.l=sa at *;clear hfs hlen htop hcc hm D hps hPP hct hct8 hv20 hW0;go_wp2_with fail;go_loopw [13,14] (fun mv iv wr=>HpAt c.v (3+th) W len w6 b pa qa mv iv wr) (fun mv iv _=>20 - (intOf iv).toNat);case atStart=>exact ⟨0,_,sa,-1,rfl,rfl,hI,hln,D6,A6,Fr.refl _ _⟩
  case round =>
   obtain ⟨i,y,s2,met,rfl,rfl,hI2,hl2,D2,A2,F2⟩:=hrel;have HS1:=q9 (kstep_any hI2.lnb (Gq_u.tab_kept (Gq_u.tab_up HT.out.1 HG6.out) F2 (by simp;exact HN.out.2.2.1)) D2 A2 HN.out.1 HN.out.2.2.1.2);have hi4:=hI2.i4;have HI:=q9 (qc hI2 hl2);have HF:=q9 F2;have q1:decide ((i:Int)<9)=true:=by simp;omega
   clear D2 A2 F2 hI2 hl2 hI hln D6 A6;go_wp2_with fail;refine HS1.out.mono ?_;rintro e w7 ⟨rfl,D3,A3,F3⟩;have HF3:=q9 (HF.out.trans F3);clear F3 HF HS1;by_cases hv:c.v≤W
   ·obtain ⟨rfl,s5,serr⟩:=HI.out.1.stop hv;have HV1:=q9 (Vf (o:=0) D3 rfl);rw [serr] at HV1;rw [decide_eq_true s5];have HVV:=q9 hv;have hge:decide (W≥c.v)=true:=by simp;omega
    have hge2:decide (c.v≤W)=true:=by simp;omega
    generalize (y.go s2).1=y3 at *;generalize (y.go s2).2=s3 at *;clear hv s5 serr D3 A3 hi4;go_wp2_with fail;refine HV1.out.mono ?_;rintro e w8 ⟨rfl,F8⟩;have HF8:=q9 (HF3.out.then F8);have oc8:=(HO6.out.kept HF8.out (by simp;exact HN.out.2.1));obtain ⟨c0,c1,c2,c3⟩:=Pl.yn oc8;rw [show Pl.qch 15 = .iface 112 (.int .i64 15) from rfl];clear HV1 F8 oc8;exact A0c
   ·have hvW:W<c.v:=by omega
    have hWb:0≤W∧W≤1048576:=⟨HW0.out,by have:=HK.out.v2;omega⟩;by_cases hi3:i≤3
    ·obtain ⟨n5,hlen,hno,hyes⟩:=HI.out.1.step hWb hvW hi3 (by rw [HI.out.2];exact HP.out.2) (at_ % 5);rw [decide_eq_false n5];have HST:=q9 (qc hno hyes);have HLN:=q9 (hlen.trans HI.out.2);have HB:=q9 (qc hvW hWb);have HD3:=q9 D3;have HMB:=q9 (HI.out.1.met HW0.out);clear hv n5 hlen hno hyes hvW hWb D3;generalize (y.go s2).1=y3 at *;generalize (y.go s2).2=s3 at *;have hth:=HP.out.1;have hct8:=HK.out.t8;have hat:=HT.out.2.2;go_wp2_with fail;refine (Pl.wm th A0e A0e _).mono ?_;rintro e _ ⟨rfl,rfl⟩;go_wp2_with fail;refine (yd _ pa qa _ (3+th) A3).mono ?_;rintro e _ ⟨rfl,rfl⟩;have HA3:=q9 A3;generalize hpv:qw s3.l (3+th)=pv at *;have HPV:=q9 hpv;clear hpv A3
     have noHelp:¬ helps (3+th) (at_ % 5) i s3→HpAt c.v (3+th) W len w6 b pa qa (.int .i64 met) (.int .i64 ((i:Int)+1)) w7:=fun hn =>
      ⟨i+1,y3,s3,met,rfl,by simp,HST.out.1 hn,HLN.out,HD3.out,HA3.out,HF3.out⟩
     have HNO:=q9 noHelp;clear noHelp;by_cases hA:(i:Int)=at_ % 5
     case neg =>
      have c1:((i:Int) == at_ % 5)=false:=by simpa using hA
      have HX1:=q9 (HNO.out (fun q=>hA q.1));clear hA;exact Pv
     have c1:((i:Int) == at_ % 5)=true:=by simpa using hA
     have HAA:=q9 hA;clear hA;go_wp2_with fail;refine (Xn pv _).mono ?_;rintro e _ ⟨rfl,rfl⟩;by_cases hPt:ku pv=1
     case neg =>
      have c2:(ku pv == 1)=false:=by simpa using hPt
      have HX1:=q9 (HNO.out (fun q=>hPt (by rw [← HPV.out];exact q.2.1)));clear hPt;exact Pv
     have c2:(ku pv == 1)=true:=by simpa using hPt
     have HPT:=q9 hPt;clear hPt;go_wp2_with fail;refine (q1b pv _).mono ?_;rintro e _ ⟨rfl,rfl⟩;by_cases hSq:q55 pv=500
     case neg =>
      have c3:(q55 pv == 500)=false:=by simpa using hSq
      have HX1:=q9 (HNO.out (fun q=>hSq (by rw [← HPV.out];exact q.2.2)));clear hSq;exact Pv
     have c3:(q55 pv == 500)=true:=by simpa using hSq
     have hy:=HST.out.2 ⟨HAA.out,by rw [HPV.out];exact HPT.out,by rw [HPV.out];exact hSq⟩;have hmet:=hy.met HW0.out;have HYS:=q9 hy;have hlp:=(helped_at (s:=s3) (P:=3+th) (by rw [HLN.out];exact HP.out.2)).2.2;have HLP:=q9 (hlp.trans HLN.out);clear hSq hy hlp HNO HST;go_wp2_with fail;refine (yd _ pa qa _ 1 HA3.out).mono ?_;rintro e _ ⟨rfl,rfl⟩;have hWb:=HB.out.2;generalize hck:qw s3.l 1=ck at *;have HCK:=q9 hck;clear hck;go_wp2_with fail;refine (kg _ pa qa s3 1 (ck+1) HA3.out).mono ?_;rintro e w8 ⟨rfl,A8,F8⟩;have HA8:=q9 (qc A8 F8);clear A8 F8;go_wp2_with fail;refine (Pl.wm th A0e A0e _).mono ?_;rintro e _ ⟨rfl,rfl⟩;go_wp2_with fail;refine (Xa 500 (ck+2) _).mono ?_;rintro e _ ⟨rfl,rfl⟩;go_wp2_with fail;refine (kg _ pa qa _ (3+th) (Q0 500 (ck+2)) HA8.out.1).mono ?_;rintro e w9 ⟨rfl,A9,F9⟩;have hst:(s3.yl 1 (ck+1)).yl (3+th) (Q0 500 (ck+2))=helped (3+th) s3:=by unfold helped C5;rw [HCK.out]
     rw [hst] at A9;have HA9:=q9 (qc A9 (HA8.out.2.trans (F9.mono A0g)));clear A9 F9 hst;go_wp2_with fail;go_roundw;case rel=>exact ⟨i+1,y3,helped (3+th) s3,ck,rfl,by simp,HYS.out,HLP.out,HD3.out.kept HA9.out.2 (by simp;exact HN.out.1.2),HA9.out.1,HF3.out.trans (HA9.out.2.mono A0g)⟩
     case measure=>simp [intOf];omega
    ·obtain rfl:i=4:=by omega
     obtain ⟨n5,hl5,herr,V,hver,v0,v1,v2,v3,v4,v5⟩:=HI.out.1.last hWb;have HV1:=q9 (Vf (o:=0) D3 rfl);rw [herr,hver] at HV1;rw [decide_eq_true n5];have HA3:=q9 A3;have hpk:qw (y.go s2).2.l 1=qw s2.l 1∧qw (y.go s2).2.l (3+th)=C5 (V+2):=by rw [hl5];exact ⟨rfl,v4⟩
     generalize (y.go s2).1=y3 at *;generalize (y.go s2).2=s3 at *;generalize qw s2.l 1=ck at *;have HVV:=q9 (qc v0 (qc v1 (qc v2 (qc v3 (qc v5 hpk)))));clear n5 hl5 herr hver v0 v1 v2 v3 v4 v5 hpk D3 A3 hv hvW hWb hi3 hi4;go_wp2_with fail;refine HV1.out.mono ?_;rintro e w8 ⟨rfl,F8⟩;rw [show Pl.qch 0 = .nilIface from rfl];have A8:=HA3.out.kept F8 A0g A0g;have HF8:=q9 (HF3.out.then F8);have hth:=HP.out.1;have hct8:=HK.out.t8;have hv0:=HVV.out.1;have hv1:=HVV.out.2.1;have g1:decide (V≥W)=true:=by have:=HVV.out.2.2.1;simp;omega
     have g1':decide (W≤V)=true:=by have:=HVV.out.2.2.1;simp;omega
     have HP1:=q9 (show ∀ wz,Fr [] w8 wz→Calls Tryz.prog 23 #[.pointer (some ⟨pa,0,none⟩),.int .i64 1] wz fun e w'=>e = .returned (.int .i64 ck)∧wz=w' from fun wz Fz=>by
      have:=yd wz pa qa _ 1 (A8.kept Fz A0g A0g)
      rw [HVV.out.2.2.2.2.2.1] at this
      exact this)
     have HP2:=q9 (show ∀ wz,Fr [] w8 wz→Calls Tryz.prog 23 #[.pointer (some ⟨pa,0,none⟩),.int .i64 (3+th)] wz fun e w'=>e = .returned (.int .i64 (Q0 500 (V+2)))∧wz=w' from fun wz Fz=>by
      have:=yd wz pa qa _ (3+th) (A8.kept Fz A0g A0g)
      rw [HVV.out.2.2.2.2.2.2] at this
      exact this)
     clear A8 HV1 F8;go_wp2_with fail;refine (HP1.out _ (Fr.refl _ _)).mono ?_;rintro e _ ⟨rfl,rfl⟩;have g2:decide (V<ck)=true:=by have:=HVV.out.2.2.2.1;simp;omega
     by_cases hm:met<0
     ·have g3:decide (met<0)=true:=by simp;omega
      exact Pp
     ·have g3:decide (met<0)=false:=by simp;omega
      have g4:(V == met)=true:=by have:=HVV.out.2.2.2.2.1;simp;omega
      exact Pp
end Go.Proofs.YtnaahjlpldnjjaaGreatDoor.Kc_u
namespace Go.Proofs.YtnaahjlpldnjjaaGreatDoor.Kc_u
open Go.RowKit Go.Proofs.YtnaahjlpldnjjaaGreatDoor.Ar Go.Proofs.YtnaahjlpldnjjaaGreatDoor.Og Go.Proofs.YtnaahjlpldnjjaaGreatDoor.Ref Go.Proofs.YtnaahjlpldnjjaaGreatDoor.Mx Go.Proofs.YtnaahjlpldnjjaaGreatDoor.Wd
set_option linter.unusedVariables false
set_option maxRecDepth 100000 in
theorem helped_open {H:Type} {enc:TypeId×Value→H} {r:Reach} {b0:Nat} {d:DataW H} {p:List MemPlace} {s:Value} (k at_:Int) (W:World) (t0:Word.Tab W) (hs:Value.okWide Tryz.prog W r b0 27 s) (h:DataW.Trod enc Tryz.prog W 0 (fun _=>true) true 27 s d p) (hk:0≤k∧k≤255) (hat:0≤at_∧at_≤255) :
  Calls Tryz.prog 7 #[s,.int .u8 k,.int .u8 at_] W fun e w'=>e = .returned (.bool true)∧Fr [] W w':=by
 obtain ⟨t,c,wd,vv,vo,vp,vd,rs,ss,ps,ds,rfl,k1,k2,k3,k4,k5⟩:=Op10.open_scr hs h;exact helped13 ⟨t,c,wd,vv⟩ rs ps ds vo vp vd ss (List.range W.heap.size) k at_ hk hat W t0 (scr_in (c:=⟨t,c,wd,vv⟩) k1 k2 k3 k4 k5)
end Go.Proofs.YtnaahjlpldnjjaaGreatDoor.Kc_u
