/- Parts. -/
import Derived.Test.YtaccfepnhmgagaaGreatDoorJab
import Derived.Test.YtaccfepnhmgagaaGreatDoorJaa
import Derived.Test.YtaccfepnhmgagaaGreatDoorVal
set_option linter.unusedVariables false
set_option linter.unusedSimpArgs false
set_option maxRecDepth 100000
namespace Go.Proofs.YtaccfepnhmgagaaGreatDoor.Cc_u
open Go.RowKit Go.Maps Go.Proofs.YtaccfepnhmgagaaGreatDoor.Ar Go.Proofs.YtaccfepnhmgagaaGreatDoor.Og Go.Proofs.YtaccfepnhmgagaaGreatDoor.Ref Go.Proofs.YtaccfepnhmgagaaGreatDoor.Mx Go.Proofs.YtaccfepnhmgagaaGreatDoor.Wd
set_option linter.unusedVariables false
set_option linter.unusedSimpArgs false
theorem posts_cases {a:Acc} (h:posts a=false):(a.kind == 3)=false∨((a.kind == 3)=true∧a.ok=false)∨((a.kind == 3)=true∧a.ok=true∧(a.new == 1)=false):=A03
theorem posts_true {a:Acc} (h:posts a=true):(a.kind == 3)=true∧a.ok=true∧(a.new == 1)=true:=A03
theorem u8_getC {st:List Int} (h:∀ n∈st,(Lit.int IntKind.u8 n).wf=true) {k:Nat} (hk:k<st.length):0≤st.getD k 0∧st.getD k 0≤255:=by rw [List.getD_eq_getElem?_getD,List.getElem?_eq_getElem hk];have:=bounds_u8 (h _ (List.getElem_mem hk));simp only [Option.getD_some];omega
def WtR (W:World) (b pa qa:Nat) (k cap B:Int) (len:Nat) (pv iv:Value) (wr:World):Prop:=∃ (i:Nat) (y:Cx_u) (s:St) (p:Int),pv = .int .i64 p∧iv = .int .i64 (i:Nat)∧WtI k cap len i (B+4 * i) y s p∧CcIs wr b y∧Ar wr pa qa s∧Fr [b,pa,qa] W wr
set_option maxRecDepth 100000 in
set_option maxHeartbeats 6400000 in
theorem waits15 (c:Cf) (rs:List (List O)) (ps ds:List Int) (ov pv dv:Value) (ss:List Sv) (R:List Nat) (k ky:Int) (lv:Value) (zs:List Int) (hk:0≤k∧k≤255) (hky:0≤ky∧ky≤255) (w:World) (t:Word.Tab w) (hI:Law.Ints w .u8 lv zs)
  (hS:q52 w (.agg #[.int .i64 c.t,.int .i64 c.c,.int .i64 c.wd,.int .i64 c.v,ov,pv,dv]) c rs ps ds ov pv dv ss R) :
  Calls Tryz.prog 4 #[.agg #[.int .i64 c.t,.int .i64 c.c,.int .i64 c.wd,.int .i64 c.v,ov,pv,dv],.int .u8 k,.int .u8 ky,lv] w fun e w'=>e = .returned (.bool true)∧Fr [] w w':=by
 obtain ⟨va,vcap,rfl,hvm,hvw,hvh⟩:=hI;have HIN:=q9 (qc hvw hvh);clear hvw hvh;have HS:=q9 hS;have F0:=(Fr.refl [] w).alloc (.cells #[.int .i64 c.t,.int .i64 c.c,.int .i64 c.wd,.int .i64 c.v,ov,pv,dv] 27);have o1:=Ob.new w 27 #[.int .i64 c.t,.int .i64 c.c,.int .i64 c.wd,.int .i64 c.v,ov,pv,dv];clear hS;go_enter Tryz.func4,Tryz.ntmps4;go_wp2_with fail;generalize World.alloc w _=w0 at *;generalize hb1:w.heap.size=b1 at *;refine (known_true w0 (Gq_u.tab_up t F0)).mono ?_;rintro e w1 ⟨rfl,F1⟩;have G:=F0.trans F1;replace o1:=o1.up F1;clear F0 F1;have HX:=q9 (qc hb1 o1.lt);clear hb1;have d0:=Ob.cell (i:=0) o1 rfl;have d1:=Ob.cell (i:=1) o1 rfl;have d2:=Ob.cell (i:=2) o1 rfl;have d3:=Ob.cell (i:=3) o1 rfl;have d4:=Ob.cell (i:=4) o1 rfl;have d5:=Ob.cell (i:=5) o1 rfl;have d6:=Ob.cell (i:=6) o1 rfl;go_wp2_with fail;refine (wide_any c.t c.c c.wd c.v rs ps ds _ 200 _ (HS.out.scr.up G)).mono ?_;rintro e w2 ⟨rfl,F2⟩;replace G:=G.trans F2;replace o1:=o1.up F2;clear d0 d1 d2 d3 d4 d5 d6 F2;have d0:=Ob.cell (i:=0) o1 rfl;have d1:=Ob.cell (i:=1) o1 rfl;have d2:=Ob.cell (i:=2) o1 rfl;have d3:=Ob.cell (i:=3) o1 rfl;have d4:=Ob.cell (i:=4) o1 rfl;have d5:=Ob.cell (i:=5) o1 rfl;have d6:=Ob.cell (i:=6) o1 rfl;cases hw:Ui c.t c.c c.wd c.v rs ps ds 200 with
 | true =>
  clear hw;go_wp2_with fail;go_ret;exact ⟨rfl,G⟩
 | false =>
  have HW:=q9 (qbu hw);clear hw;by_cases hn10:zs.length≤10
  case neg =>
   have g1:decide ((zs.length:Int)>10)=true:=by simp;omega
   have g2:decide ((10:Int)<(zs.length:Int))=true:=by simp;omega
   have g3:decide (10<zs.length)=true:=by simp;omega
   clear hn10;go_wp2_with fail;go_ret;exact ⟨rfl,G⟩
  have g1:decide ((zs.length:Int)>10)=false:=by simp;omega
  have g2:decide ((10:Int)<(zs.length:Int))=false:=by simp;omega
  have g3:decide (zs.length>10)=false:=by simp;omega
  have HT:=q9 (qc t (qc hk hky));clear t hk hky;have HC0:=q9 (qb1 HW.out.2.2.2.2.2).1;go_wp2_with fail;refine qp A0g ?_;refine za [] w2 #[true,true,true,true,true,false,false] 5 2 rfl ?_;refine envT_pass [true,true,true,false,false,false,false] 2 (n:=126) (listed':=#[true,true,true,false,false,false,false]) rfl A0g A0g A0g A0g A0g rfl A0g (fun _ _ d _ _ h=>by cases d <;> exact h) ((Fr.refl _ w2).drew) ?_;apply qg;refine ⟨fun wf Ff=>?_,?_⟩
  ·have i0:=qb (Ff.cell d0 A0h);have i1:=qb (Ff.cell d1 A0h);have i2:=qb (Ff.cell d2 A0h);have i3:=qb (Ff.cell d3 A0h);have i4:=qb (Ff.cell d4 A0h);have i5:=qb (Ff.cell d5 A0h);have i6:=qb (Ff.cell d6 A0h);exact Pu
  have HG:=q9 G;clear d0 d1 d2 d3 d4 d5 d6 o1 G;refine jl [3,4] A0g A0h (fun w3 F3 i hi o ho=>?_);have D3:=(Fr.refl [] w2).drew.trans F3;rcases (by simpa using hi:i=3∨i=4) with rfl | rfl
  case' inl =>
   obtain rfl:=qi ho;clear ho hi;go_wp2_with fail;refine (left_any c rs ps ds ov pv dv ss R _ _ (HS.out.up (HG.out.trans D3)) HW.out.2.2.2.2.2 A0t).mono ?_;rintro e w4 ⟨pr,qr,rfl,hpr,hqr,Hr,F4⟩;have D4:=D3.trans F4;go_wp2_with fail;refine ql ⟨D4,?_⟩;refine q87 4 A0g rfl rfl (fun w5 F5=>?_);have D5:=D4.trans F5;have oz:=Ob.new w5 23 #[.int .i64 0,.int .i64 0,.int .i64 0,.int .i64 0];have FA:=(Fr.refl [] w5).alloc (.cells #[.int .i64 0,.int .i64 0,.int .i64 0,.int .i64 0] 23);have hbc:=D5.size;have hne0:pr≠w5.heap.size∧qr≠w5.heap.size:=by have:=Hr.lt;have:=F5.size;omega
   go_wp2_with fail;generalize World.alloc w5 _=w6 at *;generalize w5.heap.size=bc at *;refine ql ⟨D5.trans FA,?_⟩;refine qy (k:=5) rfl A0g (fun w7 F7=>?_);have o7:=oz.up F7;have E7:=F5.trans (FA.trans F7);replace Hr:=Hr.kept E7 A0h A0h;have G:=HG.out.trans (D4.trans E7)
  case' inr =>
   obtain rfl:=qi ho;clear ho hi;have oz:=Ob.new w3 23 #[.int .i64 0,.int .i64 0,.int .i64 0,.int .i64 0];have FA:=(Fr.refl [] w3).alloc (.cells #[.int .i64 0,.int .i64 0,.int .i64 0,.int .i64 0] 23);have hbc:=D3.size;go_wp2_with fail;generalize World.alloc w3 _=w4 at *;generalize w3.heap.size=bc at *;refine ql ⟨D3.trans FA,?_⟩;refine q87 3 A0g rfl rfl (fun w5 F5=>?_);have D5:=(D3.trans FA).trans F5;replace oz:=oz.up F5;go_wp2_with fail;refine (left_any c rs ps ds ov pv dv ss R _ _ (HS.out.up (HG.out.trans D5)) HW.out.2.2.2.2.2 A0t).mono ?_;rintro e w6 ⟨pr,qr,rfl,hpr,hqr,Hr,F6⟩;have hne0:pr≠bc∧qr≠bc:=by have:=oz.lt;omega
   go_wp2_with fail;refine ql ⟨D5.trans F6,?_⟩;refine qy (k:=5) rfl A0g (fun w7 F7=>?_);have o7:=(oz.up F6).up F7;replace Hr:=Hr.kept F7 A0h A0h;have G:=HG.out.trans ((D5.trans F6).trans F7)
  all_goals
   have hbw:w.heap.size≤bc:=qh HG.out.size hbc
   have hbl:=o7.lt
   have hrl:=Hr.lt
   clear hpr hqr
   obtain ⟨z0,z1,z2,z3⟩:=Pl.yn o7
   have zf:=o7.frozen
   have F8:Fr [bc] w7 ((((w7.setCell ⟨bc,0,none⟩ (.int .i64 c.t)).setCell ⟨bc,1,none⟩ (.int .i64 c.c)).setCell ⟨bc,2,none⟩ (.int .i64 c.wd)).setCell ⟨bc,3,none⟩ (.int .i64 c.v)):=(((Fr.setCell (S:=[bc]) (b:=bc) _ A0h).setCell' (b:=bc) _ A0h).setCell' (b:=bc) _ A0h).setCell' (b:=bc) _ A0h
   have o8:Ob ((((w7.setCell ⟨bc,0,none⟩ (.int .i64 c.t)).setCell ⟨bc,1,none⟩ (.int .i64 c.c)).setCell ⟨bc,2,none⟩ (.int .i64 c.wd)).setCell ⟨bc,3,none⟩ (.int .i64 c.v)) bc 23 #[.int .i64 c.t,.int .i64 c.c,.int .i64 c.wd,.int .i64 c.v]:=Ob.set (i:=3) (Ob.set (i:=2) (Ob.set (i:=1) (Ob.set (i:=0) o7 (.int .i64 c.t)) (.int .i64 c.c)) (.int .i64 c.wd)) (.int .i64 c.v)
   go_wp2_with fail
   clear z0 z1 z2 z3 zf o7
   generalize World.setCell (World.setCell (World.setCell (World.setCell w7 _ _) _ _) _ _) _ _=w8 at *
   replace Hr:=Hr.kept F8 (by simpa using hne0.1) (by simpa using hne0.2)
   have G8:=G.own F8 (by simpa using hbw)
   have hbc8:=o8.lt
   have hr8:=Hr.lt
   clear F8 G hbl hrl
   have hV:=runP_V (M:=60) ds HC0.out (q96 ds HW.out.2.2.2.2.2) A0f (fun r hr=>by have:=HW.out.2.2.2.2.1 r hr;omega) ps A0t
   have hLN:=runP_len HC0.out rs ds ps
   generalize (q7w c rs ds ps).a=s at *
   have HAI:=q9 (qc hV hLN)
   clear hV hLN
   refine (arena_any pr qr s _ Hr).mono ?_;rintro e w9 ⟨pa,qa,rfl,hpa,hqa,Ha_u,F9⟩
   have G9:=G8.trans F9
   have o9:=o8.up F9
   have Hr9:=Hr.kept F9 A0h A0h
   have hal:=Ha_u.lt
   have hGs:=G8.size
   clear G8 o8 F9 Hr
   obtain ⟨c0,c1,c2,c3⟩:=Pl.yn o9
   have hk:=HT.out.2.1
   have hky:=HT.out.2.2
   have h64:0≤ky % 64∧ky % 64≤63:=by omega
   have e64:wrap64 (ky % 64)=ky % 64:=w64 A0f A0f
   go_wp2_with fail
   refine qp A0g ?_
   refine za [] w9 #[true,true,true,true,true,true,true,true,true,false] 9 1 rfl ?_
   refine envT_pass [true,true,true,true,false,true,true,true,false,false] 2 (n:=126) (listed':=#[true,true,true,true,false,true,true,true,false,false]) rfl A0g A0g A0g A0g A0g rfl A0g (fun _ _ d _ _ h=>by cases d <;> exact h) ((Fr.refl _ w9).drew) ?_
   apply qg
   refine ⟨fun wf Ff=>?_,?_⟩
   ·have i0:=qb (Ff.cell c0 A0h)
    have i1:=qb (Ff.cell c1 A0h)
    have i2:=qb (Ff.cell c2 A0h)
    have i3:=qb (Ff.cell c3 A0h)
    simp only [sel]
    repeat (go_big_quiet_step (fail))
    exact wpQuiet_nil rfl
   refine q87 4 A0g rfl rfl (fun w10 F10=>?_)
   have D10:=(Fr.refl [] w9).drew.trans F10
   clear c0 c1 c2 c3 F10
   go_wp2_with fail
   refine (Pick15.q98 c HC0.out k hk pr qr s _ (Hr9.kept D10 A0h A0h) HAI.out.2).mono ?_;rintro e w11 ⟨rfl,hkc,F11⟩
   generalize hkcv:Pick15.pickV c s k=kc at *
   have D11:=D10.trans F11
   clear D10 F11
   go_wp2_with fail
   refine ql ⟨D11,?_⟩
   refine q87 8 A0g rfl rfl (fun w12 F12=>?_)
   have D12:=D11.trans F12
   clear D11 F12
   go_wp2_with fail
   refine (qbe c kc (ky % 64) 77 _).mono ?_;rintro e w13 ⟨b,rfl,hb,D,F13⟩
   have D13:=D12.trans F13
   have hs12:=D12.size
   clear D12 F13
   go_wp2_with fail
   refine ql ⟨D13,?_⟩
   refine qy (k:=9) rfl A0g (fun w14 F14=>?_)
   have D14:=D13.trans F14
   have X:=CcIs.up D F14
   have Hr14:=Hr9.kept D14 A0h A0h
   have Ha14:=Ha_u.kept D14 A0h A0h
   have o14:=o9.up D14
   have ht:=Gq_u.tab_lt HT.out.1
   have hGw:=G9.size
   have hX:=HX.out
   have hhr:=Hr9.lt
   have hlA:=Ha_u.lt
   have hlo:=o9.lt
   have HN:=q9 (show (b≠pa∧b≠qa)∧(1≠b∧1≠pa∧1≠qa)∧(bc≠b∧bc≠pa∧bc≠qa)∧(pr≠b∧pr≠pa∧pr≠qa∧qr≠b∧qr≠pa∧qr≠qa)∧(w.heap.size≤b∧w.heap.size≤pa∧w.heap.size≤qa) by
    refine ⟨⟨?_,?_⟩,⟨?_,?_,?_⟩,⟨?_,?_,?_⟩,⟨?_,?_,?_,?_,?_,?_⟩,?_,?_,?_⟩ <;> omega)
   have HG:=q9 (G9.trans D14)
   have hlen:s.l.length≤20000:=Hr9.hi
   have hlo1:2≤s.l.length:=by have h1:=hkc.1;have h2:=hkc.2;have h3:=HC0.out.c2;have h4:=HC0.out.t1;omega
   have hcc:0≤c.c∧c.c≤16:=⟨by have h3:=HC0.out.c2;have h4:=HC0.out.t1;omega,HC0.out.c16⟩
   have HKC:=q9 (qc hkc (qc hcc (qc hlen hlo1)))
   have HRR:=q9 (qc Hr14 (qc o14 hkcv))
   have hW0:WtI kc c.c s.l.length 0 (200+4 * ((0:Nat):Int)) (Cx_u.new c.c kc (ky % 64) 77) (q2p s.l) (-1) :=
    WtI.new (s:=q2p s.l) HAI.out.1.c0 (by show qw s.l 1≤_;have:=HAI.out.1.c1;have:=HW.out.1;omega)
   clear hkcv hkc hlen hlo1 hcc Hr14 o14 ht hGw hX hhr hlA hlo D14 F14 D13 D hb hs12 G9 Hr9 Ha_u o9 hpa hqa h64 e64 hky hk hal hGs hbc8 hr8
   generalize q2p s.l=sa at *
   go_wp2_with fail
   go_loopw [13,14] (WtR w14 b pa qa kc c.c 200 s.l.length) (fun _ v _=>20 - (intOf v).toNat)
   case atStart=>exact ⟨0,_,sa,-1,rfl,rfl,hW0,X,Ha14,Fr.refl _ _⟩
   ·skip
    obtain ⟨i,y,s1,p,rfl,rfl,hW,D2,A2,F2⟩:=hrel
    have hi7:=hW.le
    have g9:decide ((i:Int)<12)=true:=by simp;omega
    have HS2:=q9 (kstep_any (by rw [hW.ln];omega) (Gq_u.tab_kept (Gq_u.tab_up HT.out.1 HG.out) F2 (by simp;exact HN.out.2.1)) D2 A2 HN.out.1 ⟨HN.out.2.1.2.1,HN.out.2.1.2.2,HN.out.2.1.1⟩)
    have HST:=q9 (hW.step HKC.out.1 HKC.out.2.1 HKC.out.2.2.1 A0f)
    have HF:=q9 F2
    have HI7:=q9 hi7
    clear hW hi7 D2 A2 F2 hW0 X Ha14
    go_wp2_with fail
    refine HS2.out.mono ?_;rintro e w15 ⟨rfl,D3,A3,F3⟩
    have HF3:=q9 (HF.out.trans F3)
    have HD3:=q9 (qc D3 A3)
    clear HF F3 D3 A3 HS2
    generalize hgo:y.go s1=r at *
    obtain ⟨y2,s2⟩:=r
    clear hgo
    go_wp2_with fail
    refine (Ar.qc6 _ pa qa s2 s2.a.kind s2.a.at_ s2.a.old s2.a.new s2.a.ok HD3.out.2 rfl).mono ?_;rintro e w15b ⟨rfl,F4⟩
    have FL:=(Fr.refl [] w15b).alloc (.cells #[.int .i64 s2.a.kind,.int .i64 s2.a.at_,.int .i64 s2.a.old,.int .i64 s2.a.new,.bool s2.a.ok] 46)
    have oL:=Ob.new w15b 46 #[.int .i64 s2.a.kind,.int .i64 s2.a.at_,.int .i64 s2.a.old,.int .i64 s2.a.new,.bool s2.a.ok]
    have l0:=Ob.cell (i:=0) oL rfl
    have l3:=Ob.cell (i:=3) oL rfl
    have l4:=Ob.cell (i:=4) oL rfl
    have HD:=q9 (qc ((HD3.out.1.up F4).up FL) (qc ((HD3.out.2.kept F4 A0h A0h).kept FL A0h A0h) ((HF3.out.then F4).then FL)))
    clear HD3 HF3 F4 FL oL
    rcases HST.out with ⟨e8,hp,hf7,hpo⟩ | ⟨e8,v,hv,hF⟩ | ⟨e8,hpo,hW3⟩ | ⟨e8,hp,hpo,hW3⟩
    ·have g3:decide (y2.ln=8)=true:=by simpa using e8
     subst hp
     have vn_u:=ver_no (y:=y2) A0f
     have HV:=q9 (kver_any (by rw [hf7];decide) HD.out.1)
     rw [vn_u.1,vn_u.2] at HV
     clear vn_u hf7 HST e8
     have g0:decide ((-1:Int)<0)=true:=by decide
     rcases posts_cases hpo with q1 | ⟨q1,q2⟩ | ⟨q1,q2,q3⟩
     ·clear hpo
      go_wp2_with fail
      refine HV.out.mono ?_;rintro e w16 ⟨rfl,F16⟩
      go_wp2
      go_ret
      exact ⟨rfl,HG.out.own (HD.out.2.2.then F16) A0j⟩
     ·rw [q2] at l0 l3 l4 HD HV
      clear hpo
      go_wp2_with fail
      refine HV.out.mono ?_;rintro e w16 ⟨rfl,F16⟩
      go_wp2
      go_ret
      exact ⟨rfl,HG.out.own (HD.out.2.2.then F16) A0j⟩
     ·rw [q2] at l0 l3 l4 HD HV
      clear hpo
      go_wp2_with fail
      refine HV.out.mono ?_;rintro e w16 ⟨rfl,F16⟩
      go_wp2
      go_ret
      exact ⟨rfl,HG.out.own (HD.out.2.2.then F16) A0j⟩
    ·have g3:decide (y2.ln=8)=true:=by simpa using e8
     have vo:=ver_of (y:=y2) (v:=v) hF.f7 (by have:=hF.p0;have:=hF.v0;omega)
     have HV:=q9 (kver_any (by have:=hF.f7;omega) HD.out.1)
     rw [vo.1,vo.2] at HV
     have HFF:=q9 hF
     have g0:decide (p<0)=false:=by have:=hF.p0;simp;omega
     have g00:decide (0≤p)=true:=by have:=hF.p0;simp;omega
     have g01:decide (p≤v)=true:=by have:=hF.v0;simp;omega
     have HVV:=q9 hv
     clear vo HST e8 hF hv
     go_wp2_with fail
     refine HV.out.mono ?_;rintro e w16 ⟨rfl,F16⟩
     have HD6:=q9 (qc (HD.out.1.up F16) (qc (HD.out.2.1.kept F16 A0h A0h) (HD.out.2.2.then F16)))
     clear F16 HV l0 l3 l4
     go_wp2_with fail
     refine (vk _ pa qa _ _ HD6.out.2.1).mono ?_;rintro e _ ⟨rfl,rfl⟩
     have g02:decide (v≤qw s2.l 1)=true:=by have:=HFF.out.v1;simp;omega
     have o16:=HRR.out.2.1.kept HD6.out.2.2 (by simp;exact HN.out.2.2.1)
     obtain ⟨c0,c1,c2,c3⟩:=Pl.yn o16
     have hk:=HT.out.2.1
     go_wp2_with fail
     refine (Pick15.q98 c HC0.out k hk pr qr s _ (HRR.out.1.kept HD6.out.2.2 (by simp;exact ⟨HN.out.2.2.2.1.1,HN.out.2.2.2.1.2.1,HN.out.2.2.2.1.2.2.1⟩) (by simp;exact ⟨HN.out.2.2.2.1.2.2.2.1,HN.out.2.2.2.1.2.2.2.2.1,HN.out.2.2.2.1.2.2.2.2.2⟩)) HAI.out.2).mono ?_;rintro e w18 ⟨rfl,-,F18⟩
     rw [HRR.out.2.2]
     have HP:=q9 (kplc_any (HD6.out.1.up F18))
     rw [HFF.out.f1] at HP
     have HA18:=q9 (qc (HD6.out.2.1.kept F18 A0h A0h) (HD6.out.2.2.then F18))
     clear F18 c0 c1 c2 c3 o16 hk
     go_wp2_with fail
     refine HP.out.mono ?_;rintro e w19 ⟨rfl,F19⟩
     have HA19:=q9 (qc (HA18.out.1.kept F19 A0h A0h) (HA18.out.2.then F19))
     clear F19 HP
     go_wp2_with fail
     refine (vh _ _ _).mono ?_;rintro e _ ⟨rfl,rfl⟩
     rw [show Qp kc y2.f1=kc+7+3 * y2.f1 from w64 (by have:=HFF.out.ch;have:=HKC.out.1.1;omega) (by have:=HFF.out.ch;have h1:=HKC.out.1.2;have:=HKC.out.2.1;have:=HKC.out.2.2.1;omega)]
     go_wp2_with fail
     refine (vk _ pa qa _ _ HA19.out.1).mono ?_;rintro e _ ⟨rfl,rfl⟩
     rw [HFF.out.st]
     go_wp2_with fail
     refine (Mx.Vg _ _).mono ?_;rintro e _ ⟨rfl,rfl⟩
     rw [show Vf (v+3)=v by unfold Vf;rw [qd A0q,w64 A0q (by have:=HVV.out;omega)];omega]
     have g03:(v == v)=true:=by simp
     go_wp2
     go_ret
     exact ⟨rfl,HG.out.own HA19.out.2 A0j⟩
    ·have g3:decide (y2.ln=8)=false:=by simpa using e8
     clear HST e8
     rcases (show decide (p<0)=false∨(decide (p<0)=true∧posts s2.a=false) by
      by_cases h:p<0
      ·exact .inr ⟨by simpa using h,hpo h⟩
      ·exact .inl (by simpa using h)) with g0 | ⟨g0,hz⟩
     case' inr=>rcases posts_cases hz with q1 | ⟨q1,q2⟩ | ⟨q1,q2,q3⟩
     all_goals (try rw [q2] at l0 l3 l4 HD)
     all_goals
      clear hpo
      have HWT:=q9 hW3
      clear hW3
      have hi7':=HI7.out
      by_cases hiz:i<zs.length
      case neg =>
       have q4:decide ((i:Int)<(zs.length:Int))=false:=by simp;omega
       go_wp2_with fail
       go_roundw
       case rel=>exact ⟨i+1,y2,s2,_,rfl,by simp,HWT.out.le_ A0f,HD.out.1,HD.out.2.1,HD.out.2.2⟩
       case measure=>simp [intOf];omega
      have q4:decide ((i:Int)<(zs.length:Int))=true:=by simp;omega
      go_wp2_with fail
      obtain h0 | ⟨b0,o0,rfl,hb0,hc0⟩:=HIN.out.2
      ·omega
      have x1:=((HG.out.own HD.out.2.2 A0j).cell (hc0 i hiz) A0h)
      have hz9:=u8_getC HIN.out.1 hiz
      generalize hsk:zs.getD i 0=sk at *
      have hz4:0≤sk % 4∧sk % 4≤3:=by omega
      have e4:wrap64 (sk % 4)=sk % 4:=w64 A0f A0f
      have hc0':=HWT.out.c0
      have hc1':=HWT.out.c1
      have e5:wrap64 (qw s2.l 1+sk % 4)=qw s2.l 1+sk % 4:=w64 A0f A0f
      clear hc0 hb0 hsk
      generalize World.alloc w15b _=wa at *
      refine qp A0g ?_
      refine za [] wa #[true,true,true,true,true,true,true,true,true,true,false] 10 1 rfl ?_
      refine envT_pass [true,true,true,true,true,true,true,true,true,true,false] 0 (n:=126) (listed':=#[true,true,true,true,true,true,true,true,true,true,false]) rfl A0g A0g A0g A0g A0g rfl A0g (fun _ _ d _ _ h=>by cases d <;> exact h) ((Fr.refl _ wa).drew) ?_
      apply qg
      refine ⟨fun wf Ff=>?_,?_⟩
      ·have Af_u:=HD.out.2.1.kept Ff A0h A0h
       have x2:=qb (Ff.cell x1 A0h)
       simp only [sel]
       repeat (go_big_quiet_step ((go_at_call 23;exact Calls.in_same (vk _ pa qa _ 1 (Af_u.kept (In.fr _) A0h A0h)))))
       exact wpQuiet_nil rfl
      refine qy (k:=10) rfl A0g (fun w16 F16=>?_)
      have F16':=(Fr.refl [] wa).drew.trans F16
      go_wp2_with fail
      refine (jw _ pa qa _ _ _ (HD.out.2.1.kept F16' A0h A0h)).mono ?_;rintro e w17 ⟨rfl,A17,F17⟩
      have D17:=(HD.out.1.up F16').kept F17 A0p
      have F18:=(HD.out.2.2.then F16').trans (F17.mono A0h)
      go_wp2_with fail
      go_roundw
      case rel=>exact ⟨i+1,y2,_,_,rfl,by simp,(HWT.out.tick (d:=sk % 4) HKC.out.1.1 HKC.out.2.2.2 A0f).le_ A0f,D17,A17,F18⟩
      case measure=>simp [intOf];omega
    ·have g3:decide (y2.ln=8)=false:=by simpa using e8
     clear HST e8
     subst hp
     have g0:decide ((-1:Int)<0)=true:=by decide
     obtain ⟨q1,q2,q3⟩:=posts_true hpo
     rw [q2] at l0 l3 l4 HD
     clear hpo
     go_wp2_with fail
     refine (vk _ pa qa _ _ HD.out.2.1).mono ?_;rintro e _ ⟨rfl,rfl⟩
     have HWT:=q9 hW3
     clear hW3
     have hi7':=HI7.out
     by_cases hiz:i<zs.length
     case neg =>
      have q4:decide ((i:Int)<(zs.length:Int))=false:=by simp;omega
      go_wp2_with fail
      go_roundw
      case rel=>exact ⟨i+1,y2,s2,_,rfl,by simp,HWT.out.le_ A0f,HD.out.1,HD.out.2.1,HD.out.2.2⟩
      case measure=>simp [intOf];omega
     have q4:decide ((i:Int)<(zs.length:Int))=true:=by simp;omega
     go_wp2_with fail
     obtain h0 | ⟨b0,o0,rfl,hb0,hc0⟩:=HIN.out.2
     ·omega
     have x1:=((HG.out.own HD.out.2.2 A0j).cell (hc0 i hiz) A0h)
     have hz9:=u8_getC HIN.out.1 hiz
     generalize hsk:zs.getD i 0=sk at *
     have hz4:0≤sk % 4∧sk % 4≤3:=by omega
     have e4:wrap64 (sk % 4)=sk % 4:=w64 A0f A0f
     have hc0':=HWT.out.c0
     have hc1':=HWT.out.c1
     have e5:wrap64 (qw s2.l 1+sk % 4)=qw s2.l 1+sk % 4:=w64 A0f A0f
     clear hc0 hb0 hsk
     generalize World.alloc w15b _=wa at *
     refine qp A0g ?_
     refine za [] wa #[true,true,true,true,true,true,true,true,true,true,false] 10 1 rfl ?_
     refine envT_pass [true,true,true,true,true,true,true,true,true,true,false] 0 (n:=126) (listed':=#[true,true,true,true,true,true,true,true,true,true,false]) rfl A0g A0g A0g A0g A0g rfl A0g (fun _ _ d _ _ h=>by cases d <;> exact h) ((Fr.refl _ wa).drew) ?_
     apply qg
     refine ⟨fun wf Ff=>?_,?_⟩
     ·have Af_u:=HD.out.2.1.kept Ff A0h A0h
      have x2:=qb (Ff.cell x1 A0h)
      simp only [sel]
      repeat (go_big_quiet_step ((go_at_call 23;exact Calls.in_same (vk _ pa qa _ 1 (Af_u.kept (In.fr _) A0h A0h)))))
      exact wpQuiet_nil rfl
     refine qy (k:=10) rfl A0g (fun w16 F16=>?_)
     have F16':=(Fr.refl [] wa).drew.trans F16
     go_wp2_with fail
     refine (jw _ pa qa _ _ _ (HD.out.2.1.kept F16' A0h A0h)).mono ?_;rintro e w17 ⟨rfl,A17,F17⟩
     have D17:=(HD.out.1.up F16').kept F17 A0p
     have F18:=(HD.out.2.2.then F16').trans (F17.mono A0h)
     go_wp2_with fail
     go_roundw
     case rel=>exact ⟨i+1,y2,_,_,rfl,by simp,(HWT.out.tick (d:=sk % 4) HKC.out.1.1 HKC.out.2.2.2 A0f).le_ A0f,D17,A17,F18⟩
     case measure=>simp [intOf];omega
end Go.Proofs.YtaccfepnhmgagaaGreatDoor.Cc_u
