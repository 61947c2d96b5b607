/- Texts that this proof leans on, one behind the other: Start, Laws6d, View6Open. -/
import Derived.Test.YtilipdnchflkhaaGreatDoorVaf
import Derived.Test.YtilipdnchflkhaaGreatDoorVah
import Derived.Test.YtilipdnchflkhaaGreatDoorVap
import Derived.Test.YtilipdnchflkhaaGreatDoorVaq
import Derived.Test.YtilipdnchflkhaaGreatDoorVba
import Derived.Test.YtilipdnchflkhaaGreatDoorVbc
import Derived.Test.YtilipdnchflkhaaGreatDoorVbk
import Derived.Test.YtilipdnchflkhaaGreatDoorVbn
set_option linter.unusedVariables false
set_option linter.unusedSimpArgs false
set_option maxRecDepth 100000
set_option maxHeartbeats 12800000
namespace Go.Proofs.YtilipdnchflkhaaGreatDoor.Wd
open Go.RowKit Go.Proofs.YtilipdnchflkhaaGreatDoor.Ar Go.Proofs.YtilipdnchflkhaaGreatDoor.Og Go.Proofs.YtilipdnchflkhaaGreatDoor.Ref Go.Proofs.YtilipdnchflkhaaGreatDoor.Mx Go.Proofs.YtilipdnchflkhaaGreatDoor.Op10
theorem blk_lt {w:World} {α:Type} {f:α→List Value} {v:Value} {xs:List α} (h:Sq f w v xs) (hne:xs≠[]):∀ k,k∈v.ownBlock.toList→k<w.heap.size:=sq_own_lt h hne
theorem scr_in {w:World} {c:Cf} {rs:List (List O)} {ss:List Sv} {ps ds:List Int} {vo vp vd:Value} (h1:Rws w vo rs ss) (h2:Law.Ints w .i64 vp ps) (h3:Sq fI w vp ps) (h4:Law.Ints w .i64 vd ds) (h5:Sq fI w vd ds) :
  ScrIn w (.agg #[.int .i64 c.t,.int .i64 c.c,.int .i64 c.wd,.int .i64 c.v,vo,vp,vd]) c rs ps ds vo vp vd ss (List.range w.heap.size):=by
 refine ⟨rfl,⟨vo,vp,vd,rfl,h1.r,h2,h4⟩,⟨h1.sq,h1.len,fun i s r e1 e2=>⟨h1.row i s r e1 e2,fun hne k hk=>List.mem_range.2 (blk_lt (h1.row i s r e1 e2) hne k hk)⟩,fun hne k hk=>List.mem_range.2 (blk_lt h1.sq (fun e=>hne (by have:=h1.len;rw [e] at this;exact List.eq_nil_of_length_eq_zero this.symm)) k hk)⟩,h5,fun hne k hk=>List.mem_range.2 (blk_lt h5 hne k hk),h3,fun k hk=>List.mem_range.1 hk⟩
end Go.Proofs.YtilipdnchflkhaaGreatDoor.Wd
namespace Go.Proofs.YtilipdnchflkhaaGreatDoor.Vw
open Go.RowKit Go.Proofs.YtilipdnchflkhaaGreatDoor.Ar Go.Proofs.YtilipdnchflkhaaGreatDoor.Og Go.Proofs.YtilipdnchflkhaaGreatDoor.Ref Go.Proofs.YtilipdnchflkhaaGreatDoor.Mx Go.Proofs.YtilipdnchflkhaaGreatDoor.Wd
theorem tells6 (c:Cf) (rs:List (List O)) (ps ds:List Int) (ov pv dv:Value) (ss:List Sv) (R:List Nat) (a:Int) (hx hy:Hd) (xs ys:List Ce) (vx vy:Value) (w:World) (hE:Er.ErrType w)
  (hS:ScrIn w (.agg #[.int .i64 c.t,.int .i64 c.c,.int .i64 c.wd,.int .i64 c.v,ov,pv,dv]) c rs ps ds ov pv dv ss R) (hX:Sq fC w vx xs) (hY:Sq fC w vy ys) :
  Calls Tryz.prog 7 #[.agg #[.int .i64 c.t,.int .i64 c.c,.int .i64 c.wd,.int .i64 c.v,ov,pv,dv],.int .i64 a,chV hx vx,chV hy vy] w fun e w'=>e = .returned (.bool true)∧Fr [] w w':=by
 obtain ⟨ax,cx,rfl,-,hmx,-⟩:=id hX
 obtain ⟨ay,cy,rfl,-,hmy,-⟩:=id hY
 have HS:=Lib.hid hS
 have HE:=Lib.hid hE
 have HXY:=Lib.hid (And.intro hX hY)
 have F0:=(((Fr.refl [] w).alloc (.cells #[.int .i64 c.t,.int .i64 c.c,.int .i64 c.wd,.int .i64 c.v,ov,pv,dv] 27)).alloc (.cells (chC hx (.slice ax xs.length cx)) 70)).alloc (.cells (chC hy (.slice ay ys.length cy)) 70)
 have o4:Ob _ _ 27 #[.int .i64 c.t,.int .i64 c.c,.int .i64 c.wd,.int .i64 c.v,ov,pv,dv]:=((Ob.new w 27 #[.int .i64 c.t,.int .i64 c.c,.int .i64 c.wd,.int .i64 c.v,ov,pv,dv]).alloc (.cells (chC hx (.slice ax xs.length cx)) 70)).alloc (.cells (chC hy (.slice ay ys.length cy)) 70)
 have o6:=(Ob.newAt (sizeA w (.cells #[.int .i64 c.t,.int .i64 c.c,.int .i64 c.wd,.int .i64 c.v,ov,pv,dv] 27)) 70 (chC hx (.slice ax xs.length cx))).alloc (.cells (chC hy (.slice ay ys.length cy)) 70)
 have o7:=Ob.newAt (sizeA (w.alloc (.cells #[.int .i64 c.t,.int .i64 c.c,.int .i64 c.wd,.int .i64 c.v,ov,pv,dv] 27)) (.cells (chC hx (.slice ax xs.length cx)) 70)) 70 (chC hy (.slice ay ys.length cy))
 rw [sizeA] at o7
 clear hS hE hX hY
 unfold chV
 unfold chC at F0 o4 o6 o7
 go_enter Tryz.func7,Tryz.ntmps7
 go_wp2_with fail
 generalize World.alloc (World.alloc (World.alloc w _) _) _=w0 at *
 generalize hb4:w.heap.size=b4 at *
 refine (known_true w0).mono ?_;rintro e w1 ⟨rfl,F1⟩
 have G:=F0.trans F1
 replace o4:=o4.up F1
 replace o6:=o6.up F1
 replace o7:=o7.up F1
 clear F0 F1
 have hb:=o7.lt
 have d0:=Ob.cell (i:=0) o4 rfl
 have d1:=Ob.cell (i:=1) o4 rfl
 have d2:=Ob.cell (i:=2) o4 rfl
 have d3:=Ob.cell (i:=3) o4 rfl
 have d4:=Ob.cell (i:=4) o4 rfl
 have d5:=Ob.cell (i:=5) o4 rfl
 have d6:=Ob.cell (i:=6) o4 rfl
 have e8:=Ob.cell (i:=8) o6 rfl
 have f8:=Ob.cell (i:=8) o7 rfl
 have HX:=Lib.hid (And.intro hb4 hb)
 clear hb4 hb
 go_wp2_with fail
 refine (wide_any c.t c.c c.wd c.v rs ps ds _ 200 _ (HS.out.scr.up G)).mono ?_;rintro e w2 ⟨rfl,F2⟩
 replace G:=G.trans F2
 replace o4:=o4.up F2
 replace o6:=o6.up F2
 replace o7:=o7.up F2
 clear d0 d1 d2 d3 d4 d5 d6 e8 f8
 have e8:=Ob.cell (i:=8) o6 rfl
 have f8:=Ob.cell (i:=8) o7 rfl
 cases hw:wideB c.t c.c c.wd c.v rs ps ds 200 with
 | true =>
  clear hw
  go_wp2_with fail
  go_ret
  exact ⟨rfl,G⟩
 | false =>
  have HW:=Lib.hid (wideB_false hw)
  clear hw
  by_cases hxl:20<xs.length
  ·have q:decide ((xs.length:Int)>20)=true:=by simp;omega
   clear hxl
   go_wp2_with fail
   go_ret
   exact ⟨rfl,G⟩
  ·have q:decide ((xs.length:Int)>20)=false:=by simp;omega
   by_cases hyl:20<ys.length
   ·have q2:decide ((ys.length:Int)>20)=true:=by simp;omega
    have HL:=Lib.hid hxl
    clear hxl hyl
    go_wp2_with fail
    go_ret
    exact ⟨rfl,G⟩
   ·have q2:decide ((ys.length:Int)>20)=false:=by simp;omega
    have HL:=Lib.hid (And.intro hxl hyl)
    clear hxl hyl
    go_wp2_with fail
    clear e8 f8
    refine wp_region_env (by kernel_rfl) [] (fun w3 F3=>?_)
    refine ep [true,true,true,false,false,false,false] 4 (F3.mono) ?_
    apply Exists.intro
    refine ⟨fun wf Ff=>?_,?_⟩
    ·have of4:=o4.up Ff
     have k0:=In.cell (Ob.cell (i:=0) of4 rfl)
     have k1:=In.cell (Ob.cell (i:=1) of4 rfl)
     have k2:=In.cell (Ob.cell (i:=2) of4 rfl)
     have k3:=In.cell (Ob.cell (i:=3) of4 rfl)
     have k4:=In.cell (Ob.cell (i:=4) of4 rfl)
     have k5:=In.cell (Ob.cell (i:=5) of4 rfl)
     have k6:=In.cell (Ob.cell (i:=6) of4 rfl)
     clear of4
     simp only [sel]
     repeat (go_big_quiet_step (fail))
     exact wpQuiet_nil rfl
    replace G:=G.trans F3
    replace o4:=o4.up F3
    replace o6:=o6.up F3
    replace o7:=o7.up F3
    refine env_ready [3,4] (by kernel_rfl) (by simp) (fun w10 F10 m hm o ho=>?_)
    have E:=F3.trans F10
    replace G:=G.trans F10
    replace o4:=o4.up F10
    replace o6:=o6.up F10
    replace o7:=o7.up F10
    clear F10 F3
    simp only [List.mem_cons,List.not_mem_nil,or_false] at hm
    rcases hm with rfl | rfl
    ·obtain rfl:=Option.some.inj ho
     clear ho
     go_wp2_with fail
     refine (left_any c rs ps ds ov pv dv ss R _ _ (HS.out.up G) HW.out.2.2.2.2.2 (by have:=HW.out.1;omega)).mono ?_;rintro e w4 ⟨pr,qr,rfl,hpr,hqr,Hr,F4⟩
     have hlen:=runP_len (cf_ok HW.out.2.2.2.2.2).1 rs ds ps
     generalize (runP c rs ds ps).a=s at *
     have g4:=o7.lt
     replace G:=G.trans F4
     replace E:=E.trans F4
     replace o4:=o4.up F4
     replace o6:=o6.up F4
     replace o7:=o7.up F4
     have hr:=Hr.lt
     clear F4
     go_wp2_with fail
     refine nx_normal ⟨E,?_⟩
     refine eo 4 (fun w5 F5=>?_)
     replace G:=G.trans F5
     replace E:=E.trans F5
     replace o4:=o4.up F5
     replace o6:=o6.up F5
     replace o7:=o7.up F5
     replace Hr:=Hr.kept F5
     replace hr:=Hr.lt
     have g5:=E.size
     have g6:=o7.lt
     clear F5
     go_wp2_with fail
     have F6:=(Fr.refl [] w5).alloc (.cells #[.int .i64 0,.int .i64 0,.int .i64 0,.int .i64 0] 23)
     have oc:=Ob.new w5 23 #[.int .i64 0,.int .i64 0,.int .i64 0,.int .i64 0]
     generalize World.alloc w5 (.cells #[.int .i64 0,.int .i64 0,.int .i64 0,.int .i64 0] 23)=w6 at *
     replace G:=G.trans F6
     replace E:=E.trans F6
     replace o4:=o4.up F6
     replace o6:=o6.up F6
     replace o7:=o7.up F6
     replace Hr:=Hr.kept F6
     have HB:=Lib.hid (And.intro hpr (And.intro hqr hr))
     clear hpr hqr
     clear F6
     generalize w5.heap.size=bc at *
     refine nx_normal ⟨E,?_⟩
     have HN:=Lib.hid (show bc≠b4∧bc≠b4+1∧bc≠b4+1+1∧pr≠bc∧qr≠bc∧b4≤bc∧w2.heap.size≤bc from by have:=HX.out.2;have:=HB.out;omega)
     refine eo 5 (fun w7 F7=>?_)
     replace G:=G.trans F7
     replace E:=E.trans F7
     replace o4:=o4.up F7
     replace o6:=o6.up F7
     replace o7:=o7.up F7
     replace Hr:=Hr.kept F7
     replace oc:=oc.up F7
     clear F7
     obtain ⟨z0,z1,z2,z3⟩:=Pl.cells4 oc
     have zz:=oc.frozen
     go_wp2_with fail
     have o8:=Ob.set (Ob.set (Ob.set (Ob.set oc (i:=0) (.int .i64 c.t)) (i:=1) (.int .i64 c.c)) (i:=2) (.int .i64 c.wd)) (i:=3) (.int .i64 c.v)
     have F8:Fr [bc] w7 ((((w7.setCell ⟨bc,0,none⟩ (.int .i64 c.t)).setCell ⟨bc,1,none⟩ (.int .i64 c.c)).setCell ⟨bc,2,none⟩ (.int .i64 c.wd)).setCell ⟨bc,3,none⟩ (.int .i64 c.v)):=(((Fr.setCell (S:=[bc]) (b:=bc) (i:=0) _ (by simp)).setCell' (b:=bc) (i:=1) _ (by simp)).setCell' (b:=bc) (i:=2) _ (by simp)).setCell' (b:=bc) (i:=3) _ (by simp)
     generalize ((((w7.setCell ⟨bc,0,none⟩ (.int .i64 c.t)).setCell ⟨bc,1,none⟩ (.int .i64 c.c)).setCell ⟨bc,2,none⟩ (.int .i64 c.wd)).setCell ⟨bc,3,none⟩ (.int .i64 c.v))=w8 at *
     replace o8:Ob w8 bc 23 #[.int .i64 c.t,.int .i64 c.c,.int .i64 c.wd,.int .i64 c.v]:=o8
     clear z0 z1 z2 z3 zz oc
     have nb:=HN.out
     have hcb:w.heap.size≤bc:=by have:=HX.out.1;omega
     replace G:=G.own F8 (by simp;omega)
     replace E:=E.own F8 (by simp;omega)
     replace o4:=o4.kept F8 (by simp;omega)
     replace o6:=o6.kept F8 (by simp;omega)
     replace o7:=o7.kept F8 (by simp;omega)
     replace Hr:=Hr.kept F8 (by simp;omega) (by simp;omega)
     clear F8
     refine nx_normal ⟨E,?_⟩
     refine eo 6 (fun w9 F9=>?_)
     replace G:=G.trans F9
     replace E:=E.trans F9
     replace o4:=o4.up F9
     replace o6:=o6.up F9
     replace o7:=o7.up F9
     replace Hr:=Hr.kept F9
     replace o8:=o8.up F9
     clear F9
     go_wp2_with fail
     refine nx_normal ⟨E,?_⟩
     refine env_done (by kernel_rfl) (fun w11 F11=>?_)
     replace G:=G.trans F11
     replace o4:=o4.up F11
     replace o6:=o6.up F11
     replace o7:=o7.up F11
     replace Hr:=Hr.kept F11
     replace o8:=o8.up F11
     clear F11 E
     have HK:=Lib.hid (cf_ok HW.out.2.2.2.2.2).1
     have hn:c.c=((c.c.toNat:Nat):Int):=by have:=HK.out.c2;have:=HK.out.t1;omega
     generalize c.c.toNat=n at hn
     rw [hn] at o8
     have HQ:=Lib.hid (show 1≤n∧n≤16∧n≤s.l.length∧s.l.length≤20000 from by have:=HK.out.c2;have:=HK.out.t1;have:=HK.out.c16;have:=HK.out.top;have:=HK.out.w2;omega)
     clear hn hlen
     have g8:=And.intro o8.lt o6.lt
     go_wp2_with fail
     refine (arena_any pr qr s _ Hr).mono ?_;rintro e w13 ⟨pa,qa,rfl,hpa,hqa,Ha,F13⟩
     replace G:=G.trans F13
     replace o6:=o6.up F13
     replace o7:=o7.up F13
     replace o8:=o8.up F13
     have HR2:=Lib.hid (And.intro (show pa≠bc∧qa≠bc∧qa≠b4+1∧w.heap.size≤pa∧w.heap.size≤qa∧w.heap.size≤pr∧w.heap.size≤qr from by have:=HX.out;have:=HB.out;omega) (Hr.kept F13))
     clear F13 Hr hpa hqa g8 o4
     obtain ⟨y0,y1,y2,y3⟩:=Pl.cells4 o8
     go_wp2_with fail
     refine (chunk_u c.t c.wd c.v a n pa qa (freshS s.l) _ HQ.out.1 HQ.out.2.1 HQ.out.2.2.1 HQ.out.2.2.2 Ha).mono ?_;rintro e w14 ⟨u,rfl,hu,F14⟩
     replace G:=G.trans F14
     replace o6:=o6.up F14
     replace o7:=o7.up F14
     replace o8:=o8.up F14
     have HA:=Lib.hid (Ha.kept F14)
     have HR3:=Lib.hid (And.intro HR2.out.1 (HR2.out.2.kept F14 (by simp) (by simp)))
     clear HR2
     have hcl:=csC_len s.l n a HQ.out.2.1
     clear F14 Ha y0 y1 y2 y3
     obtain ⟨au,cu,rfl,-,-,-⟩:=id hu
     rw [show (freshS s.l).l=s.l from rfl] at *
     generalize hg1:hdC s.l n a=hc at *
     generalize hg2:csC s.l n a=cs at *
     generalize hg3:erC s.l n a=er at *
     have HG:=Lib.hid (And.intro hg1 (And.intro hg2 hg3))
     clear hg1 hg2 hg3
     unfold chV
     have g14:=And.intro o8.lt (And.intro o6.lt o7.lt)
     have F15:=(Fr.refl [] w14).alloc (.cells (chC hc (.slice au cs.length cu)) 70)
     have p12:=Ob.new w14 70 (chC hc (.slice au cs.length cu))
     replace o6:=o6.up F15
     replace o7:=o7.up F15
     replace o8:=o8.up F15
     have HU:=Lib.hid (hu.up F15)
     have HA2:=Lib.hid (HA.out.kept F15)
     have HR4:=Lib.hid (And.intro HR3.out.1 (HR3.out.2.kept F15 (by simp) (by simp)))
     replace G:=G.trans F15
     have hb12:w14.heap.size≠bc∧w14.heap.size≠b4+1∧w14.heap.size≠b4+1+1:=by omega
     clear HR3 HA hu
     unfold chC at F15 p12 o6 o7 o8 HU HA2 HR4 G
     obtain ⟨y0,y1,y2,y3⟩:=Pl.cells4 o8
     go_wp2_with fail
     generalize World.alloc w14 _=w15 at *
     generalize w14.heap.size=b12 at *
     clear F15 g14 y0 y1 y2 y3
     refine (rchunk_u c.t c.wd c.v a n pr qr s _ HQ.out.1 HQ.out.2.1 HQ.out.2.2.1 HQ.out.2.2.2 HR4.out.2).mono ?_;rintro e w16 ⟨u,rfl,hu,F16⟩
     rw [HG.out.1,HG.out.2.1,HG.out.2.2] at *
     obtain ⟨av,cv,rfl,-,-,-⟩:=id hu
     unfold chV
     have g16:=And.intro (o8.up F16).lt (And.intro (o6.up F16).lt (And.intro (o7.up F16).lt (p12.up F16).lt))
     have F17:=(Fr.refl [] w16).alloc (.cells (chC hc (.slice av cs.length cv)) 70)
     have p14:=Ob.new w16 70 (chC hc (.slice av cs.length cv))
     replace o6:=(o6.up F16).up F17
     replace o7:=(o7.up F16).up F17
     replace o8:=(o8.up F16).up F17
     replace p12:=(p12.up F16).up F17
     have HU2:=Lib.hid (And.intro ((HU.out.up F16).up F17) (hu.up F17))
     have HA3:=Lib.hid ((HA2.out.kept F16).kept F17 (by simp) (by simp))
     have HR5:=Lib.hid (And.intro HR4.out.1 ((HR4.out.2.kept F16 (by simp) (by simp)).kept F17 (by simp) (by simp)))
     replace G:=(G.trans F16).trans F17
     have hb14:w16.heap.size≠bc∧w16.heap.size≠b4+1∧w16.heap.size≠b4+1+1∧w16.heap.size≠b12:=by omega
     clear HR4 HA2 HU hu F16
     unfold chC at F17 p14 o6 o7 o8 p12 HU2 HA3 HR5 G
     go_wp2_with fail
     generalize World.alloc w16 _=w17 at *
     generalize w16.heap.size=b14 at *
     clear F17 g16
     have hxl:=HL.out
     have hcl2:cs.length≤1000:=by omega
     have H1:∀ W,Fr [] w17 W→Calls Tryz.prog 42 #[.agg #[.int .i64 hc.at_,.int .i64 hc.mn,.int .i64 hc.ct,.int .i64 hc.nx,.int .i64 hc.ld,.int .i64 hc.mt,.int .i64 hc.rp,.int .i64 hc.st,.slice au cs.length cu],.agg #[.int .i64 hc.at_,.int .i64 hc.mn,.int .i64 hc.ct,.int .i64 hc.nx,.int .i64 hc.ld,.int .i64 hc.mt,.int .i64 hc.rp,.int .i64 hc.st,.slice av cs.length cv]] W fun e w'=>e = .returned (.bool true)∧Fr [] W w':=fun W F=>by
      have:=rsame_any hc hc cs cs _ _ W hcl2 hcl2 (HU2.out.1.up F) (HU2.out.2.up F)
      rw [decide_eq_true (⟨rfl,rfl⟩:hc=hc∧cs=cs)] at this;exact this
     have HE2:∀ W,Fr [] w17 W→Er.ErrType W:=fun W F=>(HE.out.kept G (by simp)).kept F (by simp)
     generalize hbxy:decide (hx=hy∧xs=ys)=bxy
     have hXY:∀ W,Fr [] w17 W→Sq fC W (.slice ax xs.length cx) xs∧Sq fC W (.slice ay ys.length cy) ys:=fun W F=>⟨HXY.out.1.up (G.trans F),HXY.out.2.up (G.trans F)⟩
     have H2:∀ W,Fr [] w17 W→Calls Tryz.prog 44 #[.agg #[.int .i64 hx.at_,.int .i64 hx.mn,.int .i64 hx.ct,.int .i64 hx.nx,.int .i64 hx.ld,.int .i64 hx.mt,.int .i64 hx.rp,.int .i64 hx.st,.slice ax xs.length cx],.agg #[.int .i64 hy.at_,.int .i64 hy.mn,.int .i64 hy.ct,.int .i64 hy.nx,.int .i64 hy.ld,.int .i64 hy.mt,.int .i64 hy.rp,.int .i64 hy.st,.slice ay ys.length cy]] W fun e w'=>e = .returned (.bool bxy)∧Fr [] W w':=fun W F=>by
      rw [← hbxy];exact same_any hx hy xs ys _ _ W (by omega) (by omega) ⟨_,rfl,(hXY W F).1⟩ ⟨_,rfl,(hXY W F).2⟩
     have H3:∀ W,Fr [] w17 W→Calls Tryz.prog 42 #[.agg #[.int .i64 hx.at_,.int .i64 hx.mn,.int .i64 hx.ct,.int .i64 hx.nx,.int .i64 hx.ld,.int .i64 hx.mt,.int .i64 hx.rp,.int .i64 hx.st,.slice ax xs.length cx],.agg #[.int .i64 hy.at_,.int .i64 hy.mn,.int .i64 hy.ct,.int .i64 hy.nx,.int .i64 hy.ld,.int .i64 hy.mt,.int .i64 hy.rp,.int .i64 hy.st,.slice ay ys.length cy]] W fun e w'=>e = .returned (.bool bxy)∧Fr [] W w':=fun W F=>by
      rw [← hbxy];exact rsame_any hx hy xs ys _ _ W (by omega) (by omega) (hXY W F).1 (hXY W F).2
     have H4:∀ W,Fr [] w17 W→Calls Tryz.prog 44 #[.agg #[.int .i64 hx.at_,.int .i64 hx.mn,.int .i64 hx.ct,.int .i64 hx.nx,.int .i64 hx.ld,.int .i64 hx.mt,.int .i64 hx.rp,.int .i64 hx.st,.slice ax xs.length cx],.agg #[.int .i64 hx.at_,.int .i64 hx.mn,.int .i64 hx.ct,.int .i64 hx.nx,.int .i64 hx.ld,.int .i64 hx.mt,.int .i64 hx.rp,.int .i64 hx.st,.slice ax xs.length cx]] W fun e w'=>e = .returned (.bool true)∧Fr [] W w':=fun W F=>by
      have:=same_any hx hx xs xs _ _ W (by omega) (by omega) ⟨_,rfl,(hXY W F).1⟩ ⟨_,rfl,(hXY W F).1⟩
      rw [decide_eq_true (⟨rfl,rfl⟩:hx=hx∧xs=xs)] at this;exact this
     have HH:=Lib.hid (And.intro H1 (And.intro HE2 (And.intro H2 (And.intro H3 (And.intro H4 hXY)))))
     clear H1 HE2 H2 H3 H4 hXY hbxy
     have q3:(er != er)=false:=by simp
     have q4:(bxy != bxy)=false:=by simp
     refine wp_region_env (by kernel_rfl) [] (fun w18 F18=>?_)
     refine ep [true,true,true,true,true,true,true,true,true,true,false,false,false,false,false,false,false,false,false,false,false,false,false,false,false,false,false,false,false,false,false,false,false] 23 (F18.mono) ?_
     apply Exists.intro
     refine ⟨fun wf Ff=>?_,?_⟩
     ·obtain ⟨x0,x1,x2,x3,x4,x5,x6,x7,x8⟩:=ch_cells (h:=hc) (lv:=.slice au cs.length cu) (p12.up Ff)
      obtain ⟨y0,y1,y2,y3,y4,y5,y6,y7,y8⟩:=ch_cells (h:=hc) (lv:=.slice av cs.length cv) (p14.up Ff)
      have kx0:=In.cell x0
      have kx1:=In.cell x1
      have kx2:=In.cell x2
      have kx3:=In.cell x3
      have kx4:=In.cell x4
      have kx5:=In.cell x5
      have kx6:=In.cell x6
      have kx7:=In.cell x7
      have kx8:=In.cell x8
      have ky0:=In.cell y0
      have ky1:=In.cell y1
      have ky2:=In.cell y2
      have ky3:=In.cell y3
      have ky4:=In.cell y4
      have ky5:=In.cell y5
      have ky6:=In.cell y6
      have ky7:=In.cell y7
      have ky8:=In.cell y8
      clear x0 x1 x2 x3 x4 x5 x6 x7 x8 y0 y1 y2 y3 y4 y5 y6 y7 y8
      simp only [sel]
      repeat (go_big_quiet_step ((first | (go_at_call 42;exact Calls.in_ (HH.out.1 _ (Ff.trans (In.fr _)))) | (go_at_call 43;exact Calls.in_ (code_errv er _ (HH.out.2.1 _ (Ff.trans (In.fr _))))))))
      exact wpQuiet_nil rfl
     refine ep [false,false,false,false,false,false,false,false,false,false,true,true,true,true,true,true,true,true,true,false,false,false,false,false,false,false,false,false,false,false,false,false,false] 14 (F18.mono) ?_
     apply Exists.intro
     refine ⟨fun wf Ff=>?_,?_⟩
     ·obtain ⟨z0,z1,z2,z3,z4,z5,z6,z7,z8⟩:=ch_cells (h:=hx) (lv:=.slice ax xs.length cx) (o6.up Ff)
      obtain ⟨v0,v1,v2,v3,v4,v5,v6,v7,v8⟩:=ch_cells (h:=hy) (lv:=.slice ay ys.length cy) (o7.up Ff)
      have kz0:=In.cell z0
      have kz1:=In.cell z1
      have kz2:=In.cell z2
      have kz3:=In.cell z3
      have kz4:=In.cell z4
      have kz5:=In.cell z5
      have kz6:=In.cell z6
      have kz7:=In.cell z7
      have kz8:=In.cell z8
      have kv0:=In.cell v0
      have kv1:=In.cell v1
      have kv2:=In.cell v2
      have kv3:=In.cell v3
      have kv4:=In.cell v4
      have kv5:=In.cell v5
      have kv6:=In.cell v6
      have kv7:=In.cell v7
      have kv8:=In.cell v8
      clear z0 z1 z2 z3 z4 z5 z6 z7 z8 v0 v1 v2 v3 v4 v5 v6 v7 v8
      simp only [sel]
      repeat (go_big_quiet_step ((first | (go_at_call 44;exact Calls.in_ (HH.out.2.2.1 _ (Ff.trans (In.fr _)))) | (go_at_call 42;exact Calls.in_ (HH.out.2.2.2.1 _ (Ff.trans (In.fr _)))))))
      exact wpQuiet_nil rfl
     refine ep [false,false,false,false,false,false,false,false,false,false,false,false,false,false,false,false,false,false,false,true,true,true,true,true,true,true,true,false,true,false,false,false,false] 5 (F18.mono) ?_
     apply Exists.intro
     refine ⟨fun wf Ff=>?_,?_⟩
     ·obtain ⟨z0,z1,z2,z3,z4,z5,z6,z7,z8⟩:=ch_cells (h:=hx) (lv:=.slice ax xs.length cx) (o6.up Ff)
      have kz0:=In.cell z0
      have kz1:=In.cell z1
      have kz2:=In.cell z2
      have kz3:=In.cell z3
      have kz4:=In.cell z4
      have kz5:=In.cell z5
      have kz6:=In.cell z6
      have kz7:=In.cell z7
      have kz8:=In.cell z8
      clear z0 z1 z2 z3 z4 z5 z6 z7 z8
      simp only [sel]
      repeat (go_big_quiet_step ((go_at_call 44;exact Calls.in_ (HH.out.2.2.2.2.1 _ (Ff.trans (In.fr _))))))
      exact wpQuiet_nil rfl
     refine eo 27 (fun w19 F19=>?_)
     have E:=F18.trans F19
     clear F19 F18
     go_wp2_with fail
     refine (items_any hx xs _ _ (by omega) ⟨_,rfl,(HH.out.2.2.2.2.2 _ E).1⟩).mono ?_;rintro e w20 ⟨⟨u1,rfl,hr1⟩,FF⟩
     replace E:=E.trans FF
     clear FF
     go_wp2_with fail
     refine nx_normal ⟨E,?_⟩
     refine eo 29 (fun w21 F21=>?_)
     replace E:=E.trans F21
     replace hr1:=Sq.own hr1
     replace hr1:=hr1.up F21
     clear F21
     go_wp2_with fail
     refine (ritems_any hx xs _ _ (by omega) (HH.out.2.2.2.2.2 _ E).1).mono ?_;rintro e w25 ⟨⟨u2,rfl,hr2⟩,FF⟩
     replace hr1:=hr1.up FF
     replace hr2:=Sq.own hr2
     replace E:=E.trans FF
     clear FF
     go_wp2_with fail
     refine nx_normal ⟨E,?_⟩
     refine eo 30 (fun w22 F22=>?_)
     replace E:=E.trans F22
     replace hr1:=hr1.up F22
     replace hr2:=hr2.up F22
     have hil:=itemsC_length xs
     clear F22
     go_wp2_with fail
     refine (sameItems_any (itemsC xs) (itemsC xs) _ _ _ (by omega) (by omega) hr1 hr2).mono ?_;rintro e w23 ⟨rfl,FF⟩
     rw [decide_eq_true (rfl:itemsC xs=itemsC xs)]
     clear hr1 hr2 hil
     replace E:=E.trans FF
     clear FF
     go_wp2_with fail
     refine nx_normal ⟨E,?_⟩
     refine ep [false,false,false,false,false,false,false,false,false,false,false,false,false,false,false,false,false,false,false,false,false,false,false,false,false,false,false,false,false,false,false,true,true] 0 E ?_
     apply Exists.intro
     refine ⟨fun wf Ff=>?_,?_⟩
     ·simp only [sel]
      repeat (go_big_quiet_step (fail))
      exact wpQuiet_nil rfl
     refine env_done (by kernel_rfl) (fun w24 F24=>?_)
     replace E:=E.trans F24
     clear F24
     have G2:=G.trans E
     replace o6:=o6.up E
     replace o8:=o8.up E
     have hr:=HR5.out.2.kept E (by simp) (by simp)
     have ha:=HA3.out.kept E
     clear G HH q3 q4 p12 p14 o7 HU2
     go_wp2_with fail
     refine (fresh_any pr qr s _ hr).mono ?_;rintro e w25 ⟨p2,q2,rfl,hp2,hq2,Hz,F25⟩
     have gs:=G2.size
     replace G2:=G2.trans F25
     have o6':=o6.up F25
     have o8':=o8.up F25
     replace ha:=ha.kept F25
     have HZ:=Lib.hid (show q2≠bc∧q2≠b4+1∧qa≠bc∧qa≠b4+1∧pa≠q2∧qa≠p2∧qa≠q2∧p2≠q2∧w.heap.size≤qa∧w.heap.size≤q2 from by have h1:=o6.lt;have h2:=o8.lt;have h4:=HR5.out.1;have h6:=Hz.ne;have h7:=(HA3.out.kept E).lt;omega)
     clear F25 hr hp2 hq2 o6 o8 E gs
     go_wp2_with fail
     have gl:1<w.heap.size:=World.block_lt_of_cell? w _ HE.out
     have HGL:=Lib.hid gl
     have HOW:=Lib.hid (show ∀ k,w.heap.size≤k→xs≠[]→k∉(Value.slice ax xs.length cx).ownBlock.toList from fun k hk hne hm=>by have:=sq_own_lt HXY.out.1 hne k hm;omega)
     clear gl
     refine wp_region_env (by kernel_rfl) [qa,q2] (fun w26 F26=>?_)
     refine ep [true,true,true,false,false,true,true,true,false,false,false,false,false,false,false,false] 10 (F26.mono) ?_
     apply Exists.intro
     refine ⟨fun wf Ff=>?_,?_⟩
     ·obtain ⟨y0,y1,y2,y3⟩:=Pl.cells4 (Ob.kept o8' Ff (by simp;exact ⟨HZ.out.2.2.1.symm,HZ.out.1.symm⟩))
      obtain ⟨z0,z1,z2,z3,z4,z5,z6,z7,z8⟩:=ch_cells (h:=hx) (lv:=.slice ax xs.length cx) (Ob.kept o6' Ff (by simp;exact ⟨HZ.out.2.2.2.1.symm,HZ.out.2.1.symm⟩))
      have ky0:=In.cell y0
      have ky1:=In.cell y1
      have ky2:=In.cell y2
      have ky3:=In.cell y3
      have kz0:=In.cell z0
      have kz1:=In.cell z1
      have kz2:=In.cell z2
      have kz3:=In.cell z3
      have kz4:=In.cell z4
      have kz5:=In.cell z5
      have kz6:=In.cell z6
      have kz7:=In.cell z7
      have kz8:=In.cell z8
      clear y0 y1 y2 y3 z0 z1 z2 z3 z4 z5 z6 z7 z8
      simp only [sel]
      repeat (go_big_quiet_step (fail))
      exact wpQuiet_nil rfl
     refine eo 3 (fun w27 F27=>?_)
     have E:=F26.then F27
     clear F26 F27
     go_wp2_with fail
     refine (lay_u c.t c.wd c.v n hx xs _ pa qa (freshS s.l) _ HQ.out.1 HQ.out.2.1 HQ.out.2.2.1 HQ.out.2.2.2 (ha.kept E) (by have:=HL.out;omega) (HXY.out.1.up (G2.trans E)) (HOW.out qa HZ.out.2.2.2.2.2.2.2.2.1)).mono ?_;rintro e w28 ⟨rfl,Ha,F28⟩
     have Hz2:=(Hz.kept E).kept F28 (by simp;exact HZ.out.2.2.2.2.2.1.symm) (by simp;exact HZ.out.2.2.2.2.2.2.1.symm)
     have E2:Fr [qa,q2] w25 w28:=(E.mono).trans (F28.mono)
     clear ha Hz E F28
     go_wp2_with fail
     refine nx_normal ⟨E2,?_⟩
     refine eo 4 (fun w29 F29=>?_)
     replace E2:=E2.then F29
     replace Ha:=Ha.kept F29
     replace Hz2:=Hz2.kept F29
     clear F29
     go_wp2_with fail
     generalize hm:erL (freshS s.l) n hx xs=m
     have HM:=Lib.hid hm
     clear hm
     refine (code_errv m _ ((HE.out.kept G2 (by simp)).kept E2 (by simp;have h1:=HGL.out;have h2:=HZ.out;omega))).mono ?_;rintro e w30 ⟨rfl,F30⟩
     replace E2:=E2.then F30
     replace Ha:=Ha.kept F30
     replace Hz2:=Hz2.kept F30
     clear F30
     go_wp2_with fail
     refine nx_normal ⟨E2,?_⟩
     refine eo 8 (fun w31 F31=>?_)
     replace E2:=E2.then F31
     replace Ha:=Ha.kept F31
     replace Hz2:=Hz2.kept F31
     clear F31
     go_wp2_with fail
     refine (rlay_u c.t c.wd c.v n hx xs _ p2 q2 (freshS s.l) _ HQ.out.1 HQ.out.2.1 HQ.out.2.2.1 HQ.out.2.2.2 Hz2 (by have:=HL.out;omega) ((HXY.out.1.up G2).keptN E2 (fun hne g hg=>by simp;have h1:=HOW.out qa HZ.out.2.2.2.2.2.2.2.2.1 hne;have h2:=HOW.out q2 HZ.out.2.2.2.2.2.2.2.2.2 hne;exact ⟨fun e=>h1 (e ▸ hg),fun e=>h2 (e ▸ hg)⟩)) (HOW.out q2 HZ.out.2.2.2.2.2.2.2.2.2)).mono ?_;rintro e w32 ⟨rfl,Hz3,F32⟩
     rw [HM.out]
     have Ha3:=Ha.kept F32 (by simp;exact HZ.out.2.2.2.2.1) (by simp;exact HZ.out.2.2.2.2.2.2.1)
     replace E2:Fr [qa,q2] w25 w32:=E2.trans (F32.mono)
     clear Ha Hz2 F32
     go_wp2_with fail
     refine nx_normal ⟨E2,?_⟩
     have q5:(m == m)=true:=by simp
     refine ep [false,false,false,false,false,false,false,false,false,true,true,true,true,false,false,false] 3 E2 ?_
     apply Exists.intro
     refine ⟨fun wf Ff=>?_,?_⟩
     ·simp only [sel]
      repeat (go_big_quiet_step (fail))
      exact wpQuiet_nil rfl
     refine eo 13 (fun w33 F33=>?_)
     replace E2:=E2.then F33
     replace Ha3:=Ha3.kept F33
     replace Hz3:=Hz3.kept F33
     clear F33
     go_wp2_with fail
     refine (Al.alike_any _ pa qa p2 q2 _ Ha3 Hz3).mono ?_;rintro e w34 ⟨rfl,F34⟩
     replace E2:=E2.then F34
     clear F34 Ha3 Hz3
     go_wp2_with fail
     refine nx_normal ⟨E2,?_⟩
     refine ep [false,false,false,false,false,false,false,false,false,false,false,false,false,false,true,true] 0 E2 ?_
     apply Exists.intro
     refine ⟨fun wf Ff=>?_,?_⟩
     ·simp only [sel]
      repeat (go_big_quiet_step (fail))
      exact wpQuiet_nil rfl
     refine env_done (by kernel_rfl) (fun w35 F35=>?_)
     go_wp2_with fail
     go_ret
     exact ⟨rfl,G2.own (E2.then F35) (by simp;exact ⟨HZ.out.2.2.2.2.2.2.2.2.1,HZ.out.2.2.2.2.2.2.2.2.2⟩)⟩
    ·obtain rfl:=Option.some.inj ho
     clear ho
     generalize w10=w5 at *
     have g5:=E.size
     have g6:=o7.lt
     go_wp2_with fail
     have F6:=(Fr.refl [] w5).alloc (.cells #[.int .i64 0,.int .i64 0,.int .i64 0,.int .i64 0] 23)
     have oc:=Ob.new w5 23 #[.int .i64 0,.int .i64 0,.int .i64 0,.int .i64 0]
     generalize World.alloc w5 (.cells #[.int .i64 0,.int .i64 0,.int .i64 0,.int .i64 0] 23)=w6 at *
     replace G:=G.trans F6
     replace E:=E.trans F6
     replace o4:=o4.up F6
     replace o6:=o6.up F6
     replace o7:=o7.up F6
     clear F6
     generalize w5.heap.size=bc at *
     refine nx_normal ⟨E,?_⟩
     refine eo 3 (fun w12 F12=>?_)
     replace G:=G.trans F12
     replace E:=E.trans F12
     replace o4:=o4.up F12
     replace o6:=o6.up F12
     replace o7:=o7.up F12
     replace oc:=oc.up F12
     have hoc:=oc.lt
     clear F12
     go_wp2_with fail
     refine (left_any c rs ps ds ov pv dv ss R _ _ (HS.out.up G) HW.out.2.2.2.2.2 (by have:=HW.out.1;omega)).mono ?_;rintro e w4 ⟨pr,qr,rfl,hpr,hqr,Hr,F4⟩
     have hlen:=runP_len (cf_ok HW.out.2.2.2.2.2).1 rs ds ps
     generalize (runP c rs ds ps).a=s at *
     have g4:=o7.lt
     replace G:=G.trans F4
     replace E:=E.trans F4
     replace o4:=o4.up F4
     replace o6:=o6.up F4
     replace o7:=o7.up F4
     replace oc:=oc.up F4
     have hr:=Hr.lt
     clear F4
     go_wp2_with fail
     refine nx_normal ⟨E,?_⟩
     have HN:=Lib.hid (show bc≠b4∧bc≠b4+1∧bc≠b4+1+1∧pr≠bc∧qr≠bc∧b4≤bc∧w2.heap.size≤bc from by have:=HX.out.2;omega)
     have HB:=Lib.hid (And.intro hpr (And.intro hqr hr))
     refine eo 5 (fun w7 F7=>?_)
     replace G:=G.trans F7
     replace E:=E.trans F7
     replace o4:=o4.up F7
     replace o6:=o6.up F7
     replace o7:=o7.up F7
     replace Hr:=Hr.kept F7
     replace oc:=oc.up F7
     clear F7
     obtain ⟨z0,z1,z2,z3⟩:=Pl.cells4 oc
     have zz:=oc.frozen
     go_wp2_with fail
     have o8:=Ob.set (Ob.set (Ob.set (Ob.set oc (i:=0) (.int .i64 c.t)) (i:=1) (.int .i64 c.c)) (i:=2) (.int .i64 c.wd)) (i:=3) (.int .i64 c.v)
     have F8:Fr [bc] w7 ((((w7.setCell ⟨bc,0,none⟩ (.int .i64 c.t)).setCell ⟨bc,1,none⟩ (.int .i64 c.c)).setCell ⟨bc,2,none⟩ (.int .i64 c.wd)).setCell ⟨bc,3,none⟩ (.int .i64 c.v)):=(((Fr.setCell (S:=[bc]) (b:=bc) (i:=0) _ (by simp)).setCell' (b:=bc) (i:=1) _ (by simp)).setCell' (b:=bc) (i:=2) _ (by simp)).setCell' (b:=bc) (i:=3) _ (by simp)
     generalize ((((w7.setCell ⟨bc,0,none⟩ (.int .i64 c.t)).setCell ⟨bc,1,none⟩ (.int .i64 c.c)).setCell ⟨bc,2,none⟩ (.int .i64 c.wd)).setCell ⟨bc,3,none⟩ (.int .i64 c.v))=w8 at *
     replace o8:Ob w8 bc 23 #[.int .i64 c.t,.int .i64 c.c,.int .i64 c.wd,.int .i64 c.v]:=o8
     clear z0 z1 z2 z3 zz oc
     have nb:=HN.out
     have hcb:w.heap.size≤bc:=by have:=HX.out.1;omega
     replace G:=G.own F8 (by simp;omega)
     replace E:=E.own F8 (by simp;omega)
     replace o4:=o4.kept F8 (by simp;omega)
     replace o6:=o6.kept F8 (by simp;omega)
     replace o7:=o7.kept F8 (by simp;omega)
     replace Hr:=Hr.kept F8 (by simp;omega) (by simp;omega)
     clear F8
     refine nx_normal ⟨E,?_⟩
     refine eo 6 (fun w9 F9=>?_)
     replace G:=G.trans F9
     replace E:=E.trans F9
     replace o4:=o4.up F9
     replace o6:=o6.up F9
     replace o7:=o7.up F9
     replace Hr:=Hr.kept F9
     replace o8:=o8.up F9
     clear F9
     go_wp2_with fail
     refine nx_normal ⟨E,?_⟩
     refine env_done (by kernel_rfl) (fun w11 F11=>?_)
     replace G:=G.trans F11
     replace o4:=o4.up F11
     replace o6:=o6.up F11
     replace o7:=o7.up F11
     replace Hr:=Hr.kept F11
     replace o8:=o8.up F11
     clear F11 E
     have HK:=Lib.hid (cf_ok HW.out.2.2.2.2.2).1
     have hn:c.c=((c.c.toNat:Nat):Int):=by have:=HK.out.c2;have:=HK.out.t1;omega
     generalize c.c.toNat=n at hn
     rw [hn] at o8
     have HQ:=Lib.hid (show 1≤n∧n≤16∧n≤s.l.length∧s.l.length≤20000 from by have:=HK.out.c2;have:=HK.out.t1;have:=HK.out.c16;have:=HK.out.top;have:=HK.out.w2;omega)
     clear hn hlen
     have g8:=And.intro o8.lt o6.lt
     go_wp2_with fail
     refine (arena_any pr qr s _ Hr).mono ?_;rintro e w13 ⟨pa,qa,rfl,hpa,hqa,Ha,F13⟩
     replace G:=G.trans F13
     replace o6:=o6.up F13
     replace o7:=o7.up F13
     replace o8:=o8.up F13
     have HR2:=Lib.hid (And.intro (show pa≠bc∧qa≠bc∧qa≠b4+1∧w.heap.size≤pa∧w.heap.size≤qa∧w.heap.size≤pr∧w.heap.size≤qr from by have:=HX.out;have:=HB.out;omega) (Hr.kept F13))
     clear F13 Hr hpa hqa g8 o4
     obtain ⟨y0,y1,y2,y3⟩:=Pl.cells4 o8
     go_wp2_with fail
     refine (chunk_u c.t c.wd c.v a n pa qa (freshS s.l) _ HQ.out.1 HQ.out.2.1 HQ.out.2.2.1 HQ.out.2.2.2 Ha).mono ?_;rintro e w14 ⟨u,rfl,hu,F14⟩
     replace G:=G.trans F14
     replace o6:=o6.up F14
     replace o7:=o7.up F14
     replace o8:=o8.up F14
     have HA:=Lib.hid (Ha.kept F14)
     have HR3:=Lib.hid (And.intro HR2.out.1 (HR2.out.2.kept F14 (by simp) (by simp)))
     clear HR2
     have hcl:=csC_len s.l n a HQ.out.2.1
     clear F14 Ha y0 y1 y2 y3
     obtain ⟨au,cu,rfl,-,-,-⟩:=id hu
     rw [show (freshS s.l).l=s.l from rfl] at *
     generalize hg1:hdC s.l n a=hc at *
     generalize hg2:csC s.l n a=cs at *
     generalize hg3:erC s.l n a=er at *
     have HG:=Lib.hid (And.intro hg1 (And.intro hg2 hg3))
     clear hg1 hg2 hg3
     unfold chV
     have g14:=And.intro o8.lt (And.intro o6.lt o7.lt)
     have F15:=(Fr.refl [] w14).alloc (.cells (chC hc (.slice au cs.length cu)) 70)
     have p12:=Ob.new w14 70 (chC hc (.slice au cs.length cu))
     replace o6:=o6.up F15
     replace o7:=o7.up F15
     replace o8:=o8.up F15
     have HU:=Lib.hid (hu.up F15)
     have HA2:=Lib.hid (HA.out.kept F15)
     have HR4:=Lib.hid (And.intro HR3.out.1 (HR3.out.2.kept F15 (by simp) (by simp)))
     replace G:=G.trans F15
     have hb12:w14.heap.size≠bc∧w14.heap.size≠b4+1∧w14.heap.size≠b4+1+1:=by omega
     clear HR3 HA hu
     unfold chC at F15 p12 o6 o7 o8 HU HA2 HR4 G
     obtain ⟨y0,y1,y2,y3⟩:=Pl.cells4 o8
     go_wp2_with fail
     generalize World.alloc w14 _=w15 at *
     generalize w14.heap.size=b12 at *
     clear F15 g14 y0 y1 y2 y3
     refine (rchunk_u c.t c.wd c.v a n pr qr s _ HQ.out.1 HQ.out.2.1 HQ.out.2.2.1 HQ.out.2.2.2 HR4.out.2).mono ?_;rintro e w16 ⟨u,rfl,hu,F16⟩
     rw [HG.out.1,HG.out.2.1,HG.out.2.2] at *
     obtain ⟨av,cv,rfl,-,-,-⟩:=id hu
     unfold chV
     have g16:=And.intro (o8.up F16).lt (And.intro (o6.up F16).lt (And.intro (o7.up F16).lt (p12.up F16).lt))
     have F17:=(Fr.refl [] w16).alloc (.cells (chC hc (.slice av cs.length cv)) 70)
     have p14:=Ob.new w16 70 (chC hc (.slice av cs.length cv))
     replace o6:=(o6.up F16).up F17
     replace o7:=(o7.up F16).up F17
     replace o8:=(o8.up F16).up F17
     replace p12:=(p12.up F16).up F17
     have HU2:=Lib.hid (And.intro ((HU.out.up F16).up F17) (hu.up F17))
     have HA3:=Lib.hid ((HA2.out.kept F16).kept F17 (by simp) (by simp))
     have HR5:=Lib.hid (And.intro HR4.out.1 ((HR4.out.2.kept F16 (by simp) (by simp)).kept F17 (by simp) (by simp)))
     replace G:=(G.trans F16).trans F17
     have hb14:w16.heap.size≠bc∧w16.heap.size≠b4+1∧w16.heap.size≠b4+1+1∧w16.heap.size≠b12:=by omega
     clear HR4 HA2 HU hu F16
     unfold chC at F17 p14 o6 o7 o8 p12 HU2 HA3 HR5 G
     go_wp2_with fail
     generalize World.alloc w16 _=w17 at *
     generalize w16.heap.size=b14 at *
     clear F17 g16
     have hxl:=HL.out
     have hcl2:cs.length≤1000:=by omega
     have H1:∀ W,Fr [] w17 W→Calls Tryz.prog 42 #[.agg #[.int .i64 hc.at_,.int .i64 hc.mn,.int .i64 hc.ct,.int .i64 hc.nx,.int .i64 hc.ld,.int .i64 hc.mt,.int .i64 hc.rp,.int .i64 hc.st,.slice au cs.length cu],.agg #[.int .i64 hc.at_,.int .i64 hc.mn,.int .i64 hc.ct,.int .i64 hc.nx,.int .i64 hc.ld,.int .i64 hc.mt,.int .i64 hc.rp,.int .i64 hc.st,.slice av cs.length cv]] W fun e w'=>e = .returned (.bool true)∧Fr [] W w':=fun W F=>by
      have:=rsame_any hc hc cs cs _ _ W hcl2 hcl2 (HU2.out.1.up F) (HU2.out.2.up F)
      rw [decide_eq_true (⟨rfl,rfl⟩:hc=hc∧cs=cs)] at this;exact this
     have HE2:∀ W,Fr [] w17 W→Er.ErrType W:=fun W F=>(HE.out.kept G (by simp)).kept F (by simp)
     generalize hbxy:decide (hx=hy∧xs=ys)=bxy
     have hXY:∀ W,Fr [] w17 W→Sq fC W (.slice ax xs.length cx) xs∧Sq fC W (.slice ay ys.length cy) ys:=fun W F=>⟨HXY.out.1.up (G.trans F),HXY.out.2.up (G.trans F)⟩
     have H2:∀ W,Fr [] w17 W→Calls Tryz.prog 44 #[.agg #[.int .i64 hx.at_,.int .i64 hx.mn,.int .i64 hx.ct,.int .i64 hx.nx,.int .i64 hx.ld,.int .i64 hx.mt,.int .i64 hx.rp,.int .i64 hx.st,.slice ax xs.length cx],.agg #[.int .i64 hy.at_,.int .i64 hy.mn,.int .i64 hy.ct,.int .i64 hy.nx,.int .i64 hy.ld,.int .i64 hy.mt,.int .i64 hy.rp,.int .i64 hy.st,.slice ay ys.length cy]] W fun e w'=>e = .returned (.bool bxy)∧Fr [] W w':=fun W F=>by
      rw [← hbxy];exact same_any hx hy xs ys _ _ W (by omega) (by omega) ⟨_,rfl,(hXY W F).1⟩ ⟨_,rfl,(hXY W F).2⟩
     have H3:∀ W,Fr [] w17 W→Calls Tryz.prog 42 #[.agg #[.int .i64 hx.at_,.int .i64 hx.mn,.int .i64 hx.ct,.int .i64 hx.nx,.int .i64 hx.ld,.int .i64 hx.mt,.int .i64 hx.rp,.int .i64 hx.st,.slice ax xs.length cx],.agg #[.int .i64 hy.at_,.int .i64 hy.mn,.int .i64 hy.ct,.int .i64 hy.nx,.int .i64 hy.ld,.int .i64 hy.mt,.int .i64 hy.rp,.int .i64 hy.st,.slice ay ys.length cy]] W fun e w'=>e = .returned (.bool bxy)∧Fr [] W w':=fun W F=>by
      rw [← hbxy];exact rsame_any hx hy xs ys _ _ W (by omega) (by omega) (hXY W F).1 (hXY W F).2
     have H4:∀ W,Fr [] w17 W→Calls Tryz.prog 44 #[.agg #[.int .i64 hx.at_,.int .i64 hx.mn,.int .i64 hx.ct,.int .i64 hx.nx,.int .i64 hx.ld,.int .i64 hx.mt,.int .i64 hx.rp,.int .i64 hx.st,.slice ax xs.length cx],.agg #[.int .i64 hx.at_,.int .i64 hx.mn,.int .i64 hx.ct,.int .i64 hx.nx,.int .i64 hx.ld,.int .i64 hx.mt,.int .i64 hx.rp,.int .i64 hx.st,.slice ax xs.length cx]] W fun e w'=>e = .returned (.bool true)∧Fr [] W w':=fun W F=>by
      have:=same_any hx hx xs xs _ _ W (by omega) (by omega) ⟨_,rfl,(hXY W F).1⟩ ⟨_,rfl,(hXY W F).1⟩
      rw [decide_eq_true (⟨rfl,rfl⟩:hx=hx∧xs=xs)] at this;exact this
     have HH:=Lib.hid (And.intro H1 (And.intro HE2 (And.intro H2 (And.intro H3 (And.intro H4 hXY)))))
     clear H1 HE2 H2 H3 H4 hXY hbxy
     have q3:(er != er)=false:=by simp
     have q4:(bxy != bxy)=false:=by simp
     refine wp_region_env (by kernel_rfl) [] (fun w18 F18=>?_)
     refine ep [true,true,true,true,true,true,true,true,true,true,false,false,false,false,false,false,false,false,false,false,false,false,false,false,false,false,false,false,false,false,false,false,false] 23 (F18.mono) ?_
     apply Exists.intro
     refine ⟨fun wf Ff=>?_,?_⟩
     ·obtain ⟨x0,x1,x2,x3,x4,x5,x6,x7,x8⟩:=ch_cells (h:=hc) (lv:=.slice au cs.length cu) (p12.up Ff)
      obtain ⟨y0,y1,y2,y3,y4,y5,y6,y7,y8⟩:=ch_cells (h:=hc) (lv:=.slice av cs.length cv) (p14.up Ff)
      have kx0:=In.cell x0
      have kx1:=In.cell x1
      have kx2:=In.cell x2
      have kx3:=In.cell x3
      have kx4:=In.cell x4
      have kx5:=In.cell x5
      have kx6:=In.cell x6
      have kx7:=In.cell x7
      have kx8:=In.cell x8
      have ky0:=In.cell y0
      have ky1:=In.cell y1
      have ky2:=In.cell y2
      have ky3:=In.cell y3
      have ky4:=In.cell y4
      have ky5:=In.cell y5
      have ky6:=In.cell y6
      have ky7:=In.cell y7
      have ky8:=In.cell y8
      clear x0 x1 x2 x3 x4 x5 x6 x7 x8 y0 y1 y2 y3 y4 y5 y6 y7 y8
      simp only [sel]
      repeat (go_big_quiet_step ((first | (go_at_call 42;exact Calls.in_ (HH.out.1 _ (Ff.trans (In.fr _)))) | (go_at_call 43;exact Calls.in_ (code_errv er _ (HH.out.2.1 _ (Ff.trans (In.fr _))))))))
      exact wpQuiet_nil rfl
     refine ep [false,false,false,false,false,false,false,false,false,false,true,true,true,true,true,true,true,true,true,false,false,false,false,false,false,false,false,false,false,false,false,false,false] 14 (F18.mono) ?_
     apply Exists.intro
     refine ⟨fun wf Ff=>?_,?_⟩
     ·obtain ⟨z0,z1,z2,z3,z4,z5,z6,z7,z8⟩:=ch_cells (h:=hx) (lv:=.slice ax xs.length cx) (o6.up Ff)
      obtain ⟨v0,v1,v2,v3,v4,v5,v6,v7,v8⟩:=ch_cells (h:=hy) (lv:=.slice ay ys.length cy) (o7.up Ff)
      have kz0:=In.cell z0
      have kz1:=In.cell z1
      have kz2:=In.cell z2
      have kz3:=In.cell z3
      have kz4:=In.cell z4
      have kz5:=In.cell z5
      have kz6:=In.cell z6
      have kz7:=In.cell z7
      have kz8:=In.cell z8
      have kv0:=In.cell v0
      have kv1:=In.cell v1
      have kv2:=In.cell v2
      have kv3:=In.cell v3
      have kv4:=In.cell v4
      have kv5:=In.cell v5
      have kv6:=In.cell v6
      have kv7:=In.cell v7
      have kv8:=In.cell v8
      clear z0 z1 z2 z3 z4 z5 z6 z7 z8 v0 v1 v2 v3 v4 v5 v6 v7 v8
      simp only [sel]
      repeat (go_big_quiet_step ((first | (go_at_call 44;exact Calls.in_ (HH.out.2.2.1 _ (Ff.trans (In.fr _)))) | (go_at_call 42;exact Calls.in_ (HH.out.2.2.2.1 _ (Ff.trans (In.fr _)))))))
      exact wpQuiet_nil rfl
     refine ep [false,false,false,false,false,false,false,false,false,false,false,false,false,false,false,false,false,false,false,true,true,true,true,true,true,true,true,false,true,false,false,false,false] 5 (F18.mono) ?_
     apply Exists.intro
     refine ⟨fun wf Ff=>?_,?_⟩
     ·obtain ⟨z0,z1,z2,z3,z4,z5,z6,z7,z8⟩:=ch_cells (h:=hx) (lv:=.slice ax xs.length cx) (o6.up Ff)
      have kz0:=In.cell z0
      have kz1:=In.cell z1
      have kz2:=In.cell z2
      have kz3:=In.cell z3
      have kz4:=In.cell z4
      have kz5:=In.cell z5
      have kz6:=In.cell z6
      have kz7:=In.cell z7
      have kz8:=In.cell z8
      clear z0 z1 z2 z3 z4 z5 z6 z7 z8
      simp only [sel]
      repeat (go_big_quiet_step ((go_at_call 44;exact Calls.in_ (HH.out.2.2.2.2.1 _ (Ff.trans (In.fr _))))))
      exact wpQuiet_nil rfl
     refine eo 27 (fun w19 F19=>?_)
     have E:=F18.trans F19
     clear F19 F18
     go_wp2_with fail
     refine (items_any hx xs _ _ (by omega) ⟨_,rfl,(HH.out.2.2.2.2.2 _ E).1⟩).mono ?_;rintro e w20 ⟨⟨u1,rfl,hr1⟩,FF⟩
     replace E:=E.trans FF
     clear FF
     go_wp2_with fail
     refine nx_normal ⟨E,?_⟩
     refine eo 29 (fun w21 F21=>?_)
     replace E:=E.trans F21
     replace hr1:=Sq.own hr1
     replace hr1:=hr1.up F21
     clear F21
     go_wp2_with fail
     refine (ritems_any hx xs _ _ (by omega) (HH.out.2.2.2.2.2 _ E).1).mono ?_;rintro e w25 ⟨⟨u2,rfl,hr2⟩,FF⟩
     replace hr1:=hr1.up FF
     replace hr2:=Sq.own hr2
     replace E:=E.trans FF
     clear FF
     go_wp2_with fail
     refine nx_normal ⟨E,?_⟩
     refine eo 30 (fun w22 F22=>?_)
     replace E:=E.trans F22
     replace hr1:=hr1.up F22
     replace hr2:=hr2.up F22
     have hil:=itemsC_length xs
     clear F22
     go_wp2_with fail
     refine (sameItems_any (itemsC xs) (itemsC xs) _ _ _ (by omega) (by omega) hr1 hr2).mono ?_;rintro e w23 ⟨rfl,FF⟩
     rw [decide_eq_true (rfl:itemsC xs=itemsC xs)]
     clear hr1 hr2 hil
     replace E:=E.trans FF
     clear FF
     go_wp2_with fail
     refine nx_normal ⟨E,?_⟩
     refine ep [false,false,false,false,false,false,false,false,false,false,false,false,false,false,false,false,false,false,false,false,false,false,false,false,false,false,false,false,false,false,false,true,true] 0 E ?_
     apply Exists.intro
     refine ⟨fun wf Ff=>?_,?_⟩
     ·simp only [sel]
      repeat (go_big_quiet_step (fail))
      exact wpQuiet_nil rfl
     refine env_done (by kernel_rfl) (fun w24 F24=>?_)
     replace E:=E.trans F24
     clear F24
     have G2:=G.trans E
     replace o6:=o6.up E
     replace o8:=o8.up E
     have hr:=HR5.out.2.kept E (by simp) (by simp)
     have ha:=HA3.out.kept E
     clear G HH q3 q4 p12 p14 o7 HU2
     go_wp2_with fail
     refine (fresh_any pr qr s _ hr).mono ?_;rintro e w25 ⟨p2,q2,rfl,hp2,hq2,Hz,F25⟩
     have gs:=G2.size
     replace G2:=G2.trans F25
     have o6':=o6.up F25
     have o8':=o8.up F25
     replace ha:=ha.kept F25
     have HZ:=Lib.hid (show q2≠bc∧q2≠b4+1∧qa≠bc∧qa≠b4+1∧pa≠q2∧qa≠p2∧qa≠q2∧p2≠q2∧w.heap.size≤qa∧w.heap.size≤q2 from by have h1:=o6.lt;have h2:=o8.lt;have h4:=HR5.out.1;have h6:=Hz.ne;have h7:=(HA3.out.kept E).lt;omega)
     clear F25 hr hp2 hq2 o6 o8 E gs
     go_wp2_with fail
     have gl:1<w.heap.size:=World.block_lt_of_cell? w _ HE.out
     have HGL:=Lib.hid gl
     have HOW:=Lib.hid (show ∀ k,w.heap.size≤k→xs≠[]→k∉(Value.slice ax xs.length cx).ownBlock.toList from fun k hk hne hm=>by have:=sq_own_lt HXY.out.1 hne k hm;omega)
     clear gl
     refine wp_region_env (by kernel_rfl) [qa,q2] (fun w26 F26=>?_)
     refine ep [true,true,true,false,false,true,true,true,false,false,false,false,false,false,false,false] 10 (F26.mono) ?_
     apply Exists.intro
     refine ⟨fun wf Ff=>?_,?_⟩
     ·obtain ⟨y0,y1,y2,y3⟩:=Pl.cells4 (Ob.kept o8' Ff (by simp;exact ⟨HZ.out.2.2.1.symm,HZ.out.1.symm⟩))
      obtain ⟨z0,z1,z2,z3,z4,z5,z6,z7,z8⟩:=ch_cells (h:=hx) (lv:=.slice ax xs.length cx) (Ob.kept o6' Ff (by simp;exact ⟨HZ.out.2.2.2.1.symm,HZ.out.2.1.symm⟩))
      have ky0:=In.cell y0
      have ky1:=In.cell y1
      have ky2:=In.cell y2
      have ky3:=In.cell y3
      have kz0:=In.cell z0
      have kz1:=In.cell z1
      have kz2:=In.cell z2
      have kz3:=In.cell z3
      have kz4:=In.cell z4
      have kz5:=In.cell z5
      have kz6:=In.cell z6
      have kz7:=In.cell z7
      have kz8:=In.cell z8
      clear y0 y1 y2 y3 z0 z1 z2 z3 z4 z5 z6 z7 z8
      simp only [sel]
      repeat (go_big_quiet_step (fail))
      exact wpQuiet_nil rfl
     refine eo 3 (fun w27 F27=>?_)
     have E:=F26.then F27
     clear F26 F27
     go_wp2_with fail
     refine (lay_u c.t c.wd c.v n hx xs _ pa qa (freshS s.l) _ HQ.out.1 HQ.out.2.1 HQ.out.2.2.1 HQ.out.2.2.2 (ha.kept E) (by have:=HL.out;omega) (HXY.out.1.up (G2.trans E)) (HOW.out qa HZ.out.2.2.2.2.2.2.2.2.1)).mono ?_;rintro e w28 ⟨rfl,Ha,F28⟩
     have Hz2:=(Hz.kept E).kept F28 (by simp;exact HZ.out.2.2.2.2.2.1.symm) (by simp;exact HZ.out.2.2.2.2.2.2.1.symm)
     have E2:Fr [qa,q2] w25 w28:=(E.mono).trans (F28.mono)
     clear ha Hz E F28
     go_wp2_with fail
     refine nx_normal ⟨E2,?_⟩
     refine eo 4 (fun w29 F29=>?_)
     replace E2:=E2.then F29
     replace Ha:=Ha.kept F29
     replace Hz2:=Hz2.kept F29
     clear F29
     go_wp2_with fail
     generalize hm:erL (freshS s.l) n hx xs=m
     have HM:=Lib.hid hm
     clear hm
     refine (code_errv m _ ((HE.out.kept G2 (by simp)).kept E2 (by simp;have h1:=HGL.out;have h2:=HZ.out;omega))).mono ?_;rintro e w30 ⟨rfl,F30⟩
     replace E2:=E2.then F30
     replace Ha:=Ha.kept F30
     replace Hz2:=Hz2.kept F30
     clear F30
     go_wp2_with fail
     refine nx_normal ⟨E2,?_⟩
     refine eo 8 (fun w31 F31=>?_)
     replace E2:=E2.then F31
     replace Ha:=Ha.kept F31
     replace Hz2:=Hz2.kept F31
     clear F31
     go_wp2_with fail
     refine (rlay_u c.t c.wd c.v n hx xs _ p2 q2 (freshS s.l) _ HQ.out.1 HQ.out.2.1 HQ.out.2.2.1 HQ.out.2.2.2 Hz2 (by have:=HL.out;omega) ((HXY.out.1.up G2).keptN E2 (fun hne g hg=>by simp;have h1:=HOW.out qa HZ.out.2.2.2.2.2.2.2.2.1 hne;have h2:=HOW.out q2 HZ.out.2.2.2.2.2.2.2.2.2 hne;exact ⟨fun e=>h1 (e ▸ hg),fun e=>h2 (e ▸ hg)⟩)) (HOW.out q2 HZ.out.2.2.2.2.2.2.2.2.2)).mono ?_;rintro e w32 ⟨rfl,Hz3,F32⟩
     rw [HM.out]
     have Ha3:=Ha.kept F32 (by simp;exact HZ.out.2.2.2.2.1) (by simp;exact HZ.out.2.2.2.2.2.2.1)
     replace E2:Fr [qa,q2] w25 w32:=E2.trans (F32.mono)
     clear Ha Hz2 F32
     go_wp2_with fail
     refine nx_normal ⟨E2,?_⟩
     have q5:(m == m)=true:=by simp
     refine ep [false,false,false,false,false,false,false,false,false,true,true,true,true,false,false,false] 3 E2 ?_
     apply Exists.intro
     refine ⟨fun wf Ff=>?_,?_⟩
     ·simp only [sel]
      repeat (go_big_quiet_step (fail))
      exact wpQuiet_nil rfl
     refine eo 13 (fun w33 F33=>?_)
     replace E2:=E2.then F33
     replace Ha3:=Ha3.kept F33
     replace Hz3:=Hz3.kept F33
     clear F33
     go_wp2_with fail
     refine (Al.alike_any _ pa qa p2 q2 _ Ha3 Hz3).mono ?_;rintro e w34 ⟨rfl,F34⟩
     replace E2:=E2.then F34
     clear F34 Ha3 Hz3
     go_wp2_with fail
     refine nx_normal ⟨E2,?_⟩
     refine ep [false,false,false,false,false,false,false,false,false,false,false,false,false,false,true,true] 0 E2 ?_
     apply Exists.intro
     refine ⟨fun wf Ff=>?_,?_⟩
     ·simp only [sel]
      repeat (go_big_quiet_step (fail))
      exact wpQuiet_nil rfl
     refine env_done (by kernel_rfl) (fun w35 F35=>?_)
     go_wp2_with fail
     go_ret
     exact ⟨rfl,G2.own (E2.then F35) (by simp;exact ⟨HZ.out.2.2.2.2.2.2.2.2.1,HZ.out.2.2.2.2.2.2.2.2.2⟩)⟩
end Go.Proofs.YtilipdnchflkhaaGreatDoor.Vw
namespace Go.Proofs.YtilipdnchflkhaaGreatDoor.Vw
open Go.RowKit Go.Proofs.YtilipdnchflkhaaGreatDoor.Ar Go.Proofs.YtilipdnchflkhaaGreatDoor.Og Go.Proofs.YtilipdnchflkhaaGreatDoor.Mx Go.Proofs.YtilipdnchflkhaaGreatDoor.Wd
theorem tells6_open {H:Type} {enc:TypeId×Value→H} {r r2 r3:Reach} {b0 b2 b3:Nat} {d d2 d3:DataW H} {p p2 p3:List MemPlace} {s x y:Value} (a:Int) (W:World) (hE:Er.ErrType W)
  (hs:Value.okWide Tryz.prog W r b0 27 s) (h:DataW.Trod enc Tryz.prog W 0 (fun _=>true) true 27 s d p)
  (hx:Value.okWide Tryz.prog W r2 b2 70 x) (h2:DataW.Trod enc Tryz.prog W 0 (fun _=>true) true 70 x d2 p2)
  (hy:Value.okWide Tryz.prog W r3 b3 70 y) (h3:DataW.Trod enc Tryz.prog W 0 (fun _=>true) true 70 y d3 p3) :
  Calls Tryz.prog 7 #[s,.int .i64 a,x,y] W fun e w'=>e = .returned (.bool true)∧Fr [] W w':=by
 obtain ⟨t,c,wd,vv,vo,vp,vd,rs,ss,ps,ds,rfl,k1,k2,k3,k4,k5⟩:=Op10.open_scr hs h
 obtain ⟨kx,xs,vx,rfl,hX⟩:=open_chunk hx h2
 obtain ⟨ky,ys,vy,rfl,hY⟩:=open_chunk hy h3
 exact tells6 ⟨t,c,wd,vv⟩ rs ps ds vo vp vd ss (List.range W.heap.size) a kx ky xs ys vx vy W hE (scr_in (c:=⟨t,c,wd,vv⟩) k1 k2 k3 k4 k5) hX hY
end Go.Proofs.YtilipdnchflkhaaGreatDoor.Vw
