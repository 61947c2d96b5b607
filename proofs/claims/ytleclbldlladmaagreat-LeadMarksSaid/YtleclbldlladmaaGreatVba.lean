/- Parts. -/
import Derived.Test.YtleclbldlladmaaGreatVav
set_option linter.unusedVariables false
set_option linter.unusedSimpArgs false
set_option maxRecDepth 100000
set_option maxHeartbeats 12800000
namespace Go.Proofs.YtleclbldlladmaaGreat.Mx
open Go.RowKit Ar Ref Og Mp
theorem evI:(Tryz.prog.info? 107).map (fun i=>(i.zero,i.size,i.bytes))=some (some (.agg #[.int .i64 0,.int .i64 0,.int .i64 0,.int .i64 0,.int .i64 0,.int .i64 0,.int .i64 0,.int .i64 0,.int .i64 0,.int .i64 0,.int .i64 0,.int .i64 0,.int .i64 0,.bool false,.int .i64 0,.int .i64 0,.int .i64 0,.slice none 0 0]),18,160):=by kernel_rfl
theorem qcr {w:World} {b:Nat} {T:TypeId} {x0 x1 x2 x3:Value} (h:Ob w b T #[x0,x1,x2,x3]) (y0 y1 y2 y3:Value) :
  Ob ((((w.setCell ⟨b,0,none⟩ y0).setCell ⟨b,1,none⟩ y1).setCell ⟨b,2,none⟩ y2).setCell ⟨b,3,none⟩ y3) b T #[y0,y1,y2,y3]:=by
 have:=((((h.set (i:=0) y0).set (i:=1) y1).set (i:=2) y2).set (i:=3) y3);rwa [show ((((#[x0,x1,x2,x3]:Array Value).setIfInBounds 0 y0).setIfInBounds 1 y1).setIfInBounds 2 y2).setIfInBounds 3 y3 = #[y0,y1,y2,y3] from rfl] at this
def OpC (o:O):Array Value:=#[.int .i64 o.1,.int .i64 o.2.1,.int .i64 o.2.2.1,.int .i64 o.2.2.2]
theorem Y8 {w:World} {b:Nat} {T:TypeId} {o:O} (h:Ob w b T (OpC o)):w.cell? ⟨b,0,none⟩=some (.int .i64 o.1)/\w.cell? ⟨b,1,none⟩=some (.int .i64 o.2.1)/\w.cell? ⟨b,2,none⟩=some (.int .i64 o.2.2.1)/\w.cell? ⟨b,3,none⟩=some (.int .i64 o.2.2.2):=⟨h.cell rfl,h.cell rfl,h.cell rfl,h.cell rfl⟩
theorem xj {w:World} {g:Nat} {T:TypeId} {ts:List Tv} {n j:Nat} {z:Tv} {u:Value} (h:Ob w g T (ts.flatMap fTv).toArray) (hz:ts[n]? = some z) (hj:j<6) (hu:(fTv z)[j]? = some u):w.cell? ⟨g,n * 6+j,none⟩=some u:=by refine h.cell ?_;simp only [List.getElem?_toArray];rw [Ui.at hz hj];exact hu
theorem qci {w:World} {v:Value} {os:List O} (h:Sq fO w v os) {i:Nat} {o:O} (hi:os[i]? = some o):∃ g off cap,v = .slice (some ⟨g,off,none⟩) os.length cap/\w.cell? ⟨g,off+i * 4,none⟩=some (.int .i64 o.1)/\w.cell? ⟨g,off+i * 4+1,none⟩=some (.int .i64 o.2.1)/\w.cell? ⟨g,off+i * 4+2,none⟩=some (.int .i64 o.2.2.1)/\w.cell? ⟨g,off+i * 4+3,none⟩=some (.int .i64 o.2.2.2):=by obtain ⟨a,cap,rfl,-,-,-⟩:=id h;obtain ⟨-,g,off,rfl,hc⟩:=Sq.cell q73 h hi;exact ⟨g,off,cap,rfl,hc 0 _ rfl,hc 1 _ rfl,hc 2 _ rfl,hc 3 _ rfl⟩
def Jy (t i:Int) (o:O) (now:Int):Ev:=⟨t,i,o,now,-1,0,-1,-1,-1,Vt⟩
theorem q4h {N0:Nat->Prop} {own:Nat->Nat} {w:World} {b:Nat} {m:Mc} {y:Lay} {N:Nat} (hI:MInv N m) (hN:N<=90000000) (h:jc N0 own w b m y) (hN0:ju N0 w.heap.size) {n:Nat} {x:Th} (hx:m.t[n]? = some x) (hnx:x.next<((m.opsOf (n:Int)).length:Int)) :
  Calls Tryz.prog 49 #[.pointer (some ⟨b,0,none⟩),.int .i64 n] w (Vs N0 w b (m.begins (n:Int)) (.tuple #[])):=by
 have hn:=(List.getElem?_eq_some_iff.1 hx).1;have hn8:=hI.t8;obtain ⟨z,hz⟩:∃ z,y.ts[n]? = some z:=⟨y.ts[n]'(by rw [h.thl];exact hn),List.getElem?_eq_getElem _⟩;obtain ⟨e1,e2,e3⟩:=(h.thr n x z hx hz).choose_spec.1.1;have ht:=hI.th n x hx;have hol:=hI.opsl (n:Int);replace h:=h.xo 0 hN0;have hfresh:∀ k,w.heap.size<=k->xo own w.heap.size 0 k=0:=fun k hk=>yh hk
 generalize xo own w.heap.size 0=own at *;obtain ⟨i,hi⟩:∃ i:Nat,x.next=(i:Int):=⟨x.next.toNat,by have:=ht.n0;omega⟩;have hil:i<(m.opsOf (n:Int)).length:=by omega
 obtain ⟨o,ho⟩:∃ o,(m.opsOf (n:Int))[i]? = some o:=⟨_,List.getElem?_eq_getElem hil⟩
 have hE:m.begins (n:Int) = { m with t:=m.t.set n (m.begun (n:Int)),e:=m.e++[Jy n i o m.now] }:=by
  unfold Mc.begins Jy;have e:m.th (n:Int)=x:=by unfold Mc.th;rw [Int.toNat_natCast,List.getD_eq_getElem?_getD,hx];rfl
  simp only [e,hi,Int.toNat_natCast,List.getD_eq_getElem?_getD,ho,Option.getD_some]
 have hB:m.begun (n:Int)=(if o.1=1 then ⟨(i:Int)+1,true,x.scans,some (Pt.new m.c o.2.1 (Ja (vn n i) o.2.2.1) (m.drawsOf (vn n i))),none,none⟩
   else if o.1=2 then ⟨(i:Int)+1,true,x.scans,some (Pt.new m.c o.2.1 (Ja (vn n i) (-1)) (m.drawsOf (vn n i))),none,none⟩
   else if o.1=3 then ⟨(i:Int)+1,true,x.scans,none,some (Gt.new m.c o.2.1),none⟩
   else ⟨(i:Int)+1,true,x.scans+1,none,none,some (Sn.new m.c n (x.scans+1) o.2.1 o.2.2.2)⟩):=by
  unfold Mc.begun
  have e:m.th (n:Int)=x:=by unfold Mc.th;rw [Int.toNat_natCast,List.getD_eq_getElem?_getD,hx];rfl
  simp only [e,hi,Int.toNat_natCast,List.getD_eq_getElem?_getD,ho,Option.getD_some]
 rw [hE];have HB:=q9 hB;clear hE hB;generalize m.begun (n:Int)=X at *;have hi1:i<1000:=by omega
 obtain ⟨go,oo,co,hov,d0,d1,d2,d3⟩:=qci (q5b h.fz.rows (n:Int)) ho;have HOV:=q9 hov;have HOL:=q9 (qc hol (qc hil hnx));have t0:=xj h.th hz (j:=0) Lg rfl;rw [e1,hi] at t0;obtain ⟨-,-,-,-,-,-,-,-,c8,-,-,-,-⟩:=zw h.ob;unfold Lay.tv at c8;have hlz:(n:Int)<(y.ts.length:Int):=by rw [h.thl];omega
 have HX:=q9 (qc hx (qc hz (qc hi (qc e1 (qc e2 e3)))));have HTL:=q9 (qc hn (qc hn8 ht));have HI:=q9 hI;have hilz:(i:Int)<((m.opsOf (n:Int)).length:Int):=by omega
 clear hx hz hi e1 e2 e3 hn ht hI hov hol hil hnx ho;have H:=q9 h;clear h;generalize (m.opsOf (n:Int)).length=len at *;have HT0:=q9 t0;rw [Nat.add_zero] at t0;go_enter Tryz.func49,Tryz.ntmps49;go_wp2_with fail;refine z7 Le [] (fun w2 F2=>?_);refine epq [true,true,true,true,true,true,true,true,true,false,false] 2 F2 ?_;apply qg;refine ⟨fun wf Ff=>?_,?_⟩
 ·have HU:=q9 (H.out.up Ff);have k0:=qb (Ff.cell t0 Lc);have q0:=qb (Ff.cell d0 Lc);have q1:=qb (Ff.cell d1 Lc);have q2:=qb (Ff.cell d2 Lc);have q3:=qb (Ff.cell d3 Lc);simp only [sel];repeat (go_big_quiet_step ((go_at_call 67;exact Calls.in_same ((Ku m _ b y.ov y.pv y.dv y.p y.tv y.kv y.ev y.R y.ss _ (HU.out.up (In.fr _)).ob (HU.out.up (In.fr _)).fz.rows).mono (fun e w' hh=>⟨hh.1.trans (by rw [HOV.out]),hh.2.symm⟩)))))
  exact wpQuiet_nil rfl
 refine eoq 9 (fun w3 F3=>?_);replace F2:=F2.trans F3;clear F3;go_wp2_with fail;have FA:=(Fr.refl [] w3).alloc (.cells #[.int .i64 0,.int .i64 0,.int .i64 0,.int .i64 0] 86);have oA:Ob _ w3.heap.size 86 #[.int .i64 0,.int .i64 0,.int .i64 0,.int .i64 0]:=Ob.new w3 _ _;have hob:w.heap.size<=w3.heap.size:=F2.size;refine ql ⟨F2.trans FA,?_⟩;refine eoq 10 (fun w4 F4=>?_);replace F2:=(F2.trans FA).trans F4;replace oA:=Ob.up oA F4;clear FA F4;generalize w3.heap.size=ob at *;have z:=oA.frozen;have q0:w4.cell? ⟨ob,0,none⟩=some (.int .i64 0):=oA.cell rfl;have q1:w4.cell? ⟨ob,1,none⟩=some (.int .i64 0):=oA.cell rfl;have q2:w4.cell? ⟨ob,2,none⟩=some (.int .i64 0):=oA.cell rfl;have q3:w4.cell? ⟨ob,3,none⟩=some (.int .i64 0):=oA.cell rfl;go_wp2_with fail;clear q0 q1 q2 q3;have o5:Ob _ ob 86 (OpC o):=qcr oA (.int .i64 o.1) (.int .i64 o.2.1) (.int .i64 o.2.2.1) (.int .i64 o.2.2.2);have F5:Fr [] w ((((w4.setCell ⟨ob,0,none⟩ (.int .i64 o.1)).setCell ⟨ob,1,none⟩ (.int .i64 o.2.1)).setCell ⟨ob,2,none⟩ (.int .i64 o.2.2.1)).setCell ⟨ob,3,none⟩ (.int .i64 o.2.2.2)):=F2.own ((((Fr.setCell (S:=[ob]) _ Lc).setCell' _ Lc).setCell' _ Lc).setCell' _ Lc) (by simpa using hob);clear F2 z oA;generalize ((((w4.setCell ⟨ob,0,none⟩ (.int .i64 o.1)).setCell ⟨ob,1,none⟩ (.int .i64 o.2.1)).setCell ⟨ob,2,none⟩ (.int .i64 o.2.2.1)).setCell ⟨ob,3,none⟩ (.int .i64 o.2.2.2))=w5 at *;refine ql ⟨F5,?_⟩;refine zr Le (fun w6 F6=>?_);replace F5:=F5.trans F6;replace o5:=Ob.up o5 F6;have H6:=q9 (H.out.up F5);have HS:=q9 (qc F5 hob);clear H F6 d0 d1 d2 d3 c8 t0 HT0;have t0:=xj H6.out.th HX.out.2.1 (j:=0) Lg rfl;rw [Nat.add_zero,HX.out.2.2.2.1,HX.out.2.2.1] at t0;go_wp2_with fail;refine (q3w _ _ _).mono ?_;rintro e w7 ⟨rfl,rfl⟩;go_wp2_with fail;obtain ⟨ae,ce,hev,hce,hme,-⟩:=id (Sq.own (f:=fEv) H6.out.ev);have hes:y.es.length<=N:=by rw [H6.out.esl];exact HI.out.el
 obtain ⟨-,-,-,-,-,-,-,-,-,c9,-,-,c12⟩:=zw H6.out.ob;rw [hev] at c12;obtain ⟨q0,q1,q2,q3⟩:=Y8 o5;have r6:=H6.out.ev;rw [hev] at r6;have hevo:=H6.out.evo;rw [hev] at hevo;have nb:b∉(Value.slice ae y.es.length ce).ownBlock.toList:=fun hi=>by have:=hevo b hi;have:=H6.out.cb;omega
 have ntb:y.tb∉(Value.slice ae y.es.length ce).ownBlock.toList:=fun hi=>by have:=hevo _ hi;have:=H6.out.ct;omega
 have nob:ob∉(Value.slice ae y.es.length ce).ownBlock.toList:=fun hi=>by have:=hevo _ hi;have:=hfresh ob HS.out.2;omega
 have HEV:=q9 hev;clear hev hevo;refine qp Le ?_;refine za (Value.slice ae y.es.length ce).ownBlock.toList w6 #[true,true,true,true,true,true,true,true,true,true,true,true,true,true,true,true,true,true,false,false,false] 18 3 rfl ?_;refine lpq [true,true,true,true,true,true,true,true,true,true,true,true,true,true,true,true,false,false,false,false,false] 2 ((Fr.refl _ _).drew) ?_;apply qg;refine ⟨fun wf Ff=>?_,?_⟩
 ·have k9:=qb (Ff.cell c9 nb);have k12:=qb (Ff.cell c12 nb);have k0:=qb (Ff.cell t0 ntb);have p0:=qb (Ff.cell q0 nob);have p1:=qb (Ff.cell q1 nob);have p2:=qb (Ff.cell q2 nob);have p3:=qb (Ff.cell q3 nob);exact Ab
 refine loq 16 (fun w10 F10=>?_);have G:=((Fr.refl (Value.slice ae y.es.length ce).ownBlock.toList w6).drew).then F10;have r10:=qo r6 ((Fr.refl [] w6).drew.trans F10);clear F10 r6;go_wp2_with fail;have F12:=(Fr.refl [] w10).alloc (.cells #[.int .i64 n,.int .i64 i,.int .i64 o.1,.int .i64 o.2.1,.int .i64 o.2.2.1,.int .i64 o.2.2.2,.int .i64 m.now,.int .i64 (-1),.int .i64 0,.int .i64 (-1),.int .i64 (-1),.int .i64 (-1),.int .i64 0,.bool false,.int .i64 0,.int .i64 0,.int .i64 0,.slice none 0 0] 107);have B12:=Go.heap_alloc_new w10 (.cells #[.int .i64 n,.int .i64 i,.int .i64 o.1,.int .i64 o.2.1,.int .i64 o.2.2.1,.int .i64 o.2.2.2,.int .i64 m.now,.int .i64 (-1),.int .i64 0,.int .i64 (-1),.int .i64 (-1),.int .i64 (-1),.int .i64 0,.bool false,.int .i64 0,.int .i64 0,.int .i64 0,.slice none 0 0] 107);have r12:=qo r10 F12;replace G:=G.then F12;clear r10 F12;refine ql ⟨G,?_⟩;refine loq 17 (fun w13 F13=>?_);have r22:=qo r12 F13;have B22:=F13.heap B12 Lc;replace G:=G.then F13;have HGG:=q9 G.size;clear r12 B12 F13;go_wp2_with (at_builtin;go_loud (refine wu Jg rfl _ _ 59 rfl Tryz.underlying59 evI rfl (B:=0) (.slice ae y.es.length ce) y.es rfl r22 _ [(⟨Jy n i o m.now,⟨none,0,0⟩⟩:Evv)] rfl (Sq.block B22 rfl rfl (Nat.le_refl _) Lm) Oa Lg (Nat.zero_le _) ?_);intro a23 c23 w23 r23 f23 n23);replace G:=G.trans f23;have hs6:=HS.out.1.size;have hg6:w6.heap.size<=w13.heap.size:=HGG.out;refine ql ⟨G,?_⟩;refine qy (k:=18) rfl Le (fun w15 F15=>?_);have r15:=qo r23 F15;replace G:=G.then F15;have A:=H6.out.appE (ju.up hN0 hs6) (w1:=w15) (x:=⟨Jy n i o m.now,⟨none,0,0⟩⟩) (by rw [HEV.out];exact G) r15 (by rw [HEV.out];exact fun g hg=>(n23 g hg).imp id (fun e=>by omega)) ⟨rfl,rfl⟩;have hb0:xo own w6.heap.size 5 ob=0:=(xz (Ob.lt o5)).trans (hfresh ob hob);generalize xo own w6.heap.size 5=own2 at *;have Fv:=A.1.five HX.out.1 HX.out.2.1;dsimp only at Fv;rw [HX.out.2.2.1] at Fv;have th15:=Ob.kept H6.out.th G ntb;have ob15:=Ob.kept H6.out.ob G nb;have zb:=ob15.frozen;have zt:=th15.frozen;replace c12:=G.cell c12 nb;have t0:=xj th15 HX.out.2.1 (j:=0) Lg rfl;rw [Nat.add_zero,HX.out.2.2.2.1,HX.out.2.2.1] at t0;have t1:=xj th15 HX.out.2.1 (j:=1) Lg rfl;have t2:=xj th15 HX.out.2.1 (j:=2) Lg rfl;rw [HX.out.2.2.2.2.2] at t2;have t3:=xj th15 HX.out.2.1 (j:=3) Lg rfl;have t4:=xj th15 HX.out.2.1 (j:=4) Lg rfl;have t5:=xj th15 HX.out.2.1 (j:=5) Lg rfl;replace q0:=G.cell q0 nob;have nbt:¬ b=y.tb:=fun e=>by have h1:=H6.out.cb;have h2:=H6.out.ct;rw [<- e] at h2;omega
 have nbo:¬ b=ob:=fun e=>by have h1:=H6.out.cb;have h2:=hfresh ob hob;rw [<- e] at h2;omega
 have nto:¬ y.tb=ob:=fun e=>by have h1:=H6.out.ct;have h2:=hfresh ob hob;rw [<- e] at h2;omega
 have nbt':¬ y.tb=b:=fun e=>nbt e.symm
 have nbo':¬ ob=b:=fun e=>nbo e.symm
 have nto':¬ ob=y.tb:=fun e=>nto e.symm
 have hoo:Ob w15 ob 86 (OpC o):=Ob.kept o5 G nob;generalize hL2:y.es++[(⟨Jy n i o m.now,⟨none,0,0⟩⟩:Evv)]=es2 at *;have hl2:es2.length=y.es.length+1:=by rw [<- hL2];simp
 rw [hl2] at A Fv;have HA:=q9 (qc A (qc Fv (qc hb0 hoo)));have HG:=q9 G;clear hl2 A Fv hb0 hoo G F15 r15 r23 n23 f23 B22 r22 c9 q1 q2 q3 nb ntb nob hL2 F5 o5 hce hme ob15 th15 hg6 hs6 hes hob;by_cases k1:o.1=1
 ·have g1:(o.1 == 1)=true:=by simpa using k1
  have HX1:=q9 (HB.out.trans (qf k1));clear k1 HB;go_wp2_with fail;obtain ⟨⟨A1,A2⟩,⟨B1,B2⟩,hb0,hoo⟩:=HA.out;have hb5:Ob _ ob 86 (OpC o):=Ob.kept (Ob.other hoo nbo' (i:=12) (Value.slice a23 (y.es.length+1) c23)) B2 Oo;have FW:=(FrO.of HS.out.1 Lc).trans ((FrO.of (S:=[]) (Fr.refl _ w6) Lc).trans (A2.trans (FrO.of B2 (fun k hk=>by simp at hk;subst hk;exact B1.base _ N9))));clear A1 A2 hoo B2;clear t0 t1 t2 t3 t4 t5 c12 q0 zb zt;generalize ((((((w15.setCell ⟨b,12,none⟩ (Value.slice a23 (y.es.length+1) c23)).setCell ⟨y.tb,n * 6+1,none⟩ (.bool true)).setCell ⟨y.tb,n * 6,none⟩ (.int .i64 (↑i+1))).setCell ⟨y.tb,n * 6+3,none⟩ (.pointer none)).setCell ⟨y.tb,n * 6+4,none⟩ (.pointer none)).setCell ⟨y.tb,n * 6+5,none⟩ (.pointer none))=w16 at *;clear HA HG;have HB1:=q9 B1;have HFW:=q9 FW;clear FW;obtain ⟨c0,c1,c2,c3,-,-,-,-,-,-,-,-,-⟩:=zw B1.ob;dsimp only at c0 c1 c2 c3;have th16:=B1.th;dsimp only at th16;have hz5:(y.ts.set n ⟨(i:Int)+1,true,x.scans,none,none,none⟩)[n]? = some ⟨(i:Int)+1,true,x.scans,none,none,none⟩:=List.getElem?_set_self Mg;have hct:own2 y.tb=4:=B1.ct;clear B1;obtain ⟨q0,q1,q2,q3⟩:=Y8 hb5;refine qp Le ?_;refine za [] w16 #[true,true,true,true,true,true,true,true,true,true,true,true,true,true,true,true,false,false,false] 16 3 rfl ?_;refine lpq [true,true,true,true,true,true,true,true,true,true,true,true,true,true,false,false,false,false,false] 2 ((Fr.refl _ _).drew) ?_;apply qg;refine ⟨fun wf Ff=>?_,?_⟩
  ·exact B0
  refine loq 14 (fun w17 F17=>?_);have E:=((Fr.refl [] w16).drew).trans F17;clear F17;have U17:=HB1.out.up E;go_wp2_with fail;refine (Rj _ (vn n i) Nj b _ _ _ _ _ _ _ w17 U17.ob U17.fz.dr).mono ?_;rintro e w18 ⟨⟨dvv,rfl,hdr⟩,F18⟩;have HDR:=q9 (show Sq fI w18 dvv (m.drawsOf (vn n i)) from hdr.1.up F18);have HDO:=q9 (fun k hk=>HB1.out.fz.drR (hdr.2 k hk).1 k (hdr.2 k hk).2);replace E:=E.trans F18;clear F18 hdr U17;go_wp2_with fail;refine ql ⟨E,?_⟩;refine loq 15 (fun w19 F19=>?_);replace E:=E.trans F19;go_wp2_with fail;refine (Ub m.c o.2.1 (Ja (vn n i) o.2.2.1) (m.drawsOf (vn n i)) dvv y.R w19 (HDR.out.up F19) HDO.out (fun k hk=>qj (HB1.out.fz.cR k hk).2 E.size)).mono ?_;rintro e w20 ⟨pb,B,rfl,hP,hBn,F20⟩;clear F19 HDR HDO;have HBN:=q9 (fun k hk=>qh E.size (hBn k hk));replace E:=E.trans F20;have HP:=q9 hP;clear F20 hP hBn c0 c1 c2 c3 q0 q1 q2 q3;go_wp2_with fail;refine ql ⟨E,?_⟩;refine qy (k:=16) rfl Le (fun w21 F21=>?_);replace E:=E.trans F21;have hP:=HP.out.kept F21 Lc Lc;have th21:=Ob.up th16 E;have zt:=th21.frozen;have t3:=xj th21 hz5 (j:=3) Lg rfl;have M:=(HB1.out.xo (n+6) (ju.up hN0 HFW.out.size)).up E;have hBc:∀ k,k∈B->xo own2 w16.heap.size (n+6) k=n+6:=fun k hk=>yh (HBN.out k hk)
  generalize xo own2 w16.heap.size (n+6)=own3 at *;clear HP F21;have HM:=q9 (qc M (qc hBc hP));have HE:=q9 E;clear M hBc hP E;go_wp2_with fail;go_end0;obtain ⟨M,hBc,hP⟩:=HM.out;have hct3:own3 y.tb=4:=M.ct;obtain ⟨C1,C2⟩:=M.setT2 (m:={ m with e:=m.e++[Jy n i o m.now] }) (y:={ y with ev:=(Value.slice a23 (y.es.length+1) c23),es:=es2 }) HTL.out.1 (j:=3) (u:=.pointer (some ⟨pb,0,none⟩)) (x':=⟨(i:Int)+1,true,x.scans,some (Pt.new m.c o.2.1 (Ja (vn n i) o.2.2.1) (m.drawsOf (vn n i))),none,none⟩) (z':=⟨(i:Int)+1,true,x.scans,some pb,none,none⟩) Lg Nv (fun w' F=>⟨B,⟨⟨rfl,rfl,rfl⟩,.inl ⟨_,pb,rfl,rfl,rfl,rfl,rfl,rfl,hP.kept F (fun k hk hi=>by simp at hi;subst hi;have:=hBc _ hk;omega) (fun k hk hi=>by simp at hi;subst hi;have:=M.R0 _ hk;omega)⟩⟩,hBc⟩);exact Bu
 have HB2:=q9 (HB.out.trans (qd k1));have g1:(o.1 == 1)=false:=by simpa using k1
 clear HB k1;by_cases k2:o.1=2
 ·have g2:(o.1 == 2)=true:=by simpa using k2
  have HX1:=q9 (HB2.out.trans (qf k2));clear k2 HB2;go_wp2_with fail;obtain ⟨⟨A1,A2⟩,⟨B1,B2⟩,hb0,hoo⟩:=HA.out;have hb5:Ob _ ob 86 (OpC o):=Ob.kept (Ob.other hoo nbo' (i:=12) (Value.slice a23 (y.es.length+1) c23)) B2 Oo;have FW:=(FrO.of HS.out.1 Lc).trans ((FrO.of (S:=[]) (Fr.refl _ w6) Lc).trans (A2.trans (FrO.of B2 (fun k hk=>by simp at hk;subst hk;exact B1.base _ N9))));clear A1 A2 hoo B2;clear t0 t1 t2 t3 t4 t5 c12 q0 zb zt;generalize ((((((w15.setCell ⟨b,12,none⟩ (Value.slice a23 (y.es.length+1) c23)).setCell ⟨y.tb,n * 6+1,none⟩ (.bool true)).setCell ⟨y.tb,n * 6,none⟩ (.int .i64 (↑i+1))).setCell ⟨y.tb,n * 6+3,none⟩ (.pointer none)).setCell ⟨y.tb,n * 6+4,none⟩ (.pointer none)).setCell ⟨y.tb,n * 6+5,none⟩ (.pointer none))=w16 at *;clear HA HG;have HB1:=q9 B1;have HFW:=q9 FW;clear FW;obtain ⟨c0,c1,c2,c3,-,-,-,-,-,-,-,-,-⟩:=zw B1.ob;dsimp only at c0 c1 c2 c3;have th16:=B1.th;dsimp only at th16;have hz5:(y.ts.set n ⟨(i:Int)+1,true,x.scans,none,none,none⟩)[n]? = some ⟨(i:Int)+1,true,x.scans,none,none,none⟩:=List.getElem?_set_self Mg;have hct:own2 y.tb=4:=B1.ct;clear B1;obtain ⟨q0,q1,q2,q3⟩:=Y8 hb5;refine qp Le ?_;refine za [] w16 #[true,true,true,true,true,true,true,true,true,true,true,true,true,true,false,false,false] 14 3 rfl ?_;refine lpq [true,true,true,true,true,true,true,true,true,true,true,true,false,false,false,false,false] 2 ((Fr.refl _ _).drew) ?_;apply qg;refine ⟨fun wf Ff=>?_,?_⟩
  ·exact B0
  refine loq 12 (fun w17 F17=>?_);have E:=((Fr.refl [] w16).drew).trans F17;clear F17;have U17:=HB1.out.up E;go_wp2_with fail;refine (Rj _ (vn n i) Nj b _ _ _ _ _ _ _ w17 U17.ob U17.fz.dr).mono ?_;rintro e w18 ⟨⟨dvv,rfl,hdr⟩,F18⟩;have HDR:=q9 (show Sq fI w18 dvv (m.drawsOf (vn n i)) from hdr.1.up F18);have HDO:=q9 (fun k hk=>HB1.out.fz.drR (hdr.2 k hk).1 k (hdr.2 k hk).2);replace E:=E.trans F18;clear F18 hdr U17;go_wp2_with fail;refine ql ⟨E,?_⟩;refine loq 13 (fun w19 F19=>?_);replace E:=E.trans F19;go_wp2_with fail;refine (Ub m.c o.2.1 (Ja (vn n i) (-1)) (m.drawsOf (vn n i)) dvv y.R w19 (HDR.out.up F19) HDO.out (fun k hk=>qj (HB1.out.fz.cR k hk).2 E.size)).mono ?_;rintro e w20 ⟨pb,B,rfl,hP,hBn,F20⟩;clear F19 HDR HDO;have HBN:=q9 (fun k hk=>qh E.size (hBn k hk));replace E:=E.trans F20;have HP:=q9 hP;clear F20 hP hBn c0 c1 c2 c3 q0 q1 q2 q3;go_wp2_with fail;refine ql ⟨E,?_⟩;refine qy (k:=14) rfl Le (fun w21 F21=>?_);replace E:=E.trans F21;have hP:=HP.out.kept F21 Lc Lc;have th21:=Ob.up th16 E;have zt:=th21.frozen;have t3:=xj th21 hz5 (j:=3) Lg rfl;have M:=(HB1.out.xo (n+6) (ju.up hN0 HFW.out.size)).up E;have hBc:∀ k,k∈B->xo own2 w16.heap.size (n+6) k=n+6:=fun k hk=>yh (HBN.out k hk)
  generalize xo own2 w16.heap.size (n+6)=own3 at *;clear HP F21;have HM:=q9 (qc M (qc hBc hP));have HE:=q9 E;clear M hBc hP E;go_wp2_with fail;go_end0;obtain ⟨M,hBc,hP⟩:=HM.out;have hct3:own3 y.tb=4:=M.ct;obtain ⟨C1,C2⟩:=M.setT2 (m:={ m with e:=m.e++[Jy n i o m.now] }) (y:={ y with ev:=(Value.slice a23 (y.es.length+1) c23),es:=es2 }) HTL.out.1 (j:=3) (u:=.pointer (some ⟨pb,0,none⟩)) (x':=⟨(i:Int)+1,true,x.scans,some (Pt.new m.c o.2.1 (Ja (vn n i) (-1)) (m.drawsOf (vn n i))),none,none⟩) (z':=⟨(i:Int)+1,true,x.scans,some pb,none,none⟩) Lg Nv (fun w' F=>⟨B,⟨⟨rfl,rfl,rfl⟩,.inl ⟨_,pb,rfl,rfl,rfl,rfl,rfl,rfl,hP.kept F (fun k hk hi=>by simp at hi;subst hi;have:=hBc _ hk;omega) (fun k hk hi=>by simp at hi;subst hi;have:=M.R0 _ hk;omega)⟩⟩,hBc⟩);exact Bu
 have HB3:=q9 (HB2.out.trans (qd k2));have g2:(o.1 == 2)=false:=by simpa using k2
 clear HB2 k2;by_cases k3:o.1=3
 ·have g3:(o.1 == 3)=true:=by simpa using k3
  have HX1:=q9 (HB3.out.trans (qf k3));clear k3 HB3;go_wp2_with fail;obtain ⟨⟨A1,A2⟩,⟨B1,B2⟩,hb0,hoo⟩:=HA.out;have hb5:Ob _ ob 86 (OpC o):=Ob.kept (Ob.other hoo nbo' (i:=12) (Value.slice a23 (y.es.length+1) c23)) B2 Oo;have FW:=(FrO.of HS.out.1 Lc).trans ((FrO.of (S:=[]) (Fr.refl _ w6) Lc).trans (A2.trans (FrO.of B2 (fun k hk=>by simp at hk;subst hk;exact B1.base _ N9))));clear A1 A2 hoo B2;clear t0 t1 t2 t3 t4 t5 c12 q0 zb zt;generalize ((((((w15.setCell ⟨b,12,none⟩ (Value.slice a23 (y.es.length+1) c23)).setCell ⟨y.tb,n * 6+1,none⟩ (.bool true)).setCell ⟨y.tb,n * 6,none⟩ (.int .i64 (↑i+1))).setCell ⟨y.tb,n * 6+3,none⟩ (.pointer none)).setCell ⟨y.tb,n * 6+4,none⟩ (.pointer none)).setCell ⟨y.tb,n * 6+5,none⟩ (.pointer none))=w16 at *;clear HA HG;have HB1:=q9 B1;have HFW:=q9 FW;clear FW;obtain ⟨c0,c1,c2,c3,-,-,-,-,-,-,-,-,-⟩:=zw B1.ob;dsimp only at c0 c1 c2 c3;have th16:=B1.th;dsimp only at th16;have hz5:(y.ts.set n ⟨(i:Int)+1,true,x.scans,none,none,none⟩)[n]? = some ⟨(i:Int)+1,true,x.scans,none,none,none⟩:=List.getElem?_set_self Mg;have hct:own2 y.tb=4:=B1.ct;clear B1;obtain ⟨q0,q1,q2,q3⟩:=Y8 hb5;refine qp Le ?_;refine za [] w16 #[true,true,true,true,true,true,true,true,true,false,false,false] 9 3 rfl ?_;refine lpq [true,true,true,true,true,true,true,true,false,false,false,false] 1 ((Fr.refl _ _).drew) ?_;apply qg;refine ⟨fun wf Ff=>?_,?_⟩
  ·have k0:=qb (Ff.cell c0 Lc);have k1:=qb (Ff.cell c1 Lc);have k2:=qb (Ff.cell c2 Lc);have k3:=qb (Ff.cell c3 Lc);have p0:=qb (Ff.cell q0 Lc);have p1:=qb (Ff.cell q1 Lc);have p2:=qb (Ff.cell q2 Lc);have p3:=qb (Ff.cell q3 Lc);exact Ab
  refine loq 8 (fun w19 F19=>?_);have E:=((Fr.refl [] w16).drew).trans F19;clear F19;go_wp2_with fail;refine (q4k m.c o.2.1 w19).mono ?_;rintro e w20 ⟨pb,B,rfl,hP,hBn,F20⟩;have HBN:=q9 (fun k hk=>qh E.size (hBn k hk));replace E:=E.trans F20;have HP:=q9 hP;clear F20 hP hBn c0 c1 c2 c3 q0 q1 q2 q3;go_wp2_with fail;refine ql ⟨E,?_⟩;refine qy (k:=9) rfl Le (fun w21 F21=>?_);replace E:=E.trans F21;have hP:=HP.out.kept F21 Lc;have th21:=Ob.up th16 E;have zt:=th21.frozen;have t4:=xj th21 hz5 (j:=4) Lg rfl;have M:=(HB1.out.xo (n+6) (ju.up hN0 HFW.out.size)).up E;have hBc:∀ k,k∈B->xo own2 w16.heap.size (n+6) k=n+6:=fun k hk=>yh (HBN.out k hk)
  generalize xo own2 w16.heap.size (n+6)=own3 at *;clear HP F21;have HM:=q9 (qc M (qc hBc hP));have HE:=q9 E;clear M hBc hP E;go_wp2_with fail;go_end0;obtain ⟨M,hBc,hP⟩:=HM.out;have hct3:own3 y.tb=4:=M.ct;obtain ⟨C1,C2⟩:=M.setT2 (m:={ m with e:=m.e++[Jy n i o m.now] }) (y:={ y with ev:=(Value.slice a23 (y.es.length+1) c23),es:=es2 }) HTL.out.1 (j:=4) (u:=.pointer (some ⟨pb,0,none⟩)) (x':=⟨(i:Int)+1,true,x.scans,none,some (Gt.new m.c o.2.1),none⟩) (z':=⟨(i:Int)+1,true,x.scans,none,some pb,none⟩) Lg Nv (fun w' F=>⟨B,⟨⟨rfl,rfl,rfl⟩,.inr (.inl ⟨_,pb,rfl,rfl,rfl,rfl,rfl,rfl,hP.kept F (fun k hk hi=>by simp at hi;subst hi;have:=hBc _ hk;omega)⟩)⟩,hBc⟩);exact Bu
 have HX1:=q9 (HB3.out.trans (qd k3));have g3:(o.1 == 3)=false:=by simpa using k3
 have hscb:=HTL.out.2.2.s0;have hscn:=HTL.out.2.2.n1;have hsl:=HOL.out.1;clear HB3 k3;go_wp2_with fail;obtain ⟨⟨A1,A2⟩,⟨B1,B2⟩,hb0,hoo⟩:=HA.out;have hb5:Ob _ ob 86 (OpC o):=Ob.kept (Ob.other hoo nbo' (i:=12) (Value.slice a23 (y.es.length+1) c23)) B2 Oo;have FW:=(FrO.of HS.out.1 Lc).trans ((FrO.of (S:=[]) (Fr.refl _ w6) Lc).trans (A2.trans (FrO.of B2 (fun k hk=>by simp at hk;subst hk;exact B1.base _ N9))));obtain ⟨B1',B2'⟩:=B1.setT2 (m:={ m with e:=m.e++[Jy n i o m.now] }) (y:={ y with ev:=(Value.slice a23 (y.es.length+1) c23),es:=es2 }) HTL.out.1 (j:=2) (u:=.int .i64 (x.scans+1)) (x':=⟨(i:Int)+1,true,x.scans+1,none,none,none⟩) (z':=⟨(i:Int)+1,true,x.scans+1,none,none,none⟩) Lg (by simp [fTv]) (fun w' F=>by obtain ⟨B,k1,k2⟩:=B1.thK2 (m:={ m with e:=m.e++[Jy n i o m.now] }) (y:={ y with ev:=(Value.slice a23 (y.es.length+1) c23),es:=es2 }) HTL.out.1 w' F;exact ⟨B,k1.num _ _ _,k2⟩);replace FW:=FW.trans B2';replace hb5:=Ob.other hb5 nto' (i:=n * 6+2) (.int .i64 (x.scans+1));clear B1 B2 B2' A1 A2 hoo;have B1:=B1';clear B1';clear t0 t1 t2 t3 t4 t5 c12 q0 zb zt;generalize (((((((w15.setCell ⟨b,12,none⟩ (Value.slice a23 (y.es.length+1) c23)).setCell ⟨y.tb,n * 6+1,none⟩ (.bool true)).setCell ⟨y.tb,n * 6,none⟩ (.int .i64 (↑i+1))).setCell ⟨y.tb,n * 6+3,none⟩ (.pointer none)).setCell ⟨y.tb,n * 6+4,none⟩ (.pointer none)).setCell ⟨y.tb,n * 6+5,none⟩ (.pointer none)).setCell ⟨y.tb,n * 6+2,none⟩ (.int .i64 (x.scans+1)))=w16 at *;clear HA HG;have HB1:=q9 B1;have HFW:=q9 FW;clear FW;obtain ⟨c0,c1,c2,c3,-,-,-,-,-,-,-,-,-⟩:=zw B1.ob;dsimp only at c0 c1 c2 c3;have th16:=B1.th;dsimp only at th16;have hz5:(y.ts.set n ⟨(i:Int)+1,true,x.scans+1,none,none,none⟩)[n]? = some ⟨(i:Int)+1,true,x.scans+1,none,none,none⟩:=List.getElem?_set_self Mg;have hct:own2 y.tb=4:=B1.ct;clear B1;obtain ⟨q0,q1,q2,q3⟩:=Y8 hb5;have t2:=xj th16 hz5 (j:=2) Lg rfl;refine qp Le ?_;refine za [] w16 #[true,true,true,true,true,true,true,true,true,true,true,true,true,true,true,true,false,false,false] 16 3 rfl ?_;refine lpq [true,true,true,true,true,true,true,true,true,true,true,true,true,true,true,false,false,false,false] 1 ((Fr.refl _ _).drew) ?_;apply qg;refine ⟨fun wf Ff=>?_,?_⟩
 ·have k0:=qb (Ff.cell c0 Lc);have k1:=qb (Ff.cell c1 Lc);have k2:=qb (Ff.cell c2 Lc);have k3:=qb (Ff.cell c3 Lc);have p0:=qb (Ff.cell q0 Lc);have p1:=qb (Ff.cell q1 Lc);have p2:=qb (Ff.cell q2 Lc);have p3:=qb (Ff.cell q3 Lc);have s2:=qb (Ff.cell t2 Lc);exact Ab
 refine loq 15 (fun w19 F19=>?_);have E:=((Fr.refl [] w16).drew).trans F19;clear F19;go_wp2_with fail;refine (q1g m.c n (x.scans+1) o.2.1 o.2.2.2 w19).mono ?_;rintro e w20 ⟨pb,B,rfl,hP,hBn,F20⟩;have HBN:=q9 (fun k hk=>qh E.size (hBn k hk));replace E:=E.trans F20;have HP:=q9 hP;clear F20 hP hBn c0 c1 c2 c3 q0 q1 q2 q3;go_wp2_with fail;refine ql ⟨E,?_⟩;refine qy (k:=16) rfl Le (fun w21 F21=>?_);replace E:=E.trans F21;have hP:=HP.out.kept F21 Lc;have th21:=Ob.up th16 E;have zt:=th21.frozen;have t5:=xj th21 hz5 (j:=5) Lg rfl;have M:=(HB1.out.xo (n+6) (ju.up hN0 HFW.out.size)).up E;have hBc:∀ k,k∈B->xo own2 w16.heap.size (n+6) k=n+6:=fun k hk=>yh (HBN.out k hk)
 generalize xo own2 w16.heap.size (n+6)=own3 at *;clear HP F21;have HM:=q9 (qc M (qc hBc hP));have HE:=q9 E;clear M hBc hP E;go_wp2_with fail;go_end0;obtain ⟨M,hBc,hP⟩:=HM.out;have hct3:own3 y.tb=4:=M.ct;obtain ⟨C1,C2⟩:=M.setT2 (m:={ m with e:=m.e++[Jy n i o m.now] }) (y:={ y with ev:=(Value.slice a23 (y.es.length+1) c23),es:=es2 }) HTL.out.1 (j:=5) (u:=.pointer (some ⟨pb,0,none⟩)) (x':=⟨(i:Int)+1,true,x.scans+1,none,none,some (Sn.new m.c n (x.scans+1) o.2.1 o.2.2.2)⟩) (z':=⟨(i:Int)+1,true,x.scans+1,none,none,some pb⟩) Lg Nv (fun w' F=>⟨B,⟨⟨rfl,rfl,rfl⟩,.inr (.inr (.inl ⟨_,pb,rfl,rfl,rfl,rfl,rfl,rfl,hP.kept F (fun k hk hi=>by simp at hi;subst hi;have:=hBc _ hk;omega)⟩))⟩,hBc⟩);exact Bu
section
variable {N0:Nat->Prop} {own:Nat->Nat} {w:World} {b:Nat} {m:Mc} {y:Lay}
theorem jc.setE2 {x0:Evv} {k j g c:Nat} (h:jc N0 own w b { m with e:=m.e.set k x0.e } { y with es:=y.es.set k x0 }) (hk:k<y.es.length) {x':Evv} {u:Value} (hev:y.ev = .slice (some ⟨g,0,none⟩) y.es.length c) (hj:j<18) (hf:fEv x'=(fEv x0).set j u) (ha:Sq fQ w x'.s.v x'.e.ans.pairs/\(x'.e.ans.pairs≠[]->∀ k,k∈x'.s.v.ownBlock.toList->own k=0)) :
  jc N0 own (w.setCell ⟨g,k * 18+j,none⟩ u) b { m with e:=m.e.set k x'.e } { y with es:=y.es.set k x' } /\ FrO N0 w (w.setCell ⟨g,k * 18+j,none⟩ u):=by
 have hz:(y.es.set k x0)[k]? = some x0:=List.getElem?_set_self hk;obtain ⟨h1,h2⟩:=h.setE (k:=k) (x':=x') (by simpa using hev) hz hj hf ha;simp only [List.set_set] at h1;exact ⟨h1,h2⟩
theorem jc.ev_at (h:jc N0 own w b m y) {k:Nat} {v:Ev} (hk:m.e[k]? = some v):∃ x,y.es[k]? = some x/\x.e=v:=by rw [<- h.evl,List.getElem?_map] at hk;obtain ⟨x,h1,h2⟩:=Option.map_eq_some_iff.1 hk;exact ⟨x,h1,h2⟩
theorem jc.ansAt (h:jc N0 own w b m y) {k:Nat} {x:Evv} (hk:y.es[k]? = some x):Sq fQ w x.s.v x.e.ans.pairs/\(x.e.ans.pairs≠[]->∀ k,k∈x.s.v.ownBlock.toList->own k=0):=h.ans x (List.mem_of_getElem? hk)
end
def AcC (a:Acc):Array Value:=#[.int .i64 a.kind,.int .i64 a.at_,.int .i64 a.old,.int .i64 a.new,.bool a.ok]
theorem q1t {l:List Ev} {t i:Int} {k:Nat} (h:l.findIdx? (evP t i)=some k):q4x l t i=(k:Int):=by unfold q4x;rw [h]
theorem q8d {l:List Ev} {t i:Int} (h:l.findIdx? (evP t i)=none):q4x l t i = -1:=by unfold q4x;rw [h]
theorem q5e {N0:Nat->Prop} {own:Nat->Nat} {w:World} {b:Nat} {m:Mc} {y:Lay} {N:Nat} (hI:MInv N m) (hN:N<=90000000) (h:jc N0 own w b m y) (hN0:ju N0 w.heap.size) :
  Calls Tryz.prog 52 #[.pointer (some ⟨b,0,none⟩)] w (Vs N0 w b m.notes (.tuple #[])):=by
 generalize hX:m.notes=X;have HX:=q9 hX;have HI:=q9 hI;clear hX hI;have H:=q9 h;have oA:=Ob.new w 64 (AcC m.a.a);have F0:=(Fr.refl [] w).alloc (.cells (AcC m.a.a) 64);have hab:∀ k,k<w.heap.size->¬ w.heap.size=k:=fun k hk=>by omega
 have hU:=h.up F0;obtain ⟨-,-,-,-,-,-,-,c7,-,c9,-,c11,-⟩:=zw h.ob;obtain ⟨-,-,-,-,-,-,-,d7,-,d9,-,d11,-⟩:=zw hU.ob;obtain ⟨cap,-,-,-,r2,r3,r4,r5,r6,-⟩:=Xj h.ar;have a0:(w.alloc (.cells (AcC m.a.a) 64)).cell? ⟨w.heap.size,0,none⟩=some (.int .i64 m.a.a.kind):=oA.cell rfl;have a1:(w.alloc (.cells (AcC m.a.a) 64)).cell? ⟨w.heap.size,1,none⟩=some (.int .i64 m.a.a.at_):=oA.cell rfl;have a2:(w.alloc (.cells (AcC m.a.a) 64)).cell? ⟨w.heap.size,2,none⟩=some (.int .i64 m.a.a.old):=oA.cell rfl;have a3:(w.alloc (.cells (AcC m.a.a) 64)).cell? ⟨w.heap.size,3,none⟩=some (.int .i64 m.a.a.new):=oA.cell rfl;have a4:(w.alloc (.cells (AcC m.a.a) 64)).cell? ⟨w.heap.size,4,none⟩=some (.bool m.a.a.ok):=oA.cell rfl;unfold AcC at oA F0 hU d7 d9 d11 a0 a1 a2 a3 a4;have HU:=q9 (qc hU (qc oA F0));clear hU oA F0 h;by_cases k4:m.a.a.kind=4
 ·have g1:(m.a.a.kind == 4)=true:=by simpa using k4
  by_cases k1:m.a.a.at_=1
  ·have g2:(m.a.a.at_ == 1)=true:=by simpa using k1
   have g3:(m.a.a.kind == 3)=false:=by rw [k4];rfl
   have K4:=q9 k4;have K1:=q9 k1;clear k4 k1;go_enter Tryz.func52,Tryz.ntmps52;go_wp2_with fail;have hb:=Ob.lt H.out.ob;generalize World.alloc w _=w1 at *;have hw1:=HU.out.2.2.size;have hkl:=HI.out.tk;have HT:=q9 HU.out.1.tk;have HC:=q9 HU.out.1.tkc;refine qp Le ?_;refine za [] w1 #[true,true,true,true,true,true,true,true,true,true,true,true,false,false,false] 12 3 rfl ?_;refine lpq [true,true,true,true,true,false,true,true,true,true,false,false,false,false,false] 3 ((Fr.refl _ _).drew) ?_;apply qg;refine ⟨fun wf Ff=>?_,?_⟩
   ·have k9:=qb (Ff.cell d9 Lc);have k11:=qb (Ff.cell d11 Lc);exact Ab
   refine jo [5,10] Le Lc (fun w10 F10 i hi o ho=>?_);have G:=(Fr.refl [] w1).drew.trans F10;clear F10;simp only [List.mem_cons,List.not_mem_nil,or_false] at hi;rcases hi with rfl | rfl
   focus
    obtain rfl:=qi ho
    go_wp2_with (at_builtin;refine wu yj rfl _ _ 25 rfl Tryz.underlying25 Ul rfl (B:=w1.heap.size) (.slice none 0 0) [] rfl ⟨rfl,.inl ⟨rfl,rfl⟩⟩ _ m.ticks rfl (HT.out.up G) Ll Lg G.size ?_;intro a21 c21 w21 r21 f21 n21)
    rw [List.nil_append] at r21
    replace G:=G.trans f21
    clear f21 n21
    refine ql ⟨G,?_⟩
    refine loq 10 (fun w11 F11=>?_)
    have r11:=qo r21 F11
    replace G:=G.trans F11
    clear r21 F11
    go_wp2_with fail
    have F12:=(Fr.refl [] w11).alloc (.cells #[.int .i64 m.now] 3)
    have B12:=Go.heap_alloc_new w11 (.cells #[.int .i64 m.now] 3)
    have r12:=qo r11 F12
    replace G:=G.trans F12
    clear r11 F12 ho
   rotate_left
   focus
    obtain rfl:=qi ho
    go_wp2_with fail
    have F12:=(Fr.refl [] w10).alloc (.cells #[.int .i64 m.now] 3)
    have B12:=Go.heap_alloc_new w10 (.cells #[.int .i64 m.now] 3)
    replace G:=G.trans F12
    clear F12 ho
    refine ql ⟨G,?_⟩
    refine loq 5 (fun w11 F11=>?_)
    have B13:=F11.heap B12 Lc
    replace G:=G.trans F11
    clear B12 F11
    go_wp2_with (at_builtin;refine wu yj rfl _ _ 25 rfl Tryz.underlying25 Ul rfl (B:=w1.heap.size) (.slice none 0 0) [] rfl ⟨rfl,.inl ⟨rfl,rfl⟩⟩ _ m.ticks rfl (HT.out.up G) Ll Lg G.size ?_;intro a21 c21 w21 r12 f21 n21)
    rw [List.nil_append] at r12
    have B12:=Fr.heap f21 B13 Lp
    replace G:=G.trans f21
    clear f21 n21 B13
   rotate_left
   all_goals
    refine ql ⟨G,?_⟩
    refine loq 11 (fun w13 F13=>?_)
    have r22:=qo r12 F13
    have B22:=F13.heap B12 Lc
    replace G:=G.trans F13
    clear r12 B12 F13
    go_wp2_with (at_builtin;refine wu yj rfl _ _ 25 rfl Tryz.underlying25 Ul rfl (B:=w1.heap.size) _ m.ticks rfl r22 _ [m.now] rfl (Sq.block B22 rfl rfl (Nat.le_refl _) Lm) Oa Lg G.size ?_;intro a23 c23 w23 r23 f23 n23;generalize hT3:m.ticks++[m.now]=T3 at r23 ⊢)
    replace G:=G.own f23 (z8 r22)
    clear f23 r22 B22 n23
    refine ql ⟨G,?_⟩
    refine qy (k:=12) rfl Le (fun w15 F15=>?_)
    have r26:=qo r23 F15
    replace G:=G.trans F15
    clear r23 F15
    have hM:=(HU.out.1.xo 0 (ju.up hN0 hw1)).up G
    have hcol:∀ k,k∈(Value.slice a23 T3.length c23).ownBlock.toList->xo own w1.heap.size 0 k=0:=fun k hk=>yh (z8 r26 k hk)
    generalize xo own w1.heap.size 0=own2 at *
    have hne:b∉(Value.slice a23 T3.length c23).ownBlock.toList:=fun hi=>by have:=hcol b hi;have:=hM.cb;omega
    have HM:=q9 (hM.setTk T3 (.slice a23 T3.length c23) ((Sq.own r26).kept (Fr.setCell (S:=[b]) _ Lc) (fun g hg hi=>by simp at hi;subst hi;exact hne hg)) (fun _ k hk=>hcol k hk))
    have z:=hM.ob.frozen
    have e11:w15.cell? ⟨b,11,none⟩=some y.kv:=G.cell d11 Lc
    have b0:=G.cell a0 Lc
    have nab:=hab b hb
    have nba:¬ b=w.heap.size:=fun e=>nab e.symm
    have HT3:=q9 hT3
    have HG:=q9 G
    clear hM hcol hne r26 G hT3
    go_wp2_with fail
    go_end0
    have e:X = { m with ticks:=T3 }:=by rw [<- HX.out,<- HT3.out];unfold Mc.notes;simp [K4.out,K1.out]
    rw [e]
    exact ⟨rfl,⟨own2,_,HM.out.1⟩,(FrO.of HU.out.2.2 Lc).trans ((FrO.of HG.out Lc).trans HM.out.2)⟩
  have g2:(m.a.a.at_ == 1)=false:=by simpa using k1
  have g3:(m.a.a.kind == 3)=false:=by rw [k4];rfl
  have K4:=q9 k4;have K1:=q9 k1;clear k4 k1;go_enter Tryz.func52,Tryz.ntmps52;go_wp2_with fail;go_end0;have e:X=m:=by rw [<- HX.out];unfold Mc.notes;simp only;rw [qd (fun h=>by have h1:=h.1;have h2:=K4.out;omega)];exact qd (fun h=>K1.out h.2)
  exact Cv
 ·have g1:(m.a.a.kind == 4)=false:=by simpa using k4
  have K4:=q9 k4;clear k4;by_cases k3:m.a.a.kind=3
  ·have g3:(m.a.a.kind == 3)=true:=by simpa using k3
   have K3:=q9 k3;clear k3;cases k5:m.a.a.ok
   ·rw [k5] at a4 r6;have K5:=q9 k5;rw [k5] at HU;clear k5;go_enter Tryz.func52,Tryz.ntmps52;go_wp2_with fail;go_end0;have e:X=m:=by rw [<- HX.out];unfold Mc.notes;simp only;rw [qd (fun h=>by have h1:=h.2.1;rw [K5.out] at h1;cases h1)];exact qd (fun h=>K4.out h.1)
    exact Cv
   rw [k5] at a0 a1 a2 a3 a4 r6 d7 d9 d11;have K5:=q9 k5;rw [k5] at HU;clear k5;by_cases k6:m.a.a.old=1
   ·have g6:(m.a.a.old == 1)=true:=by simpa using k6
    have K6:=q9 k6;clear k6;by_cases k7:3<=m.a.a.new
    ·have g7:decide (m.a.a.new≥3)=true:=by simpa using k7
     have g8:decide (3<=m.a.a.new)=true:=by simpa using k7
     have K7:=q9 k7;clear k7;go_enter Tryz.func52,Tryz.ntmps52;go_wp2_with fail;generalize World.alloc w _=w1 at *;have hw1:=HU.out.2.2.size;have k7:=qb d7;have p1:=qb a1;refine wiq ?_;repeat (go_big_quiet_step ((first | (go_at_call 19;exact Calls.in_same (Ref.yx _ y.p y.q m.a _ (HU.out.1.ar.kept (In.fr _) Lc Lc))) | (go_at_call 80;exact Calls.in_same (q77 _ _)) | (go_at_call 79;exact Calls.in_same (q6h _ _)))))
     refine wpQuiet_nil ?_;intro w2 F2;clear k7 p1;generalize hpk:qw m.a.l (wrap64 (m.a.a.at_+2))=pk at *;have HPK:=q9 hpk;clear hpk;generalize htt:(ofP (q9x pk)).1=tt at *;generalize hii:(ofP (q9x pk)).2=ii at *;have HTI:=q9 (qc htt hii);clear htt hii;have M2:=HU.out.1.up F2;have HM2:=q9 M2;have hel:y.es.length<=100000000:=by have:=HI.out.el;have:=M2.esl;omega
     go_wp2_with fail;refine (Rs m tt ii b _ _ _ _ _ _ _ y.es w2 hel M2.ob (Sq.own (f:=fEv) M2.ev)).mono ?_;rintro e w3 ⟨rfl,rfl⟩;rw [M2.evl]
     have hE:X=(match m.event tt ii with | some k=>{ m with e:=m.e.set k { (m.e.getD k qa6) with at_:=m.now,version:=Vi m.a.a.new } } | none=>m):=by rw [<- HX.out,<- HTI.out.1,<- HTI.out.2,<- HPK.out];unfold Mc.notes;simp [K3.out,K5.out,K6.out,K7.out];rfl
     have HE:=q9 hE;clear hE M2 hel;cases hev:m.event tt ii with
     | none =>
      have e0:q4x m.e tt ii = -1:=q8d (by rw [<- Ux];exact hev);rw [e0];have HEV:=q9 hev;clear hev e0;go_wp2_with fail;go_end0;have e:X=m:=by rw [HE.out,HEV.out]
      rw [e];exact ⟨rfl,⟨own,y,HM2.out⟩,FrO.of (HU.out.2.2.trans F2) Lc⟩
     | some k =>
      have e0:q4x m.e tt ii=(k:Int):=q1t (by rw [<- Ux];exact hev);rw [e0];obtain ⟨v,hv,-,-⟩:=Jk hev;obtain ⟨x,hx,hxv⟩:=HM2.out.ev_at hv;obtain ⟨g,c,hyv,hg5,hcl,zg⟩:=HM2.out.ev_open hx;have hkl:=(List.getElem?_eq_some_iff.1 hx).1;have hklz:(k:Int)<(y.es.length:Int):=by omega
      have HEV:=q9 (qc hev (qc hv (qc hx (qc hxv (qc hyv hkl)))));have x10:=hcl 10 _ rfl;have x11:=hcl 11 _ rfl;obtain ⟨-,-,-,-,-,-,-,-,-,e9,-,-,e12⟩:=zw HM2.out.ob;rw [hyv] at e12;have b3:=F2.cell a3 Lc;clear hev hv hx hxv hyv hkl e0 hg5 hcl;go_wp2_with fail;refine qp Le ?_;refine wm 9 rfl Le Le Le rfl (fun _ _ d _ _ h=>by cases d <;> exact h) ?_;go_frame;refine za [] w3 #[true,true,true,true,true,true,true,true,true,true,true,true,true,true,true,true,true,false,false,false,false,false,false] 16 6 rfl ?_;refine ja [true,true,true,true,true,true,true,true,true,false,true,true,true,true,true,true,true,false,false,false,false,false,false] 0 (n:=92) (listed':=#[true,true,true,true,true,true,true,true,true,true,true,true,true,true,true,true,true,false,false,false,false,false,false]) rfl Le Le Le Le rfl Le (fun _ _ d _ _ h=>by cases d <;> exact h) ((Fr.refl _ w3).drew) ?_;apply qg;refine ⟨fun wf Ff=>?_,?_⟩
      ·have k9:=qb (Ff.cell e9 Lc);have k12:=qb (Ff.cell e12 Lc);have k3:=qb (Ff.cell b3 Lc);exact Cw
      refine qy (k:=17) rfl Le (fun w5 F5=>?_);replace F5:=(Fr.refl [] w3).drew.trans F5;have M5:=HM2.out.up F5;have G:=F2.trans F5
      have z:∀ i,w5.frozen? ⟨g,i,none⟩=false:=by obtain ⟨g',c',hyv',-,-,z'⟩:=M5.ev_open HEV.out.2.2.1;rw [HEV.out.2.2.2.2.1] at hyv';simp only [Value.slice.injEq,Option.some.injEq,Addr.mk.injEq] at hyv';obtain ⟨⟨rfl,-⟩,-⟩:=hyv';exact z'
      replace x10:=F5.cell x10 Lc;replace x11:=F5.cell x11 Lc;have HM5:=q9 M5;have HG:=q9 G;clear M5 G F5 zg;go_wp2_with fail;go_end0;have A1:=HM5.out.ansAt HEV.out.2.2.1;obtain ⟨C1,C2⟩:=HM5.out.setE (k:=k) (j:=10) (u:=.int .i64 m.now) (x':={ x with e:={ x.e with at_:=m.now } }) HEV.out.2.2.2.2.1 HEV.out.2.2.1 Lg Ly A1;obtain ⟨D1,D2⟩:=C1.setE2 HEV.out.2.2.2.2.2 (j:=11) (u:=.int .i64 (Vi m.a.a.new)) (x':={ x with e:={ x.e with at_:=m.now,version:=Vi m.a.a.new } }) HEV.out.2.2.2.2.1 Lg Ly (C1.ansAt (k:=k) (x:={ x with e:={ x.e with at_:=m.now } }) (List.getElem?_set_self HEV.out.2.2.2.2.2))
      have e:X = { m with e:=m.e.set k { x.e with at_:=m.now,version:=Vi m.a.a.new } }:=by rw [HE.out,HEV.out.1];simp only;rw [List.getD_eq_getElem?_getD,HEV.out.2.1,<- HEV.out.2.2.2.1];rfl
      rw [e];exact ⟨rfl,⟨own,_,D1⟩,(FrO.of (HU.out.2.2.trans HG.out) Lc).trans (C2.trans D2)⟩
    have g7:decide (m.a.a.new≥3)=false:=by simpa using k7
    have g8:decide (3<=m.a.a.new)=false:=by simpa using k7
    have K7:=q9 k7;clear k7;go_enter Tryz.func52,Tryz.ntmps52;go_wp2_with fail;go_end0;have e:X=m:=by rw [<- HX.out];unfold Mc.notes;simp only;rw [qd (fun h=>by have h1:=h.2.2.2;have h2:=K7.out;omega)];exact qd (fun h=>K4.out h.1)
    exact Cv
   have g6:(m.a.a.old == 1)=false:=by simpa using k6
   have K6:=q9 k6;clear k6;go_enter Tryz.func52,Tryz.ntmps52;go_wp2_with fail;go_end0;have e:X=m:=by rw [<- HX.out];unfold Mc.notes;simp only;rw [qd (fun h=>K6.out h.2.2.1)];exact qd (fun h=>K4.out h.1)
   exact Cv
  have g3:(m.a.a.kind == 3)=false:=by simpa using k3
  have K3:=q9 k3;clear k3;go_enter Tryz.func52,Tryz.ntmps52;go_wp2_with fail;go_end0;have e:X=m:=by rw [<- HX.out];unfold Mc.notes;simp only;rw [qd (fun h=>K3.out h.1)];exact qd (fun h=>K4.out h.1)
  exact Cv
end Go.Proofs.YtleclbldlladmaaGreat.Mx
