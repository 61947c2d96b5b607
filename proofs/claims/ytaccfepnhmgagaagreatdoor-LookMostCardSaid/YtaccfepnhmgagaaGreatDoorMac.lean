/- Parts. -/
import Derived.Test.YtaccfepnhmgagaaGreatDoorMab
import Derived.Test.YtaccfepnhmgagaaGreatDoorMaa
set_option linter.unusedVariables false
set_option linter.unusedSimpArgs false
set_option maxRecDepth 100000
namespace Go.Proofs.YtaccfepnhmgagaaGreatDoor.Lm_u
open Go.RowKit Go.Maps Go.Proofs.YtaccfepnhmgagaaGreatDoor.Ar Go.Proofs.YtaccfepnhmgagaaGreatDoor.Og Go.Proofs.YtaccfepnhmgagaaGreatDoor.Ref Go.Proofs.YtaccfepnhmgagaaGreatDoor.Mx Go.Proofs.YtaccfepnhmgagaaGreatDoor.Wd Go.Proofs.YtaccfepnhmgagaaGreatDoor.Dk_u Go.Proofs.YtaccfepnhmgagaaGreatDoor.Mp Go.Proofs.YtaccfepnhmgagaaGreatDoor.Kp
set_option linter.unusedVariables false
set_option linter.unusedSimpArgs false
def MoAt (W:World) (n:Nat) (iv:Value) (wr:World):Prop:=∃ i:Nat,iv = .int .i64 i∧i≤n∧Fr [] W wr
theorem allI_len (L:List Int) (a ck lo hi:Int):∀ i,(Lp_u.allI L a ck lo hi i).length≤i
 | 0=>Nat.le_refl _
 | i+1=>by
  have:=allI_len L a ck lo hi i
  unfold Lp_u.allI
  split <;> simp <;> omega
theorem its_len (L:List Int) (a ck lo hi most:Int):∀ i,(Lp_u.its L a ck lo hi most i).length≤i
 | 0=>Nat.le_refl _
 | i+1=>by
  have:=its_len L a ck lo hi most i
  unfold Lp_u.its
  split
  ·unfold Lp_u.addI
   split
   ·omega
   ·have:=q1r (Lp_u.its L a ck lo hi most i) (Lp_u.itI L a ck lo hi i);omega
  ·omega
theorem most1 (L:List Int) (a ck u v:Int) (n:Nat) (h:u≤v) (h2:v≤255):∀ x,x∈Lp_u.its L a ck 0 63 u n→x.v≤u∧∃ w,latT (Lp_u.its L a ck 0 63 v n) x.k 1099511627776=some w∧x.v≤w.v:=fun x hx=>Lp_u.most_le h (by omega) hx
theorem most3 (L:List Int) (a ck v:Int) (n:Nat) {k:Int} (hk:0≤k∧k≤63) (h2:v≤255):Lp_u.its L a ck k k v n=(latT (Lp_u.its L a ck 0 63 v n) k 1099511627776).toList:=Lp_u.most_one hk (by omega)
set_option maxRecDepth 100000 in
set_option maxHeartbeats 6400000 in
theorem most_any (c:Cf) (rs:List (List O)) (ps ds:List Int) (ov pv dv:Value) (ss:List Sv) (R:List Nat) (k a1 b1 key:Int) (hk:0≤k∧k≤255) (ha1:0≤a1∧a1≤255) (hb1:0≤b1∧b1≤255) (hkey:0≤key∧key≤255) (w:World) (t:Word.Tab w)
  (hS:q52 w (.agg #[.int .i64 c.t,.int .i64 c.c,.int .i64 c.wd,.int .i64 c.v,ov,pv,dv]) c rs ps ds ov pv dv ss R) :
  Calls Tryz.prog 5 #[.agg #[.int .i64 c.t,.int .i64 c.c,.int .i64 c.wd,.int .i64 c.v,ov,pv,dv],.int .u8 k,.int .u8 a1,.int .u8 b1,.int .u8 key] w fun e w'=>e = .returned (.bool true)∧Fr [] w w':=by
 have HS:=q9 hS
 have F0:=(Fr.refl [] w).alloc (.cells #[.int .i64 c.t,.int .i64 c.c,.int .i64 c.wd,.int .i64 c.v,ov,pv,dv] 27)
 have o1:=Ob.new w 27 #[.int .i64 c.t,.int .i64 c.c,.int .i64 c.wd,.int .i64 c.v,ov,pv,dv]
 clear hS
 go_enter Tryz.func5,Tryz.ntmps5
 go_wp2_with fail
 generalize World.alloc w _=w0 at *
 generalize hb1':w.heap.size=b1' at *
 refine (Dk_u.known_true w0 (Dk_u.tabK t F0 (by simp))).mono ?_;rintro e w1 ⟨rfl,F1⟩
 have G:=F0.trans F1
 replace o1:=o1.up F1
 clear F0 F1
 have HX:=q9 (qc hb1' o1.lt)
 clear hb1'
 have d0:=Ob.cell (i:=0) o1 rfl
 have d1:=Ob.cell (i:=1) o1 rfl
 have d2:=Ob.cell (i:=2) o1 rfl
 have d3:=Ob.cell (i:=3) o1 rfl
 have d4:=Ob.cell (i:=4) o1 rfl
 have d5:=Ob.cell (i:=5) o1 rfl
 have d6:=Ob.cell (i:=6) o1 rfl
 go_wp2_with fail
 refine (wide_any c.t c.c c.wd c.v rs ps ds _ 300 _ (HS.out.scr.up G)).mono ?_;rintro e w2 ⟨rfl,F2⟩
 replace G:=G.trans F2
 replace o1:=o1.up F2
 clear d0 d1 d2 d3 d4 d5 d6 F2
 have d0:=Ob.cell (i:=0) o1 rfl
 have d1:=Ob.cell (i:=1) o1 rfl
 have d2:=Ob.cell (i:=2) o1 rfl
 have d3:=Ob.cell (i:=3) o1 rfl
 have d4:=Ob.cell (i:=4) o1 rfl
 have d5:=Ob.cell (i:=5) o1 rfl
 have d6:=Ob.cell (i:=6) o1 rfl
 cases hw:Ui c.t c.c c.wd c.v rs ps ds 300 with
 | true =>
  clear hw
  go_wp2_with fail
  go_ret
  exact ⟨rfl,G⟩
 | false =>
  have HW:=q9 (qbu hw)
  clear hw
  have HT:=q9 (qc t (qc hk (qc ha1 (qc hb1 hkey))))
  clear t hk ha1 hb1 hkey
  have HC0:=q9 (qb1 HW.out.2.2.2.2.2).1
  go_wp2_with fail
  refine qp (by kernel_rfl) ?_
  refine za [] w2 #[true,true,true,true,true,false,false] 5 2 rfl ?_
  refine envT_pass [true,true,true,false,false,false,false] 2 (n:=131) (listed':=#[true,true,true,false,false,false,false]) rfl (by kernel_rfl) (by kernel_rfl) (by kernel_rfl) (by kernel_rfl) (by kernel_rfl) rfl (by kernel_rfl) (fun _ _ d _ _ h=>by cases d <;> exact h) ((Fr.refl _ w2).drew) ?_
  apply qg
  refine ⟨fun wf Ff=>?_,?_⟩
  ·have i0:=qb (Ff.cell d0 (by simp))
   have i1:=qb (Ff.cell d1 (by simp))
   have i2:=qb (Ff.cell d2 (by simp))
   have i3:=qb (Ff.cell d3 (by simp))
   have i4:=qb (Ff.cell d4 (by simp))
   have i5:=qb (Ff.cell d5 (by simp))
   have i6:=qb (Ff.cell d6 (by simp))
   simp only [sel]
   repeat (go_big_quiet_step (fail))
   exact wpQuiet_nil rfl
  have HG:=q9 G
  clear d0 d1 d2 d3 d4 d5 d6 o1 G
  refine jl [3,4] (by kernel_rfl) (by simp) (fun w3 F3 i hi o ho=>?_)
  have D3:=(Fr.refl [] w2).drew.trans F3
  rcases (by simpa using hi:i=3∨i=4) with rfl | rfl
  case' inl =>
   obtain rfl:=qi ho
   clear ho hi
   go_wp2_with fail
   refine (still_any c rs ps ds ov pv dv ss R _ _ (HS.out.up (HG.out.trans D3)) HW.out.2.2.2.2.2 (by have:=HW.out.1;omega) HC0.out).mono ?_;rintro e w4 ⟨qs,hqs,pr,qr,rfl,hpr,hqr,Hr,F4⟩
   have D4:=D3.trans F4
   go_wp2_with fail
   refine ql ⟨D4,?_⟩
   refine q87 4 (by kernel_rfl) rfl rfl (fun w5 F5=>?_)
   have D5:=D4.trans F5
   have oz:=Ob.new w5 23 #[.int .i64 0,.int .i64 0,.int .i64 0,.int .i64 0]
   have FA:=(Fr.refl [] w5).alloc (.cells #[.int .i64 0,.int .i64 0,.int .i64 0,.int .i64 0] 23)
   have hbc:=D5.size
   have hne0:pr≠w5.heap.size∧qr≠w5.heap.size:=by have:=Hr.lt;have:=F5.size;omega
   go_wp2_with fail
   generalize World.alloc w5 _=w6 at *
   generalize w5.heap.size=bc at *
   refine ql ⟨D5.trans FA,?_⟩
   refine qy (k:=5) rfl (by kernel_rfl) (fun w7 F7=>?_)
   have o7:=oz.up F7
   have E7:=F5.trans (FA.trans F7)
   replace Hr:=Hr.kept E7 (by simp) (by simp)
   have G:=HG.out.trans (D4.trans E7)
  case' inr =>
   obtain rfl:=qi ho
   clear ho hi
   have oz:=Ob.new w3 23 #[.int .i64 0,.int .i64 0,.int .i64 0,.int .i64 0]
   have FA:=(Fr.refl [] w3).alloc (.cells #[.int .i64 0,.int .i64 0,.int .i64 0,.int .i64 0] 23)
   have hbc:=D3.size
   go_wp2_with fail
   generalize World.alloc w3 _=w4 at *
   generalize w3.heap.size=bc at *
   refine ql ⟨D3.trans FA,?_⟩
   refine q87 3 (by kernel_rfl) rfl rfl (fun w5 F5=>?_)
   have D5:=(D3.trans FA).trans F5
   replace oz:=oz.up F5
   go_wp2_with fail
   refine (still_any c rs ps ds ov pv dv ss R _ _ (HS.out.up (HG.out.trans D5)) HW.out.2.2.2.2.2 (by have:=HW.out.1;omega) HC0.out).mono ?_;rintro e w6 ⟨qs,hqs,pr,qr,rfl,hpr,hqr,Hr,F6⟩
   have hne0:pr≠bc∧qr≠bc:=by have:=oz.lt;omega
   go_wp2_with fail
   refine ql ⟨D5.trans F6,?_⟩
   refine qy (k:=5) rfl (by kernel_rfl) (fun w7 F7=>?_)
   have o7:=(oz.up F6).up F7
   replace Hr:=Hr.kept F7 (by simp) (by simp)
   have G:=HG.out.trans ((D5.trans F6).trans F7)
  all_goals
   have hbw:w.heap.size≤bc:=qh HG.out.size hbc
   have hbl:=o7.lt
   have hrl:=Hr.lt
   clear hpr hqr
   obtain ⟨z0,z1,z2,z3⟩:=Pl.yn o7
   have zf:=o7.frozen
   have F8:Fr [bc] w7 ((((w7.setCell ⟨bc,0,none⟩ (.int .i64 c.t)).setCell ⟨bc,1,none⟩ (.int .i64 c.c)).setCell ⟨bc,2,none⟩ (.int .i64 c.wd)).setCell ⟨bc,3,none⟩ (.int .i64 c.v)):=(((Fr.setCell (S:=[bc]) (b:=bc) _ (by simp)).setCell' (b:=bc) _ (by simp)).setCell' (b:=bc) _ (by simp)).setCell' (b:=bc) _ (by simp)
   have o8:Ob ((((w7.setCell ⟨bc,0,none⟩ (.int .i64 c.t)).setCell ⟨bc,1,none⟩ (.int .i64 c.c)).setCell ⟨bc,2,none⟩ (.int .i64 c.wd)).setCell ⟨bc,3,none⟩ (.int .i64 c.v)) bc 23 #[.int .i64 c.t,.int .i64 c.c,.int .i64 c.wd,.int .i64 c.v]:=Ob.set (i:=3) (Ob.set (i:=2) (Ob.set (i:=1) (Ob.set (i:=0) o7 (.int .i64 c.t)) (.int .i64 c.c)) (.int .i64 c.wd)) (.int .i64 c.v)
   go_wp2_with fail
   clear z0 z1 z2 z3 zf o7
   generalize World.setCell (World.setCell (World.setCell (World.setCell w7 _ _) _ _) _ _) _ _=w8 at *
   replace Hr:=Hr.kept F8 (by simpa using hne0.1) (by simpa using hne0.2)
   have G8:=G.own F8 (by simpa using hbw)
   have hbc8:=o8.lt
   have hr8:=Hr.lt
   clear F8 G hbl hrl
   have hAI:=runP_W ds HC0.out (q96 ds HW.out.2.2.2.2.2) (ps++qs)
   have hLN:=runP_len HC0.out rs ds (ps++qs)
   generalize (q7w c rs ds (ps++qs)).a=s at *
   have HAI:=q9 (qc hAI hLN)
   clear hAI hLN hqs
   obtain ⟨c0,c1,c2,c3⟩:=Pl.yn o8
   have hk:=HT.out.2.1
   refine (Pick.q98 c HC0.out k hk pr qr s _ Hr HAI.out.2).mono ?_;rintro e w10 ⟨⟨kc,rfl,hkc⟩,F10⟩
   have G10:=G8.trans F10
   have o10:=o8.up F10
   have R10:=Hr.kept F10 (by simp) (by simp)
   clear Hr F10 G8 o8 c0 c1 c2 c3 hk hbc8 hr8 hne0 hbw
   have ha1:=HT.out.2.2.1
   have hb1:=HT.out.2.2.2.1
   have hkey:=HT.out.2.2.2.2
   have HLW:=q9 (show LoW c s.l kc (max 0 (min (qw s.l (kc+1)) c.c)) (qw s.l 1) from ⟨hkc.1,hkc.2,by show (s.l.length:Int)≤20000;have:=HAI.out.2;have:=HC0.out.w2;omega,by have:=HC0.out.c2;have:=HC0.out.t1;have:=HC0.out.c16;omega,rfl,rfl⟩)
   generalize max 0 (min (qw s.l (kc+1)) c.c)=n at *
   generalize qw s.l 1=ck at *
   have HR:=q9 (qc R10 (qc G10 hkc))
   clear R10 G10 hkc
   have o11:=o10
   clear o10
   obtain ⟨c0,c1,c2,c3⟩:=Pl.yn o11
   go_wp2_with fail
   have HUV:=q9 (show min a1 b1≤max a1 b1∧0≤min a1 b1∧max a1 b1≤255 by omega)
   have HK6:=q9 (show 0≤key % 64∧key % 64≤63 by omega)
   generalize min a1 b1=lu at *
   generalize max a1 b1=lv at *
   clear c0 c1 c2 c3 ha1 hb1
   refine (through_any c HC0.out pr qr s kc n ck 0 63 lu HLW.out HAI.out.1 (by decide) _ (Dk_u.tabK HT.out.1 HR.out.2.1 (by simp)) HR.out.1).mono ?_;rintro e w11 ⟨⟨u1,rfl,r1⟩,F11⟩
   have S1:=Sq.own (f:=fT) r1
   replace o11:=o11.up F11
   have HR1:=q9 (qc (HR.out.1.kept F11 (by simp) (by simp)) (HR.out.2.1.trans F11))
   obtain ⟨c0,c1,c2,c3⟩:=Pl.yn o11
   clear r1 F11
   go_wp2_with fail
   refine (through_any c HC0.out pr qr s kc n ck 0 63 lv HLW.out HAI.out.1 (by decide) _ (Dk_u.tabK HT.out.1 HR1.out.2 (by simp)) HR1.out.1).mono ?_;rintro e w12 ⟨⟨u2,rfl,r2⟩,F12⟩
   have S2:=Sq.own (f:=fT) r2
   replace S1:=S1.up F12
   replace o11:=o11.up F12
   have HR2:=q9 (qc (HR1.out.1.kept F12 (by simp) (by simp)) (HR1.out.2.trans F12))
   clear c0 c1 c2 c3
   obtain ⟨c0,c1,c2,c3⟩:=Pl.yn o11
   clear r2 F12
   go_wp2_with fail
   refine (through_any c HC0.out pr qr s kc n ck (key % 64) (key % 64) lv HLW.out HAI.out.1 (by have:=HK6.out;omega) _ (Dk_u.tabK HT.out.1 HR2.out.2 (by simp)) HR2.out.1).mono ?_;rintro e w13 ⟨⟨u3,rfl,r3⟩,F13⟩
   have S3:=Sq.own (f:=fT) r3
   replace S1:=S1.up F13
   replace S2:=S2.up F13
   have HG3:=q9 (HR2.out.2.trans F13)
   clear c0 c1 c2 c3 o11 r3 F13 HR HR1 HR2
   have hT3:=Lm_u.most3 s.l kc ck lv n.toNat HK6.out HUV.out.2.2
   have hT1:=Lm_u.most1 s.l kc ck lu lv n.toNat HUV.out.1 HUV.out.2.2
   have hl1:=Lm_u.its_len s.l kc ck 0 63 lu n.toNat
   have hl2:=Lm_u.its_len s.l kc ck 0 63 lv n.toNat
   have hn16:n.toNat≤16:=by have:=HLW.out.n0;omega
   rw [hT3] at S3
   have HT1:=q9 (qc hT1 (qc (show _≤16 from qh hl1 hn16) (show _≤16 from qh hl2 hn16)))
   clear hT3 hT1 hl1 hl2 hn16 HLW
   generalize Lp_u.its s.l kc ck 0 63 lu n.toNat=T1 at *
   generalize Lp_u.its s.l kc ck 0 63 lv n.toNat=T2 at *
   obtain ⟨ax,cx,rfl,hcx,hmx,-⟩:=id S1
   have HS1:=q9 (qc S1 (qc S2 S3))
   clear S1 S2 S3 hcx hmx
   go_wp2_with fail
   go_loopw [19] (fun iv wr=>MoAt w13 T1.length iv wr) (fun iv _=>T1.length - (intOf iv).toNat)
   case' atStart=>exact ⟨0,rfl,Nat.zero_le _,Fr.refl _ _⟩
   obtain ⟨i,rfl,hi,F⟩:=hrel
   have HF:=q9 F
   by_cases hlt:i<T1.length
   case pos =>
    obtain ⟨x,hx⟩:∃ x,T1[i]? = some x:=⟨T1[i],List.getElem?_eq_getElem hlt⟩
    obtain ⟨hxu,y,hy,hxy⟩:=HT1.out.1 x (List.mem_of_getElem? hx)
    obtain ⟨gl,ol,rfl,x0,x1,x2⟩:=xj (HS1.out.1.up F) hx
    have hltz:(i:Int)<(T1.length:Int):=by omega
    have hi0:(0:Int)≤(i:Int):=by omega
    have hi16:i≤16:=by have:=HT1.out.2.1;omega
    have HRL:=q9 (Kp.rlatest_any T2 u2 x.k 1099511627776 wr (by have:=HT1.out.2.2;omega) (HS1.out.2.1.up F))
    rw [hy] at HRL
    have HI:=q9 (show i+1≤T1.length∧T1.length - (i+1)<T1.length - i by omega)
    have HX:=q9 (qc x0 (qc x1 x2))
    clear hx hy hi hlt F x1 x2
    go_wp2_with fail
    refine HRL.out.mono ?_;rintro e w14 ⟨rfl,F14⟩
    rw [show Kp.latV (some y) = .tuple #[.agg #[.int .i64 y.k,.int .i64 y.v,.int .i64 y.d],.bool true] from rfl]
    have F15:=F14.alloc (.cells #[.int .i64 y.k,.int .i64 y.v,.int .i64 y.d] 65)
    have o15:=Ob.new w14 65 #[.int .i64 y.k,.int .i64 y.v,.int .i64 y.d]
    have hd1:decide (y.v<x.v)=false:=decide_eq_false (by omega)
    have hd2:decide (lu<x.v)=false:=decide_eq_false (by omega)
    have hd3:decide (x.v>lu)=false:=decide_eq_false (by omega)
    clear x0 F14
    go_wp2_with fail
    generalize World.alloc w14 _=w15 at *
    generalize w14.heap.size=b15 at *
    have y1:=o15.cell (i:=1) rfl
    have z1:=F15.cell HX.out.2.1 (by simp)
    have HO:=q9 (HF.out.trans F15)
    clear o15 F15 HX
    refine Ru (by kernel_rfl) (by kernel_rfl) ?_
    have k0:=qb y1
    have k1:=qb z1
    repeat (go_big_quiet_step (fail))
    refine wpQuiet_nil ?_
    intro w16 F16
    clear k0 k1 y1 z1
    go_wp2_with fail
    go_roundw
    case rel=>exact ⟨i+1,by go_num,HI.out.1,HO.out.trans F16⟩
    case measure=>have:=HI.out;simp [intOf];omega
   obtain rfl:i=T1.length:=by omega
   have HRL:=q9 (Kp.rlatest_any T2 u2 (key % 64) 1099511627776 wr (by have:=HT1.out.2.2;omega) (HS1.out.2.1.up F))
   have S3:=HS1.out.2.2.up F
   have hk6:=HK6.out
   clear hi hlt F
   generalize hlat:latT T2 (key % 64) 1099511627776=o at *
   cases o with
   | none =>
    obtain ⟨a3,c3,rfl,-,-,-⟩:=id S3
    clear S3 hlat
    go_wp2_with fail
    refine HRL.out.mono ?_;rintro e w14 ⟨rfl,F14⟩
    rw [show Kp.latV none = .tuple #[.agg #[.int .i64 0,.int .i64 0,.int .i64 0],.bool false] from rfl]
    have F15:=HG3.out.trans (HF.out.trans (F14.alloc (.cells #[.int .i64 0,.int .i64 0,.int .i64 0] 65)))
    have HO:=q9 F15
    clear F14 F15
    simp only [Option.toList_none,List.length_nil]
    go_wp2_with fail
    refine Ru (by kernel_rfl) (by kernel_rfl) ?_
    repeat (go_big_quiet_step (fail))
    refine wpQuiet_nil ?_
    intro w16 F16
    go_wp2_with fail
    go_ret
    exact ⟨rfl,HO.out.trans F16⟩
   | some y =>
    obtain ⟨g3,o3,cap3,rfl,v0,v1,v2⟩:∃ g off,∃ cap,u3 = .slice (some ⟨g,off,none⟩) 1 cap∧wr.cell? ⟨g,off,none⟩=some (.int .i64 y.k)∧wr.cell? ⟨g,off+1,none⟩=some (.int .i64 y.v)∧wr.cell? ⟨g,off+2,none⟩=some (.int .i64 y.d):=by
     obtain ⟨a,cap,rfl,-,-,hh⟩:=S3
     obtain h0 | ⟨g,off,rfl,-,hc⟩:=hh
     ·simp at h0
     ·exact ⟨g,off,cap,rfl,by simpa using hc 0 (.int .i64 y.k) rfl,hc 1 (.int .i64 y.v) rfl,hc 2 (.int .i64 y.d) rfl⟩
    clear S3 hlat
    go_wp2_with fail
    refine HRL.out.mono ?_;rintro e w14 ⟨rfl,F14⟩
    rw [show Kp.latV (some y) = .tuple #[.agg #[.int .i64 y.k,.int .i64 y.v,.int .i64 y.d],.bool true] from rfl]
    have FA:=F14.alloc (.cells #[.int .i64 y.k,.int .i64 y.v,.int .i64 y.d] 65)
    have oy:=Ob.new w14 65 #[.int .i64 y.k,.int .i64 y.v,.int .i64 y.d]
    have ie:=Dk_u.it_eql11 y.k y.v y.d y.k y.v y.d
    simp only [beq_self_eq_true,Bool.and_self] at ie
    have v0':=FA.cell v0 (by simp)
    have v1':=FA.cell v1 (by simp)
    have v2':=FA.cell v2 (by simp)
    have HO:=q9 (HG3.out.trans (HF.out.trans FA))
    clear F14 v0 v1 v2 FA
    go_wp2_with fail
    generalize World.alloc w14 _=w15 at *
    generalize w14.heap.size=b15 at *
    have y0:=oy.cell (i:=0) rfl
    have y1:=oy.cell (i:=1) rfl
    have y2:=oy.cell (i:=2) rfl
    clear oy
    refine Ru (by kernel_rfl) (by kernel_rfl) ?_
    have k0:=qb y0
    have k1:=qb y1
    have k2:=qb y2
    have k3:=qb v0'
    have k4:=qb v1'
    have k5:=qb v2'
    repeat (go_big_quiet_step (fail))
    refine wpQuiet_nil ?_
    intro w16 F16
    clear k0 k1 k2 k3 k4 k5 y0 y1 y2 v0' v1' v2'
    go_wp2_with fail
    go_ret
    exact ⟨rfl,HO.out.trans F16⟩
end Go.Proofs.YtaccfepnhmgagaaGreatDoor.Lm_u
