/- Parts. -/
import Derived.Test.YtbddhncgemeohaaGreatDoorYad
import Derived.Test.YtbddhncgemeohaaGreatDoorYah
set_option linter.unusedVariables false
set_option linter.unusedSimpArgs false
set_option maxRecDepth 100000
set_option maxHeartbeats 12800000
namespace Go.Proofs.YtbddhncgemeohaaGreatDoor.Mx
open Go.RowKit Ar Vw
theorem wrap_add (a b:Int):wrap64 (wrap64 a+b)=wrap64 (a+b):=by unfold wrap64;omega
theorem Ke {c:Cf} (after:Int):∀ (gs:List (List It)) (at_:Int) (ms:List Int) (i:Nat) (g:List It) (m:Int),wrap64 at_=at_->gs[i]? = some g->ms[i]? = some m ->
  (Q4 c at_ after gs ms)[i]? = some ⟨wrap64 (at_+z8 c * (i:Int)),m,(g.length:Int),jv (if i+1=gs.length then after else wrap64 (at_+z8 c * ((i:Int)+1))) false,g⟩
 | [],_,_,i,g,m,_,hg,_=>by simp at hg
 | a :: r,at_,ms,i,g,m,h0,hg,hm=>by
  unfold Q4;cases i with
  | zero =>
   obtain rfl:a=g:=by simpa using hg
   have hmm:ms.headD 0=m:=by cases ms <;> simp_all
   rw [List.getElem?_cons_zero,hmm];congr 2
   ·simp [h0]
   ·congr 1;by_cases hr:r=[]
    ·subst hr;simp
    exact Gj
  | succ i =>
   rw [List.getElem?_cons_succ];have hm':ms.tail[i]? = some m:=by cases ms <;> simp_all
   rw [Ke after r (wrap64 (at_+z8 c)) ms.tail i g m (by unfold wrap64;omega) (by simpa using hg) hm'];have e1:at_+z8 c+z8 c * (i:Int)=at_+z8 c * ((i+1:Nat):Int):=by rw [Int.natCast_add,Int.mul_add];simp;omega
   have e2:at_+z8 c+z8 c * ((i:Int)+1)=at_+z8 c * (((i+1:Nat):Int)+1):=by rw [Int.natCast_add,Int.mul_add,Int.mul_add,Int.mul_add];simp;omega
   rw [wrap_add,wrap_add,e1,e2,List.length_cons];exact Gb
theorem q84 {at_ i cap:Int} (h2:0<=i) (h3:i<=1000) (h4:0<=cap) (h5:cap<=16):wrap64 (at_+wrap64 (i * (7+3 * cap)))=wrap64 (at_+(7+3 * cap) * i):=by have h6:0<=i * (7+3 * cap):=Int.mul_nonneg h2 Ly;have h7:i * (7+3 * cap)<=1000 * (7+3 * cap):=Int.mul_le_mul_of_nonneg_right h3 Ly;rw [w64 (a:=i * (7+3 * cap)) Ly Ly,Int.mul_comm]
def qe4 (at_ after sz:Int) (ms:List Int) (n:Nat) (i:Nat) (g:List It):Hd:=⟨wrap64 (at_+sz * (i:Int)),ms.getD i 0,(g.length:Int),jv (if i+1=n then after else wrap64 (at_+sz * ((i:Int)+1))) false,0,0,0,0⟩
def Uw (w:World) (cap:Nat) (at_ after sz:Int) (ms:List Int) (gs:List (List It)) (xs:List Chs):Prop:=∀ (i:Nat) (x:Chs) (g:List It),xs[i]? = some x->gs[i]? = some g ->
 x.h=qe4 at_ after sz ms gs.length i g/\∃ q,x.s=⟨some ⟨q,0,none⟩,cap,cap⟩/\Ob w q 193 ((Yg cap g).flatMap fC).toArray
theorem Uw.kept {S:List Nat} {w w':World} {cap:Nat} {at_ after sz:Int} {ms:List Int} {gs:List (List It)} {xs:List Chs} (h:Uw w cap at_ after sz ms gs xs) (f:Fr S w w') (hS:∀ b cs,b∈S->¬ Ob w b 193 cs):Uw w' cap at_ after sz ms gs xs:=fun i x g e1 e2=>by
 obtain ⟨h1,q,h2,h4⟩:=h i x g e1 e2;exact ⟨h1,q,h2,h4.kept f (fun hq=>hS q _ hq h4)⟩
theorem Uw.up {w w':World} {cap:Nat} {at_ after sz:Int} {ms:List Int} {gs:List (List It)} {xs:List Chs} (h:Uw w cap at_ after sz ms gs xs) (f:Fr [] w w'):Uw w' cap at_ after sz ms gs xs:=h.kept f Ma
theorem qc7 {w:World} {cap:Nat} {at_ after:Int} {ms:List Int} {gs:List (List It)} {done:List Chs} {c:Cf} (hc:c.c=(cap:Int)) (hcap:cap<=16) (hl:gs.length<=1000) (hd:done.length=gs.length) (hm:ms.length=gs.length)
  (hD:Uw w cap at_ after (7+3 * (cap:Int)) ms gs done):q37 w done (Q4 c (wrap64 at_) after gs ms) cap:=by
 have hsz:z8 c=7+3 * (cap:Int):=by unfold z8;rw [hc]
 refine ⟨by rw [yx,hd],fun i x n e1 e2=>?_⟩;have hi:i<gs.length:=by have:=(List.getElem?_eq_some_iff.1 e2).1;rw [yx] at this;exact this
 obtain ⟨g,hg⟩:∃ g,gs[i]? = some g:=⟨gs[i],List.getElem?_eq_getElem _⟩;obtain ⟨m,hmi⟩:∃ m,ms[i]? = some m:=⟨ms[i]'(by omega),List.getElem?_eq_getElem _⟩;obtain ⟨d1,q,d2,d4⟩:=hD i x g e1 hg;have hn:=Ke (c:=c) after gs (wrap64 at_) ms i g m (by unfold wrap64;omega) hg hmi;rw [wrap_add,wrap_add] at hn;rw [hn] at e2;obtain rfl:=qj e2;refine ⟨?_,?_⟩
 ·rw [d1];unfold qe4 qe5;rw [List.getD_eq_getElem?_getD,hmi,hsz];rfl
 ·have h5:=d4.sq Zf (by rw [Qq];omega);rw [Qq] at h5;rw [d2];exact h5
theorem q9o {AT at_ i cap:Int} (hA:AT=wrap64 (at_+(7+3 * cap) * i)):wrap64 (AT+(7+3 * cap))=wrap64 (at_+(7+3 * cap) * (i+1)):=by rw [hA,wrap_add,Int.mul_add];congr 1;omega
def Ro9 (w:World) (cap:Nat) (at_ after sz:Int) (ms:List Int) (gs:List (List It)) (u x:Value) (wr:World):Prop:=∃ (i:Nat) (done:List Chs),i<=gs.length/\x = .int .i64 (i:Nat)/\done.length=i /\
 wr.ownsRow w.heap.size 191 9 u done.length (done.flatMap fH)/\Uw wr cap at_ after sz ms gs done/\((gs.all fun g=>decide ((g.length:Int)<=(cap:Int)))=(gs.drop i).all fun g=>decide ((g.length:Int)<=(cap:Int)))/\Fr [] w wr
def Ri9 (w:World) (q:Nat) (ces:List Ce) (n:Nat) (x:Value) (wr:World):Prop:=∃ j:Nat,j<=n/\x = .int .i64 (j:Nat)/\Ob wr q 193 ((Xu ces zCe j).flatMap fC).toArray/\Fr [q] w wr
theorem q5y (c:Int) {gs:List (List It)} {i:Nat} {g:List It} (h:gs[i]? = some g):((gs.drop i).all fun g=>decide ((g.length:Int)<=c))=(decide ((g.length:Int)<=c) && ((gs.drop (i+1)).all fun g=>decide ((g.length:Int)<=c))):=by obtain ⟨h1,rfl⟩:=List.getElem?_eq_some_iff.1 h;rw [List.drop_eq_getElem_cons h1,List.all_cons]
theorem q95 {cap:Nat} {g:List It} (h:g.length<=cap):Xu (Yg cap g) zCe g.length=Yg cap g:=by
 apply List.ext_getElem?;intro j;by_cases h1:j<g.length
 ·exact q60 zCe h1 (by rw [Qq];omega)
 ·by_cases h2:j<cap
  ·rw [q5t h2,List.getElem?_eq_none (by omega:g.length<=j)];unfold Xu;rw [List.getElem?_append_right (by rw [List.length_take,Qq];omega),List.getElem?_replicate,qg (by rw [List.length_take,Qq];omega)];rfl
  rw [List.getElem?_eq_none (by rw [q9f _ _ (by rw [Qq];exact h),Qq];omega),List.getElem?_eq_none (by rw [Qq];omega)]
theorem q1b (c:Cf) (cap:Nat) (at_ after least:Int) (gs:List (List It)) (ss:List Sv) (u:Value) (w:World) (hcap:c.c=(cap:Int)) (hc1:1<=cap) (hc16:cap<=16) (hl:gs.length<=1000) (hl2:gs.flatten.length<=1000) (h:Sq fS w u ss) (hg:Gs w ss gs) :
  Calls Tryz.prog 128 #[c.val,.int .i64 at_,.int .i64 after,.int .i64 least,u] w fun e w'=>(∃ r xs,e = .returned r/\w'.ownsRow w.heap.size 191 9 r xs.length (xs.flatMap fH)/\q37 w' xs (yt c (wrap64 at_) after least gs) cap)/\Fr [] w w':=by
 obtain ⟨ct,cc,cwd,cvs⟩:=c;obtain rfl:cc=(cap:Int):=hcap;obtain ⟨av,cv,rfl,hcv,hmv,-⟩:=id h;have hsl:=hg.1;rw [hsl] at h hcv ⊢;have HCT:=qb (show yt ⟨ct,cap,cwd,cvs⟩ (wrap64 at_) after least gs=if (gs.all fun g=>decide ((g.length:Int)<=(cap:Int)))=true then Q4 ⟨ct,cap,cwd,cvs⟩ (wrap64 at_) after gs (xx least gs) else [] from rfl);have F0:=(Fr.refl [] w).alloc (.cells #[.int .i64 ct,.int .i64 (cap:Int),.int .i64 cwd,.int .i64 cvs] 23);have oc:=Ob.new w 23 #[.int .i64 ct,.int .i64 (cap:Int),.int .i64 cwd,.int .i64 cvs];have HH:=qb (qd h hg);clear h hg hsl;unfold Cf.val;go_enter Tryz.func128,Tryz.ntmps128;go_wp2_with fail;refine (q8i least gs ss _ _ hl (HH.out.1.up F0) (HH.out.2.up F0)).mono ?_;rintro e w1 ⟨⟨um,rfl,hm1⟩,F1⟩;have SM:=Sq.own (f:=fI) hm1;have FW1:=F0.trans F1;have oc1:=oc.up F1;have hms:=J2 least gs;have HMA:=qb (fun i g=>@q1t least gs i g);generalize hmsd:xx least gs=ms at *;have HML:=qb (qd hms hmsd);obtain ⟨am,cm,rfl,hcm,hmm,-⟩:=id SM;generalize hpc:w.heap.size=pc at oc1 ⊢;have HPC:=qb hpc;have HO1:=qb (qd oc1 (qd SM FW1));clear hms hmsd F0 oc F1 hm1 SM FW1 oc1 hpc;go_wp2_with fail;go_loopw [12,13] (Ro9 w1 cap at_ after (7+3 * (cap:Int)) ms gs) (fun _ x _=>gs.length - (intOf x).toNat);case atStart=>exact ⟨0,[],by omega,rfl,rfl,⟨rfl,.inl ⟨rfl,rfl⟩⟩,fun i x g e1=>by simp at e1,by simp,Fr.refl _ _⟩
 case round =>
  obtain ⟨i,done,hi,rfl,hdl,hr,hD,hall,F⟩:=hrel;by_cases hlt:i<gs.length
  ·have HI2:=qb (show i+1<=gs.length/\gs.length - (i+1)<gs.length - i by omega);have hltz:(i:Int)<(gs.length:Int):=by omega
   have hi0:(0:Int)<=(i:Int):=by omega
   obtain ⟨g,hgi⟩:∃ g,gs[i]? = some g:=⟨gs[i],List.getElem?_eq_getElem _⟩;obtain ⟨m,hmi⟩:∃ m,ms[i]? = some m:=⟨_,HMA.out i g hgi⟩;have FW:=HO1.out.2.2.trans F;obtain ⟨s,hs1,hs2,-⟩:=(HH.out.2.up FW).one hgi;obtain ⟨gb,ob,rfl,cc0⟩:=Ji (HH.out.1.up FW) hs1;rw [hs2] at cc0;rw [q5y cap hgi] at hall;obtain ⟨c0,c1,c2,c3⟩:=Pl.xj (HO1.out.1.up F);have HAL:=qb hall;have HD:=qb (qd hr (qd hD (qd F hdl)));have HGI:=qb (qd hgi hmi);clear hall hr hD F hdl hgi hmi FW;go_wp2_with fail;have k0:=qc cc0;have k1:=qc c1;refine wiq ?_;repeat (go_big_quiet_step (fail))
   refine wpQuiet_nil ?_;intro w2 F2;clear k0 k1;by_cases hfit:(cap:Int)<(g.length:Int)
   ·have hall:=HAL.out;rw [show decide ((g.length:Int)<=(cap:Int))=false by simpa using hfit,Bool.false_and] at hall;have HAL2:=qb hall;clear hall;go_wp2_with fail;go_ret;have hfin:=HCT.out;rw [HAL2.out] at hfin;simp only [Bool.false_eq_true,if_false] at hfin;refine ⟨⟨_,[],rfl,⟨rfl,.inl ⟨rfl,rfl⟩⟩,?_⟩,HO1.out.2.2.trans (HD.out.2.2.1.trans F2)⟩;rw [hfin];exact ⟨rfl,fun i x n e=>by simp at e⟩
   have hall:=HAL.out;rw [show decide ((g.length:Int)<=(cap:Int))=true by simpa using hfit,Bool.true_and] at hall;have HAL2:=qb hall;have hgl:g.length<=cap:=by omega
   clear hall c0 c1 c2 c3 cc0;go_wp2_with fail;have F12:=HD.out.2.2.1.trans F2;have HML2:=qb (show i<ms.length by rw [HML.out.1];exact hlt);have hmlz:(i:Int)<(ms.length:Int):=by have:=HML2.out;omega
   obtain ⟨gm,om,eam,cm0⟩:=Zv (HO1.out.2.1.up F12) HGI.out.2;have HO2:=qb (qd (HO1.out.1.up F12) (qd cm0 (qd (HH.out.1.up (HO1.out.2.2.trans F12)) (HH.out.2.up (HO1.out.2.2.trans F12)))));clear cm0 F12;subst eam;refine qq Me ?_;refine za [] w2 #[true,true,true,true,true,true,true,true,true,true,true,true,true,true,true,true,true,true,true,true,true,true,false] 22 1 rfl ?_;refine lpq [true,true,true,true,true,true,true,true,true,true,true,true,true,true,true,true,true,true,true,false,false,false,false] 3 ((Fr.refl _ _).drew) ?_;apply qh;refine ⟨fun wf Ff=>?_,?_⟩
   ·obtain ⟨d0,d1,d2,d3⟩:=Pl.xj (HO2.out.1.up Ff);have j0:=qc d0;have j1:=qc d1;have j2:=qc d2;have j3:=qc d3;have jm:=qc (Ff.cell HO2.out.2.1 Ma);obtain ⟨s',e1,e2,-⟩:=HO2.out.2.2.2.one HGI.out.1;rw [hs1] at e1;obtain rfl:=qj e1;obtain ⟨gb',ob',e3,c0⟩:=Ji HO2.out.2.2.1 hs1;simp only [Option.some.injEq,Addr.mk.injEq] at e3;obtain ⟨rfl,rfl,-⟩:=e3;rw [e2] at c0;have jg:=qc (Ff.cell c0 Ma);clear d0 d1 d2 d3 c0 e2;simp only [sel];repeat (go_big_quiet_step ((first | (go_at_call 39;exact Calls.in_ (Ref.X0 _ _ _ _ Ly Ly _)) | (go_at_call 60;exact Calls.in_same (Vj _ _ _)))))
    exact wpQuiet_nil rfl
   refine jc [19,21] Me Ma (fun w6 F6 mm hm o ho=>?_);have G:=((Fr.refl [] w2).drew).trans F6;clear F6;simp only [List.mem_cons,List.not_mem_nil,or_false] at hm;rcases hm with rfl | rfl
   focus
    obtain rfl:=qj ho
    clear ho
    go_wp2_with (at_make;refine Rz Zf rfl _ _ 189 rfl Tryz.underlying189 ceI zCe rfl cap rfl rfl Ly Mg ?_;intro w7 o7 F7)
    have hq:w.heap.size<=w6.heap.size:=(HO1.out.2.2.trans (HD.out.2.2.1.trans (F2.trans G))).size
    have hq2:wr.heap.size<=w6.heap.size:=(F2.trans G).size
    generalize w6.heap.size=q at *
    replace G:=G.trans F7
    clear F7
    refine qo ⟨G,?_⟩
    refine lpq [false,false,false,false,false,false,false,false,false,false,false,false,false,false,false,false,false,false,false,false,true,false,false] 1 G ?_
    apply qh
    refine ⟨fun wf Ff=>?_,?_⟩
    ·simp only [sel]
     repeat (go_big_quiet_step (fail))
     exact wpQuiet_nil rfl
    refine loq 21 (fun w8 F8=>?_)
    have o8:=o7.up F8
    replace G:=G.trans F8
    clear F8 o7
    go_wp2_with fail
    have F9:=(Fr.refl [] w8).alloc (.cells #[.int .i64 0,.int .i64 0,.int .i64 0,.int .i64 0,.int .i64 0,.int .i64 0,.int .i64 0,.int .i64 0,.slice none 0 0] 191)
    have op:=Ob.new w8 191 #[.int .i64 0,.int .i64 0,.int .i64 0,.int .i64 0,.int .i64 0,.int .i64 0,.int .i64 0,.int .i64 0,.slice none 0 0]
    have oq:=o8.up F9
    replace G:=G.trans F9
    generalize (w8.alloc (.cells #[.int .i64 0,.int .i64 0,.int .i64 0,.int .i64 0,.int .i64 0,.int .i64 0,.int .i64 0,.int .i64 0,.slice none 0 0] 191))=w9 at *
    have hp:wr.heap.size<=w8.heap.size:=by have:=o8.lt;omega
    generalize w8.heap.size=p at *
    clear F9 o8
   rotate_left
   focus
    obtain rfl:=qj ho
    clear ho
    go_wp2_with fail
    have F9:=(Fr.refl [] w6).alloc (.cells #[.int .i64 0,.int .i64 0,.int .i64 0,.int .i64 0,.int .i64 0,.int .i64 0,.int .i64 0,.int .i64 0,.slice none 0 0] 191)
    have op:=Ob.new w6 191 #[.int .i64 0,.int .i64 0,.int .i64 0,.int .i64 0,.int .i64 0,.int .i64 0,.int .i64 0,.int .i64 0,.slice none 0 0]
    have hp:wr.heap.size<=w6.heap.size:=(F2.trans G).size
    replace G:=G.trans F9
    generalize (w6.alloc (.cells #[.int .i64 0,.int .i64 0,.int .i64 0,.int .i64 0,.int .i64 0,.int .i64 0,.int .i64 0,.int .i64 0,.slice none 0 0] 191))=w8 at *
    generalize w6.heap.size=p at *
    clear F9
    refine qo ⟨G,?_⟩
    refine loq 19 (fun w5 F5=>?_)
    replace op:=op.up F5
    replace G:=G.trans F5
    clear F5
    go_wp2_with (at_make;refine Rz Zf rfl _ _ 189 rfl Tryz.underlying189 ceI zCe rfl cap rfl rfl Ly Mg ?_;intro w7 o7 F7)
    have hq:w.heap.size<=w5.heap.size:=(HO1.out.2.2.trans (HD.out.2.2.1.trans (F2.trans G))).size
    have hq2:wr.heap.size<=w5.heap.size:=(F2.trans G).size
    generalize w5.heap.size=q at *
    replace G:=G.trans F7
    replace op:=op.up F7
    clear F7
    refine qo ⟨G,?_⟩
    refine loq 20 (fun w9 F8=>?_)
    have oq:=o7.up F8
    replace op:=op.up F8
    replace G:=G.trans F8
    clear F8 o7
    go_wp2_with fail
   rotate_left
   all_goals
    refine qo ⟨G,?_⟩
    refine qy (k:=22) rfl Me (fun w10 F10=>?_)
    replace op:=op.up F10
    replace oq:=oq.up F10
    replace G:=G.trans F10
    clear F10
    have HA:=qb (q84 (at_:=at_) (show (0:Int)<=(i:Int) by omega) (show (i:Int)<=1000 by omega) (show (0:Int)<=(cap:Int) by omega) (show (cap:Int)<=16 by omega))
    generalize wrap64 (at_+wrap64 ((i:Int) * (7+3 * (cap:Int))))=AT at *
    generalize wrap64 ((i:Int) * (7+3 * (cap:Int)))=A0 at *
    have q0:w10.cell? ⟨p,0,none⟩=some (.int .i64 0):=op.cell rfl
    have q1:w10.cell? ⟨p,1,none⟩=some (.int .i64 0):=op.cell rfl
    have q2:w10.cell? ⟨p,2,none⟩=some (.int .i64 0):=op.cell rfl
    have q3:w10.cell? ⟨p,3,none⟩=some (.int .i64 0):=op.cell rfl
    have q4:w10.cell? ⟨p,4,none⟩=some (.int .i64 0):=op.cell rfl
    have q5:w10.cell? ⟨p,5,none⟩=some (.int .i64 0):=op.cell rfl
    have q6:w10.cell? ⟨p,6,none⟩=some (.int .i64 0):=op.cell rfl
    have q7:w10.cell? ⟨p,7,none⟩=some (.int .i64 0):=op.cell rfl
    have q8:w10.cell? ⟨p,8,none⟩=some (.slice none 0 0):=op.cell rfl
    have zf:=op.frozen
    have op1:Ob w10 p 191 (([zCh]:List Chs).flatMap fH).toArray:=op
    have S9:=qb2 op1 (i:=0) rfl ⟨⟨AT,m,g.length,jv after false,0,0,0,0⟩,⟨some ⟨q,0,none⟩,cap,cap⟩⟩
    simp only [Nat.zero_mul,Nat.zero_add,List.set_cons_zero] at S9
    unfold Sv.v at S9
    have HPQ:=qb (show p≠q from op.ne oq Mg)
    have HS9:=qb S9
    have FS:=fr9 (w:=w10) (b:=p) 0 1 2 3 4 5 6 7 8 (.int .i64 AT) (.int .i64 m) (.int .i64 g.length) (.int .i64 (jv after false)) (.int .i64 0) (.int .i64 0) (.int .i64 0) (.int .i64 0) (.slice (some ⟨q,0,none⟩) cap cap)
    have HQ:=qb (qd (oq.kept FS (by simpa using HPQ.out.symm)) (qd ((F2.trans G).own FS Ml) (qd hq (qd hp hq2))))
    clear S9 op1 op oq G FS hq hp hq2
    by_cases hlast:i+1<gs.length
    focus
     have hlz:(i:Int)+1<(gs.length:Int):=by omega
     have HNX:=qb (show jv (wrap64 (AT+(7+3 * (cap:Int)))) false=jv (if i+1=gs.length then after else wrap64 (at_+(7+3 * (cap:Int)) * ((i:Int)+1))) false by rw [qf Ly,q9o HA.out])
     clear hlast
     go_wp2_with fail
     generalize hwt:(((((((((w10.setCell ⟨p,0,none⟩ (.int .i64 AT)).setCell ⟨p,1,none⟩ (.int .i64 m)).setCell ⟨p,2,none⟩ (.int .i64 g.length)).setCell ⟨p,3,none⟩ (.int .i64 (jv after false))).setCell ⟨p,4,none⟩ (.int .i64 0)).setCell ⟨p,5,none⟩ (.int .i64 0)).setCell ⟨p,6,none⟩ (.int .i64 0)).setCell ⟨p,7,none⟩ (.int .i64 0)).setCell ⟨p,8,none⟩ (.slice (some ⟨q,0,none⟩) cap cap))=w11 at *
     clear hwt q0 q1 q2 q3 q4 q5 q6 q7 q8 zf
     refine qq Me ?_
     refine za [] w11 #[true,true,true,true,true,true,false,false] 6 2 rfl ?_
     refine lpq [true,true,true,true,true,true,false,false] 0 ((Fr.refl _ _).drew) ?_
     apply qh
     refine ⟨fun wf Ff=>?_,?_⟩
     ·obtain ⟨d0,d1,d2,d3⟩:=Pl.xj ((HO1.out.1.up (HD.out.2.2.1.trans HQ.out.2.1)).up Ff)
      have j0:=qc d0
      have j1:=qc d1
      have j2:=qc d2
      have j3:=qc d3
      have jp:=qc (Ff.cell (show w11.cell? ⟨p,0,none⟩=some (.int .i64 AT) from HS9.out.cell rfl) Ma)
      clear d0 d1 d2 d3
      simp only [sel]
      repeat (go_big_quiet_step ((first | (go_at_call 39;exact Calls.in_ (Ref.X0 _ _ _ _ Ly Ly _)) | (go_at_call 60;exact Calls.in_same (Vj _ _ _)))))
      exact wpQuiet_nil rfl
     refine qy (k:=6) rfl Me (fun w5 F5=>?_)
     have G:=((Fr.refl [] w11).drew).trans F5
     generalize wrap64 (AT+(7+3 * (cap:Int)))=AN at *
     generalize jv AN false=NX at *
     have o5:=HS9.out.up G
     have q3:w5.cell? ⟨p,3,none⟩=some (.int .i64 (jv after false)):=o5.cell rfl
     have zf:=o5.frozen
     have o6:=o5.seg Qj (xs:=[⟨⟨AT,m,g.length,jv after false,0,0,0,0⟩,⟨some ⟨q,0,none⟩,cap,cap⟩⟩]) (i:=0) (j:=3) (x':=⟨⟨AT,m,g.length,NX,0,0,0,0⟩,⟨some ⟨q,0,none⟩,cap,cap⟩⟩) (u:=.int .i64 NX) rfl Mg rfl
     simp only [Nat.zero_mul,Nat.zero_add,List.set_cons_zero] at o6
     have FS:Fr [p] w5 (w5.setCell ⟨p,3,none⟩ (.int .i64 NX)):=Fr.setCell _ (List.mem_singleton.2 rfl)
     have HX:=qb (qd o6 (qd ((HQ.out.1.up G).kept FS (by simpa using HPQ.out.symm)) (((HQ.out.2.1).trans G).own FS (by have:=HQ.out.2.2.2.1;simp;omega))))
     clear F5 G o5 o6 FS
     go_wp2_with fail
     generalize (w5.setCell ⟨p,3,none⟩ (.int .i64 NX))=w12 at *
     clear q3 zf
    rotate_left
    focus
     have hlz:¬ (i:Int)+1<(gs.length:Int):=by omega
     have HNX:=qb (show jv after false=jv (if i+1=gs.length then after else wrap64 (at_+(7+3 * (cap:Int)) * ((i:Int)+1))) false by rw [qg Ly])
     clear hlast
     go_wp2_with fail
     generalize hwt:(((((((((w10.setCell ⟨p,0,none⟩ (.int .i64 AT)).setCell ⟨p,1,none⟩ (.int .i64 m)).setCell ⟨p,2,none⟩ (.int .i64 g.length)).setCell ⟨p,3,none⟩ (.int .i64 (jv after false))).setCell ⟨p,4,none⟩ (.int .i64 0)).setCell ⟨p,5,none⟩ (.int .i64 0)).setCell ⟨p,6,none⟩ (.int .i64 0)).setCell ⟨p,7,none⟩ (.int .i64 0)).setCell ⟨p,8,none⟩ (.slice (some ⟨q,0,none⟩) cap cap))=w11 at *
     clear hwt q0 q1 q2 q3 q4 q5 q6 q7 q8 zf
     generalize jv after false=NX at *
     have HX:=qb (qd HS9.out (qd HQ.out.1 HQ.out.2.1))
     generalize w11=w12 at *
    rotate_left
    all_goals
     generalize wr=wo at *
     have hqw:=HQ.out.2.2.1
     have hgl0:=hgl
     have hqr:=HQ.out.2.2.2.2
     have HIN:=qb (fun (W:World) (Fj:Fr [q] w12 W)=>(show Fr [] wo W from HX.out.2.2.own Fj Ml))
     go_loopw [15] (Ri9 w12 q (Yg cap g) g.length) (fun x _=>g.length - (intOf x).toNat)
     case atStart=>exact ⟨0,by omega,rfl,by rw [q5a,Qq];exact HX.out.2.1,Fr.refl _ _⟩
     case round =>
      obtain ⟨j,hj,rfl,oj,Fj⟩:=hrel
      have Fwj:=HO1.out.2.2.trans (HD.out.2.2.1.trans (HIN.out _ Fj))
      obtain ⟨s',e1,e2,e3⟩:=(HH.out.2.up Fwj).one HGI.out.1
      rw [hs1] at e1
      obtain rfl:=qj e1
      obtain ⟨gb',ob',e4,c0⟩:=Ji (HH.out.1.up Fwj) hs1
      simp only [Option.some.injEq,Addr.mk.injEq] at e4
      obtain ⟨rfl,rfl,-⟩:=e4
      rw [e2] at c0
      have e5:Sq fT wr (.slice s.a g.length s.c) g:=by rw [<- e2];exact e3
      have HFJ:=qb (qd oj (qd Fj Fwj))
      clear oj Fj Fwj e2 e3
      by_cases hjl:j<g.length
      ·have HJ2:=qb (show j+1<=g.length/\g.length - (j+1)<g.length - j by omega)
       have hjlz:(j:Int)<(g.length:Int):=by omega
       have hj0:(0:Int)<=(j:Int):=by omega
       obtain ⟨x,hx⟩:∃ x,g[j]? = some x:=⟨g[j],List.getElem?_eq_getElem _⟩
       obtain ⟨gx,ox,ex,x0,x1,x2⟩:=xo e5 hx
       have F5:=(Fr.refl [] wr).alloc (.cells #[.int .i64 x.k,.int .i64 x.v,.int .i64 x.d] 144)
       have HO5:=qb (qd (Ob.new wr 144 #[.int .i64 x.k,.int .i64 x.v,.int .i64 x.d]) (qd (HFJ.out.1.up F5) (qd (HFJ.out.2.1.then F5) (Fr.cell F5 (HFJ.out.2.1.cell (show w12.cell? ⟨p,8,none⟩=some (.slice (some ⟨q,0,none⟩) cap cap) from HX.out.1.cell rfl) (by simpa using HPQ.out)) Ma))))
       have HCJ:=qb (show (Yg cap g)[j]? = some ⟨yg x.v,x.k,x.d⟩ by rw [q5t Ly,hx];rfl)
       have HCL:=qb (show j<(Yg cap g).length by rw [Qq];omega)
       have hjc:(j:Int)<(cap:Int):=by omega
       clear F5 hx e5
       rw [ex] at c0
       go_wp2_with fail
       generalize (wr.alloc (.cells #[.int .i64 x.k,.int .i64 x.v,.int .i64 x.d] 144))=w13 at *
       generalize wr.heap.size=pi at *
       clear c0 x0 x1 x2
       refine qq Me ?_
       refine za [] w13 #[true,true,true,true,true,true,true,true,true,true,true,false,false] 11 2 rfl ?_
       refine lpq [true,true,true,true,true,true,true,true,true,true,true,false,false] 0 ((Fr.refl _ _).drew) ?_
       apply qh
       refine ⟨fun wf Ff=>?_,?_⟩
       ·have of:=HO5.out.1.up Ff
        have j0:=qc (of.cell (i:=0) rfl)
        have j1:=qc (of.cell (i:=1) rfl)
        have j2:=qc (of.cell (i:=2) rfl)
        have j8:=qc (Ff.cell HO5.out.2.2.2 Ma)
        clear of
        simp only [sel]
        repeat (go_big_quiet_step ((go_at_call 108;exact Calls.in_same (Vq _ _))))
        exact wpQuiet_nil rfl
       refine qy (k:=11) rfl Me (fun w14 F14=>?_)
       have G14:=((Fr.refl [] w13).drew).trans F14
       have o14:=HO5.out.2.1.up G14
       have hz:=qb3 (ms:=Yg cap g) zCe (i:=j) HCL.out
       have q0:w14.cell? ⟨q,j * 3,none⟩=some (.int .i64 0):=o14.segCell Zf (i:=j) (j:=0) hz rfl
       have q1:w14.cell? ⟨q,j * 3+1,none⟩=some (.int .i64 0):=o14.segCell Zf (i:=j) (j:=1) hz rfl
       have q2:w14.cell? ⟨q,j * 3+2,none⟩=some (.int .i64 0):=o14.segCell Zf (i:=j) (j:=2) hz rfl
       have zf:=o14.frozen
       generalize yg x.v=sw at *
       have HR:=qb (qd (show Ob _ q 193 ((Xu (Yg cap g) zCe (j+1)).flatMap fC).toArray by rw [<- qa6 zCe HCJ.out];exact qba o14 hz ⟨sw,x.k,x.d⟩) (show Fr [q] w12 _ from (HO5.out.2.2.1.then G14).trans (fr3c (w:=w14) (b:=q) (j * 3) (j * 3+1) (j * 3+2) (.int .i64 sw) (.int .i64 x.k) (.int .i64 x.d))))
       clear F14 G14 o14 hz
       go_wp2_with fail
       go_roundw
       case rel=>exact ⟨j+1,HJ2.out.1,by simp,HR.out.1,HR.out.2⟩
       case measure=>exact meas rfl HJ2.out.2
      ·have hjlz:¬ (j:Int)<(g.length:Int):=by omega
       obtain rfl:j=g.length:=by omega
       rw [q95 hgl0] at HFJ
       have hfj:=HIN.out _ HFJ.out.2.1
       have op:=HX.out.1.kept HFJ.out.2.1 (by simpa using HPQ.out)
       have p0:wr.cell? ⟨p,0,none⟩=some (.int .i64 AT):=op.cell rfl
       have p1:wr.cell? ⟨p,1,none⟩=some (.int .i64 m):=op.cell rfl
       have p2:wr.cell? ⟨p,2,none⟩=some (.int .i64 g.length):=op.cell rfl
       have p3:wr.cell? ⟨p,3,none⟩=some (.int .i64 NX):=op.cell rfl
       have p4:wr.cell? ⟨p,4,none⟩=some (.int .i64 0):=op.cell rfl
       have p5:wr.cell? ⟨p,5,none⟩=some (.int .i64 0):=op.cell rfl
       have p6:wr.cell? ⟨p,6,none⟩=some (.int .i64 0):=op.cell rfl
       have p7:wr.cell? ⟨p,7,none⟩=some (.int .i64 0):=op.cell rfl
       have p8:wr.cell? ⟨p,8,none⟩=some (.slice (some ⟨q,0,none⟩) cap cap):=op.cell rfl
       have F5:=(Fr.refl [] wr).alloc (.cells #[.int .i64 AT,.int .i64 m,.int .i64 g.length,.int .i64 NX,.int .i64 0,.int .i64 0,.int .i64 0,.int .i64 0,.slice (some ⟨q,0,none⟩) cap cap] 191)
       have B5:=Go.heap_alloc_new wr (.cells #[.int .i64 AT,.int .i64 m,.int .i64 g.length,.int .i64 NX,.int .i64 0,.int .i64 0,.int .i64 0,.int .i64 0,.slice (some ⟨q,0,none⟩) cap cap] 191)
       have r5:=qp (qp HD.out.1 hfj) F5
       have HD5:=qb (qd ((HD.out.2.1.up hfj).up F5) (qd ((HD.out.2.2.1.trans hfj).trans F5) (qd (HFJ.out.1.up F5) HD.out.2.2.2)))
       have HDL:=qb (show done.length<=1000 by have:=HD.out.2.2.2;omega)
       generalize hx9:(⟨⟨AT,m,g.length,NX,0,0,0,0⟩,⟨some ⟨q,0,none⟩,cap,cap⟩⟩:Chs)=x9
       have hf9:([x9]:List Chs).flatMap fH=[.int .i64 AT,.int .i64 m,.int .i64 g.length,.int .i64 NX,.int .i64 0,.int .i64 0,.int .i64 0,.int .i64 0,.slice (some ⟨q,0,none⟩) cap cap]:=by rw [<- hx9];rfl
       have HX9:=qb hx9
       clear hx9 op hfj F5 e5
       go_wp2_with (at_builtin;go_loud (refine qw Qj rfl _ _ 176 rfl Tryz.underlying176 chI rfl (B:=w1.heap.size) u12 done rfl r5 _ [x9] rfl (Sq.block B5 hf9 rfl (Nat.le_refl _) Mm) (by have:=HDL.out;simp;omega) Mg HD5.out.2.1.size ?_;intro a6 c6 w6 r6 f6;generalize hT:done++[x9]=T at r6 ⊢))
       have hra:=HD5.out.1.kept f6 (fun b cs hb ho=>jl r5 ho Mg hb)
       have hoq:=HD5.out.2.2.1.kept f6 (fun hb=>jl r5 HD5.out.2.2.1 Mg hb)
       have hfw:=HD5.out.2.1.own f6 (zh r5)
       have hdn:Uw w6 cap at_ after (7+3 * (cap:Int)) ms gs T:=by
        rw [<- hT]
        intro i2 x2 g2 k1 k2
        by_cases hid:i2<done.length
        ·rw [List.getElem?_append_left hid] at k1
         exact hra i2 x2 g2 k1 k2
        ·have hie:i2=done.length:=by have:=(List.getElem?_eq_some_iff.1 k1).1;simp at this;omega
         subst hie
         rw [List.getElem?_append_right (Nat.le_refl _),Nat.sub_self] at k1
         obtain rfl:=qj k1
         rw [HD5.out.2.2.2,HGI.out.1] at k2
         obtain rfl:=qj k2
         rw [<- HX9.out]
         refine ⟨?_,q,rfl,hoq⟩
         unfold qe4
         rw [HD5.out.2.2.2,<- HA.out,<- HNX.out,List.getD_eq_getElem?_getD,HGI.out.2];rfl
       have HR:=qb (qd r6 (qd hdn (qd hfw (show T.length=i+1 by rw [<- hT];simp;exact HD5.out.2.2.2))))
       clear hra hoq hfw hdn r6 f6 r5 B5 hT hf9
       go_wp2_with fail
       go_roundw
       case rel=>exact ⟨i+1,T,HI2.out.1,by simp,HR.out.2.2.2,HR.out.1,HR.out.2.1,HAL2.out,HR.out.2.2.1⟩
       case measure=>exact meas rfl HI2.out.2
  ·obtain rfl:i=gs.length:=by omega
   rw [List.drop_length] at hall;have HR:=qb (qd hr (qd hD (qd hall (qd F hdl))));clear hr hD hall F hdl;go_wp2_with fail;go_ret;have hfin:=HCT.out;rw [HR.out.2.2.1] at hfin;simp only [List.all_nil,if_true] at hfin;refine ⟨⟨_,done,rfl,wu HR.out.1 HO1.out.2.2.size,?_⟩,HO1.out.2.2.trans HR.out.2.2.2.1⟩;rw [hfin];exact qc7 rfl hc16 hl HR.out.2.2.2.2 HML.out.1 HR.out.2.1
end Go.Proofs.YtbddhncgemeohaaGreatDoor.Mx
