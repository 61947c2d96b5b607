/- Parts. -/
import Derived.Test.YtleclbldlladmaaGreatVac
import Derived.Test.YtleclbldlladmaaGreatVad
set_option linter.unusedVariables false
set_option linter.unusedSimpArgs false
set_option maxRecDepth 100000
set_option maxHeartbeats 12800000
namespace Go.Proofs.YtleclbldlladmaaGreat.Mx
open Go.RowKit Ar Vw
theorem wrap_add (a b:Int):wrap64 (wrap64 a+b)=wrap64 (a+b):=by unfold wrap64;omega
theorem Kk {c:Cf} (after:Int):∀ (gs:List (List It)) (at_:Int) (ms:List Int) (i:Nat) (g:List It) (m:Int),wrap64 at_=at_->gs[i]? = some g->ms[i]? = some m ->
  (jf c at_ after gs ms)[i]? = some ⟨wrap64 (at_+z6 c * (i:Int)),m,(g.length:Int),jh (if i+1=gs.length then after else wrap64 (at_+z6 c * ((i:Int)+1))) false,g⟩
 | [],_,_,i,g,m,_,hg,_=>by simp at hg
 | a :: r,at_,ms,i,g,m,h0,hg,hm=>by
  unfold jf;cases i with
  | zero =>
   obtain rfl:a=g:=by simpa using hg
   have hmm:ms.headD 0=m:=by cases ms <;> simp_all
   rw [List.getElem?_cons_zero,hmm];congr 2
   ·simp [h0]
   ·congr 1;by_cases hr:r=[]
    ·subst hr;simp
    exact Gd
  | succ i =>
   rw [List.getElem?_cons_succ];have hm':ms.tail[i]? = some m:=by cases ms <;> simp_all
   rw [Kk after r (wrap64 (at_+z6 c)) ms.tail i g m (by unfold wrap64;omega) (by simpa using hg) hm'];have e1:at_+z6 c+z6 c * (i:Int)=at_+z6 c * ((i+1:Nat):Int):=by rw [Int.natCast_add,Int.mul_add];simp;omega
   have e2:at_+z6 c+z6 c * ((i:Int)+1)=at_+z6 c * (((i+1:Nat):Int)+1):=by rw [Int.natCast_add,Int.mul_add,Int.mul_add,Int.mul_add];simp;omega
   rw [wrap_add,wrap_add,e1,e2,List.length_cons];exact Ft
theorem q9e {at_ i cap:Int} (h2:0<=i) (h3:i<=1000) (h4:0<=cap) (h5:cap<=16):wrap64 (at_+wrap64 (i * (7+3 * cap)))=wrap64 (at_+(7+3 * cap) * i):=by have h6:0<=i * (7+3 * cap):=Int.mul_nonneg h2 Lb;have h7:i * (7+3 * cap)<=1000 * (7+3 * cap):=Int.mul_le_mul_of_nonneg_right h3 Lb;rw [w64 (a:=i * (7+3 * cap)) Lb Lb,Int.mul_comm]
def qdo (at_ after sz:Int) (ms:List Int) (n:Nat) (i:Nat) (g:List It):Hd:=⟨wrap64 (at_+sz * (i:Int)),ms.getD i 0,(g.length:Int),jh (if i+1=n then after else wrap64 (at_+sz * ((i:Int)+1))) false,0,0,0,0⟩
def Uk (w:World) (cap:Nat) (at_ after sz:Int) (ms:List Int) (gs:List (List It)) (xs:List Chs):Prop:=∀ (i:Nat) (x:Chs) (g:List It),xs[i]? = some x->gs[i]? = some g ->
 x.h=qdo at_ after sz ms gs.length i g/\∃ q,x.s=⟨some ⟨q,0,none⟩,cap,cap⟩/\Ob w q 195 ((Ym cap g).flatMap fC).toArray
theorem Uk.kept {S:List Nat} {w w':World} {cap:Nat} {at_ after sz:Int} {ms:List Int} {gs:List (List It)} {xs:List Chs} (h:Uk w cap at_ after sz ms gs xs) (f:Fr S w w') (hS:∀ b cs,b∈S->¬ Ob w b 195 cs):Uk w' cap at_ after sz ms gs xs:=fun i x g e1 e2=>by
 obtain ⟨h1,q,h2,h4⟩:=h i x g e1 e2;exact ⟨h1,q,h2,h4.kept f (fun hq=>hS q _ hq h4)⟩
theorem Uk.up {w w':World} {cap:Nat} {at_ after sz:Int} {ms:List Int} {gs:List (List It)} {xs:List Chs} (h:Uk w cap at_ after sz ms gs xs) (f:Fr [] w w'):Uk w' cap at_ after sz ms gs xs:=h.kept f Lc
theorem qbr {w:World} {cap:Nat} {at_ after:Int} {ms:List Int} {gs:List (List It)} {done:List Chs} {c:Cf} (hc:c.c=(cap:Int)) (hcap:cap<=16) (hl:gs.length<=1000) (hd:done.length=gs.length) (hm:ms.length=gs.length)
  (hD:Uk w cap at_ after (7+3 * (cap:Int)) ms gs done):q40 w done (jf c (wrap64 at_) after gs ms) cap:=by
 have hsz:z6 c=7+3 * (cap:Int):=by unfold z6;rw [hc]
 refine ⟨by rw [yp,hd],fun i x n e1 e2=>?_⟩;have hi:i<gs.length:=by have:=(List.getElem?_eq_some_iff.1 e2).1;rw [yp] at this;exact this
 obtain ⟨g,hg⟩:∃ g,gs[i]? = some g:=⟨gs[i],List.getElem?_eq_getElem _⟩;obtain ⟨m,hmi⟩:∃ m,ms[i]? = some m:=⟨ms[i]'(by omega),List.getElem?_eq_getElem _⟩;obtain ⟨d1,q,d2,d4⟩:=hD i x g e1 hg;have hn:=Kk (c:=c) after gs (wrap64 at_) ms i g m (by unfold wrap64;omega) hg hmi;rw [wrap_add,wrap_add] at hn;rw [hn] at e2;obtain rfl:=qi e2;refine ⟨?_,?_⟩
 ·rw [d1];unfold qdo qdq;rw [List.getD_eq_getElem?_getD,hmi,hsz];rfl
 ·have h5:=d4.sq Ze (by rw [Qw];omega);rw [Qw] at h5;rw [d2];exact h5
theorem q8p {AT at_ i cap:Int} (hA:AT=wrap64 (at_+(7+3 * cap) * i)):wrap64 (AT+(7+3 * cap))=wrap64 (at_+(7+3 * cap) * (i+1)):=by rw [hA,wrap_add,Int.mul_add];congr 1;omega
def Ro9 (w:World) (cap:Nat) (at_ after sz:Int) (ms:List Int) (gs:List (List It)) (u x:Value) (wr:World):Prop:=∃ (i:Nat) (done:List Chs),i<=gs.length/\x = .int .i64 (i:Nat)/\done.length=i /\
 wr.ownsRow w.heap.size 193 9 u done.length (done.flatMap fH)/\Uk wr cap at_ after sz ms gs done/\((gs.all fun g=>decide ((g.length:Int)<=(cap:Int)))=(gs.drop i).all fun g=>decide ((g.length:Int)<=(cap:Int)))/\Fr [] w wr
def Ri9 (w:World) (q:Nat) (ces:List Ce) (n:Nat) (x:Value) (wr:World):Prop:=∃ j:Nat,j<=n/\x = .int .i64 (j:Nat)/\Ob wr q 195 ((Xq ces zCe j).flatMap fC).toArray/\Fr [q] w wr
theorem q6o (c:Int) {gs:List (List It)} {i:Nat} {g:List It} (h:gs[i]? = some g):((gs.drop i).all fun g=>decide ((g.length:Int)<=c))=(decide ((g.length:Int)<=c) && ((gs.drop (i+1)).all fun g=>decide ((g.length:Int)<=c))):=by obtain ⟨h1,rfl⟩:=List.getElem?_eq_some_iff.1 h;rw [List.drop_eq_getElem_cons h1,List.all_cons]
theorem q9h {cap:Nat} {g:List It} (h:g.length<=cap):Xq (Ym cap g) zCe g.length=Ym cap g:=by
 apply List.ext_getElem?;intro j;by_cases h1:j<g.length
 ·exact q6v zCe h1 (by rw [Qw];omega)
 ·by_cases h2:j<cap
  ·rw [q65 h2,List.getElem?_eq_none (by omega:g.length<=j)];unfold Xq;rw [List.getElem?_append_right (by rw [List.length_take,Qw];omega),List.getElem?_replicate,qf (by rw [List.length_take,Qw];omega)];rfl
  rw [List.getElem?_eq_none (by rw [q86 _ _ (by rw [Qw];exact h),Qw];omega),List.getElem?_eq_none (by rw [Qw];omega)]
theorem q1c (c:Cf) (cap:Nat) (at_ after least:Int) (gs:List (List It)) (ss:List Sv) (u:Value) (w:World) (hcap:c.c=(cap:Int)) (hc1:1<=cap) (hc16:cap<=16) (hl:gs.length<=1000) (hl2:gs.flatten.length<=1000) (h:Sq fS w u ss) (hg:Gs w ss gs) :
  Calls Tryz.prog 134 #[c.val,.int .i64 at_,.int .i64 after,.int .i64 least,u] w fun e w'=>(∃ r xs,e = .returned r/\w'.ownsRow w.heap.size 193 9 r xs.length (xs.flatMap fH)/\q40 w' xs (yf c (wrap64 at_) after least gs) cap)/\Fr [] w w':=by
 obtain ⟨ct,cc,cwd,cvs⟩:=c;obtain rfl:cc=(cap:Int):=hcap;obtain ⟨av,cv,rfl,hcv,hmv,-⟩:=id h;have hsl:=hg.1;rw [hsl] at h hcv ⊢;have HCT:=q9 (show yf ⟨ct,cap,cwd,cvs⟩ (wrap64 at_) after least gs=if (gs.all fun g=>decide ((g.length:Int)<=(cap:Int)))=true then jf ⟨ct,cap,cwd,cvs⟩ (wrap64 at_) after gs (xg least gs) else [] from rfl);have F0:=(Fr.refl [] w).alloc (.cells #[.int .i64 ct,.int .i64 (cap:Int),.int .i64 cwd,.int .i64 cvs] 23);have oc:=Ob.new w 23 #[.int .i64 ct,.int .i64 (cap:Int),.int .i64 cwd,.int .i64 cvs];have HH:=q9 (qc h hg);clear h hg hsl;unfold Cf.val;go_enter Tryz.func134,Tryz.ntmps134;go_wp2_with fail;refine (q99 least gs ss _ _ hl (HH.out.1.up F0) (HH.out.2.up F0)).mono ?_;rintro e w1 ⟨⟨um,rfl,hm1⟩,F1⟩;have SM:=Sq.own (f:=fI) hm1;have FW1:=F0.trans F1;have oc1:=oc.up F1;have hms:=J0 least gs;have HMA:=q9 (fun i g=>@q27 least gs i g);generalize hmsd:xg least gs=ms at *;have HML:=q9 (qc hms hmsd);obtain ⟨am,cm,rfl,hcm,hmm,-⟩:=id SM;generalize hpc:w.heap.size=pc at oc1 ⊢;have HPC:=q9 hpc;have HO1:=q9 (qc oc1 (qc SM FW1));clear hms hmsd F0 oc F1 hm1 SM FW1 oc1 hpc;go_wp2_with fail;go_loopw [12,13] (Ro9 w1 cap at_ after (7+3 * (cap:Int)) ms gs) (fun _ x _=>gs.length - (intOf x).toNat);case atStart=>exact ⟨0,[],by omega,rfl,rfl,⟨rfl,.inl ⟨rfl,rfl⟩⟩,fun i x g e1=>by simp at e1,by simp,Fr.refl _ _⟩
 case round =>
  obtain ⟨i,done,hi,rfl,hdl,hr,hD,hall,F⟩:=hrel;by_cases hlt:i<gs.length
  ·have HI2:=q9 (show i+1<=gs.length/\gs.length - (i+1)<gs.length - i by omega);have hltz:(i:Int)<(gs.length:Int):=by omega
   have hi0:(0:Int)<=(i:Int):=by omega
   obtain ⟨g,hgi⟩:∃ g,gs[i]? = some g:=⟨gs[i],List.getElem?_eq_getElem _⟩;obtain ⟨m,hmi⟩:∃ m,ms[i]? = some m:=⟨_,HMA.out i g hgi⟩;have FW:=HO1.out.2.2.trans F;obtain ⟨s,hs1,hs2,-⟩:=(HH.out.2.up FW).one hgi;obtain ⟨gb,ob,rfl,cc0⟩:=Kv (HH.out.1.up FW) hs1;rw [hs2] at cc0;rw [q6o cap hgi] at hall;obtain ⟨c0,c1,c2,c3⟩:=Pl.yu (HO1.out.1.up F);have HAL:=q9 hall;have HD:=q9 (qc hr (qc hD (qc F hdl)));have HGI:=q9 (qc hgi hmi);clear hall hr hD F hdl hgi hmi FW;go_wp2_with fail;have k0:=qb cc0;have k1:=qb c1;refine wiq ?_;repeat (go_big_quiet_step (fail))
   refine wpQuiet_nil ?_;intro w2 F2;clear k0 k1;by_cases hfit:(cap:Int)<(g.length:Int)
   ·have hall:=HAL.out;rw [show decide ((g.length:Int)<=(cap:Int))=false by simpa using hfit,Bool.false_and] at hall;have HAL2:=q9 hall;clear hall;go_wp2_with fail;go_ret;have hfin:=HCT.out;rw [HAL2.out] at hfin;simp only [Bool.false_eq_true,if_false] at hfin;refine ⟨⟨_,[],rfl,⟨rfl,.inl ⟨rfl,rfl⟩⟩,?_⟩,HO1.out.2.2.trans (HD.out.2.2.1.trans F2)⟩;rw [hfin];exact ⟨rfl,fun i x n e=>by simp at e⟩
   have hall:=HAL.out;rw [show decide ((g.length:Int)<=(cap:Int))=true by simpa using hfit,Bool.true_and] at hall;have HAL2:=q9 hall;have hgl:g.length<=cap:=by omega
   clear hall c0 c1 c2 c3 cc0;go_wp2_with fail;have F12:=HD.out.2.2.1.trans F2;have HML2:=q9 (show i<ms.length by rw [HML.out.1];exact hlt);have hmlz:(i:Int)<(ms.length:Int):=by have:=HML2.out;omega
   obtain ⟨gm,om,eam,cm0⟩:=Zx (HO1.out.2.1.up F12) HGI.out.2;have HO2:=q9 (qc (HO1.out.1.up F12) (qc cm0 (qc (HH.out.1.up (HO1.out.2.2.trans F12)) (HH.out.2.up (HO1.out.2.2.trans F12)))));clear cm0 F12;subst eam;refine qp Le ?_;refine za [] w2 #[true,true,true,true,true,true,true,true,true,true,true,true,true,true,true,true,true,true,true,true,true,true,false] 22 1 rfl ?_;refine lpq [true,true,true,true,true,true,true,true,true,true,true,true,true,true,true,true,true,true,true,false,false,false,false] 3 ((Fr.refl _ _).drew) ?_;apply qg;refine ⟨fun wf Ff=>?_,?_⟩
   ·obtain ⟨d0,d1,d2,d3⟩:=Pl.yu (HO2.out.1.up Ff);have j0:=qb d0;have j1:=qb d1;have j2:=qb d2;have j3:=qb d3;have jm:=qb (Ff.cell HO2.out.2.1 Lc);obtain ⟨s',e1,e2,-⟩:=HO2.out.2.2.2.one HGI.out.1;rw [hs1] at e1;obtain rfl:=qi e1;obtain ⟨gb',ob',e3,c0⟩:=Kv HO2.out.2.2.1 hs1;simp only [Option.some.injEq,Addr.mk.injEq] at e3;obtain ⟨rfl,rfl,-⟩:=e3;rw [e2] at c0;have jg:=qb (Ff.cell c0 Lc);clear d0 d1 d2 d3 c0 e2;simp only [sel];repeat (go_big_quiet_step ((first | (go_at_call 18;exact Calls.in_ (Ref.Zq _ _ _ _ Lb Lb _)) | (go_at_call 66;exact Calls.in_same (Y7 _ _ _)))))
    exact wpQuiet_nil rfl
   refine jo [19,21] Le Lc (fun w6 F6 mm hm o ho=>?_);have G:=((Fr.refl [] w2).drew).trans F6;clear F6;simp only [List.mem_cons,List.not_mem_nil,or_false] at hm;rcases hm with rfl | rfl
   focus
    obtain rfl:=qi ho
    clear ho
    go_wp2_with (at_make;refine S0 Ze rfl _ _ 191 rfl Tryz.underlying191 ceI zCe rfl cap rfl rfl Lb Lg ?_;intro w7 o7 F7)
    have hq:w.heap.size<=w6.heap.size:=(HO1.out.2.2.trans (HD.out.2.2.1.trans (F2.trans G))).size
    have hq2:wr.heap.size<=w6.heap.size:=(F2.trans G).size
    generalize w6.heap.size=q at *
    replace G:=G.trans F7
    clear F7
    refine ql ⟨G,?_⟩
    refine lpq [false,false,false,false,false,false,false,false,false,false,false,false,false,false,false,false,false,false,false,false,true,false,false] 1 G ?_
    apply qg
    refine ⟨fun wf Ff=>?_,?_⟩
    ·simp only [sel]
     repeat (go_big_quiet_step (fail))
     exact wpQuiet_nil rfl
    refine loq 21 (fun w8 F8=>?_)
    have o8:=o7.up F8
    replace G:=G.trans F8
    clear F8 o7
    go_wp2_with fail
    have F9:=(Fr.refl [] w8).alloc (.cells #[.int .i64 0,.int .i64 0,.int .i64 0,.int .i64 0,.int .i64 0,.int .i64 0,.int .i64 0,.int .i64 0,.slice none 0 0] 193)
    have op:=Ob.new w8 193 #[.int .i64 0,.int .i64 0,.int .i64 0,.int .i64 0,.int .i64 0,.int .i64 0,.int .i64 0,.int .i64 0,.slice none 0 0]
    have oq:=o8.up F9
    replace G:=G.trans F9
    generalize (w8.alloc (.cells #[.int .i64 0,.int .i64 0,.int .i64 0,.int .i64 0,.int .i64 0,.int .i64 0,.int .i64 0,.int .i64 0,.slice none 0 0] 193))=w9 at *
    have hp:wr.heap.size<=w8.heap.size:=by have:=o8.lt;omega
    generalize w8.heap.size=p at *
    clear F9 o8
   rotate_left
   focus
    obtain rfl:=qi ho
    clear ho
    go_wp2_with fail
    have F9:=(Fr.refl [] w6).alloc (.cells #[.int .i64 0,.int .i64 0,.int .i64 0,.int .i64 0,.int .i64 0,.int .i64 0,.int .i64 0,.int .i64 0,.slice none 0 0] 193)
    have op:=Ob.new w6 193 #[.int .i64 0,.int .i64 0,.int .i64 0,.int .i64 0,.int .i64 0,.int .i64 0,.int .i64 0,.int .i64 0,.slice none 0 0]
    have hp:wr.heap.size<=w6.heap.size:=(F2.trans G).size
    replace G:=G.trans F9
    generalize (w6.alloc (.cells #[.int .i64 0,.int .i64 0,.int .i64 0,.int .i64 0,.int .i64 0,.int .i64 0,.int .i64 0,.int .i64 0,.slice none 0 0] 193))=w8 at *
    generalize w6.heap.size=p at *
    clear F9
    refine ql ⟨G,?_⟩
    refine loq 19 (fun w5 F5=>?_)
    replace op:=op.up F5
    replace G:=G.trans F5
    clear F5
    go_wp2_with (at_make;refine S0 Ze rfl _ _ 191 rfl Tryz.underlying191 ceI zCe rfl cap rfl rfl Lb Lg ?_;intro w7 o7 F7)
    have hq:w.heap.size<=w5.heap.size:=(HO1.out.2.2.trans (HD.out.2.2.1.trans (F2.trans G))).size
    have hq2:wr.heap.size<=w5.heap.size:=(F2.trans G).size
    generalize w5.heap.size=q at *
    replace G:=G.trans F7
    replace op:=op.up F7
    clear F7
    refine ql ⟨G,?_⟩
    refine loq 20 (fun w9 F8=>?_)
    have oq:=o7.up F8
    replace op:=op.up F8
    replace G:=G.trans F8
    clear F8 o7
    go_wp2_with fail
   rotate_left
   all_goals
    refine ql ⟨G,?_⟩
    refine qy (k:=22) rfl Le (fun w10 F10=>?_)
    replace op:=op.up F10
    replace oq:=oq.up F10
    replace G:=G.trans F10
    clear F10
    have HA:=q9 (q9e (at_:=at_) (show (0:Int)<=(i:Int) by omega) (show (i:Int)<=1000 by omega) (show (0:Int)<=(cap:Int) by omega) (show (cap:Int)<=16 by omega))
    generalize wrap64 (at_+wrap64 ((i:Int) * (7+3 * (cap:Int))))=AT at *
    generalize wrap64 ((i:Int) * (7+3 * (cap:Int)))=A0 at *
    have q0:w10.cell? ⟨p,0,none⟩=some (.int .i64 0):=op.cell rfl
    have q1:w10.cell? ⟨p,1,none⟩=some (.int .i64 0):=op.cell rfl
    have q2:w10.cell? ⟨p,2,none⟩=some (.int .i64 0):=op.cell rfl
    have q3:w10.cell? ⟨p,3,none⟩=some (.int .i64 0):=op.cell rfl
    have q4:w10.cell? ⟨p,4,none⟩=some (.int .i64 0):=op.cell rfl
    have q5:w10.cell? ⟨p,5,none⟩=some (.int .i64 0):=op.cell rfl
    have q6:w10.cell? ⟨p,6,none⟩=some (.int .i64 0):=op.cell rfl
    have q7:w10.cell? ⟨p,7,none⟩=some (.int .i64 0):=op.cell rfl
    have q8:w10.cell? ⟨p,8,none⟩=some (.slice none 0 0):=op.cell rfl
    have zf:=op.frozen
    have op1:Ob w10 p 193 (([zCh]:List Chs).flatMap fH).toArray:=op
    have S9:=qak op1 (i:=0) rfl ⟨⟨AT,m,g.length,jh after false,0,0,0,0⟩,⟨some ⟨q,0,none⟩,cap,cap⟩⟩
    simp only [Nat.zero_mul,Nat.zero_add,List.set_cons_zero] at S9
    unfold Sv.v at S9
    have HPQ:=q9 (show p≠q from op.ne oq Lg)
    have HS9:=q9 S9
    have FS:=fr9 (w:=w10) (b:=p) 0 1 2 3 4 5 6 7 8 (.int .i64 AT) (.int .i64 m) (.int .i64 g.length) (.int .i64 (jh after false)) (.int .i64 0) (.int .i64 0) (.int .i64 0) (.int .i64 0) (.slice (some ⟨q,0,none⟩) cap cap)
    have HQ:=q9 (qc (oq.kept FS (by simpa using HPQ.out.symm)) (qc ((F2.trans G).own FS Ll) (qc hq (qc hp hq2))))
    clear S9 op1 op oq G FS hq hp hq2
    by_cases hlast:i+1<gs.length
    focus
     have hlz:(i:Int)+1<(gs.length:Int):=by omega
     have HNX:=q9 (show jh (wrap64 (AT+(7+3 * (cap:Int)))) false=jh (if i+1=gs.length then after else wrap64 (at_+(7+3 * (cap:Int)) * ((i:Int)+1))) false by rw [qd Lb,q8p HA.out])
     clear hlast
     go_wp2_with fail
     generalize hwt:(((((((((w10.setCell ⟨p,0,none⟩ (.int .i64 AT)).setCell ⟨p,1,none⟩ (.int .i64 m)).setCell ⟨p,2,none⟩ (.int .i64 g.length)).setCell ⟨p,3,none⟩ (.int .i64 (jh after false))).setCell ⟨p,4,none⟩ (.int .i64 0)).setCell ⟨p,5,none⟩ (.int .i64 0)).setCell ⟨p,6,none⟩ (.int .i64 0)).setCell ⟨p,7,none⟩ (.int .i64 0)).setCell ⟨p,8,none⟩ (.slice (some ⟨q,0,none⟩) cap cap))=w11 at *
     clear hwt q0 q1 q2 q3 q4 q5 q6 q7 q8 zf
     refine qp Le ?_
     refine za [] w11 #[true,true,true,true,true,true,false,false] 6 2 rfl ?_
     refine lpq [true,true,true,true,true,true,false,false] 0 ((Fr.refl _ _).drew) ?_
     apply qg
     refine ⟨fun wf Ff=>?_,?_⟩
     ·obtain ⟨d0,d1,d2,d3⟩:=Pl.yu ((HO1.out.1.up (HD.out.2.2.1.trans HQ.out.2.1)).up Ff)
      have j0:=qb d0
      have j1:=qb d1
      have j2:=qb d2
      have j3:=qb d3
      have jp:=qb (Ff.cell (show w11.cell? ⟨p,0,none⟩=some (.int .i64 AT) from HS9.out.cell rfl) Lc)
      clear d0 d1 d2 d3
      simp only [sel]
      repeat (go_big_quiet_step ((first | (go_at_call 18;exact Calls.in_ (Ref.Zq _ _ _ _ Lb Lb _)) | (go_at_call 66;exact Calls.in_same (Y7 _ _ _)))))
      exact wpQuiet_nil rfl
     refine qy (k:=6) rfl Le (fun w5 F5=>?_)
     have G:=((Fr.refl [] w11).drew).trans F5
     generalize wrap64 (AT+(7+3 * (cap:Int)))=AN at *
     generalize jh AN false=NX at *
     have o5:=HS9.out.up G
     have q3:w5.cell? ⟨p,3,none⟩=some (.int .i64 (jh after false)):=o5.cell rfl
     have zf:=o5.frozen
     have o6:=o5.seg Qg (xs:=[⟨⟨AT,m,g.length,jh after false,0,0,0,0⟩,⟨some ⟨q,0,none⟩,cap,cap⟩⟩]) (i:=0) (j:=3) (x':=⟨⟨AT,m,g.length,NX,0,0,0,0⟩,⟨some ⟨q,0,none⟩,cap,cap⟩⟩) (u:=.int .i64 NX) rfl Lg rfl
     simp only [Nat.zero_mul,Nat.zero_add,List.set_cons_zero] at o6
     have FS:Fr [p] w5 (w5.setCell ⟨p,3,none⟩ (.int .i64 NX)):=Fr.setCell _ (List.mem_singleton.2 rfl)
     have HX:=q9 (qc o6 (qc ((HQ.out.1.up G).kept FS (by simpa using HPQ.out.symm)) (((HQ.out.2.1).trans G).own FS (by have:=HQ.out.2.2.2.1;simp;omega))))
     clear F5 G o5 o6 FS
     go_wp2_with fail
     generalize (w5.setCell ⟨p,3,none⟩ (.int .i64 NX))=w12 at *
     clear q3 zf
    rotate_left
    focus
     have hlz:¬ (i:Int)+1<(gs.length:Int):=by omega
     have HNX:=q9 (show jh after false=jh (if i+1=gs.length then after else wrap64 (at_+(7+3 * (cap:Int)) * ((i:Int)+1))) false by rw [qf Lb])
     clear hlast
     go_wp2_with fail
     generalize hwt:(((((((((w10.setCell ⟨p,0,none⟩ (.int .i64 AT)).setCell ⟨p,1,none⟩ (.int .i64 m)).setCell ⟨p,2,none⟩ (.int .i64 g.length)).setCell ⟨p,3,none⟩ (.int .i64 (jh after false))).setCell ⟨p,4,none⟩ (.int .i64 0)).setCell ⟨p,5,none⟩ (.int .i64 0)).setCell ⟨p,6,none⟩ (.int .i64 0)).setCell ⟨p,7,none⟩ (.int .i64 0)).setCell ⟨p,8,none⟩ (.slice (some ⟨q,0,none⟩) cap cap))=w11 at *
     clear hwt q0 q1 q2 q3 q4 q5 q6 q7 q8 zf
     generalize jh after false=NX at *
     have HX:=q9 (qc HS9.out (qc HQ.out.1 HQ.out.2.1))
     generalize w11=w12 at *
    rotate_left
    all_goals
     generalize wr=wo at *
     have hqw:=HQ.out.2.2.1
     have hgl0:=hgl
     have hqr:=HQ.out.2.2.2.2
     have HIN:=q9 (fun (W:World) (Fj:Fr [q] w12 W)=>(show Fr [] wo W from HX.out.2.2.own Fj Ll))
     go_loopw [15] (Ri9 w12 q (Ym cap g) g.length) (fun x _=>g.length - (intOf x).toNat)
     case atStart=>exact ⟨0,by omega,rfl,by rw [q6y,Qw];exact HX.out.2.1,Fr.refl _ _⟩
     case round =>
      obtain ⟨j,hj,rfl,oj,Fj⟩:=hrel
      have Fwj:=HO1.out.2.2.trans (HD.out.2.2.1.trans (HIN.out _ Fj))
      obtain ⟨s',e1,e2,e3⟩:=(HH.out.2.up Fwj).one HGI.out.1
      rw [hs1] at e1
      obtain rfl:=qi e1
      obtain ⟨gb',ob',e4,c0⟩:=Kv (HH.out.1.up Fwj) hs1
      simp only [Option.some.injEq,Addr.mk.injEq] at e4
      obtain ⟨rfl,rfl,-⟩:=e4
      rw [e2] at c0
      have e5:Sq fT wr (.slice s.a g.length s.c) g:=by rw [<- e2];exact e3
      have HFJ:=q9 (qc oj (qc Fj Fwj))
      clear oj Fj Fwj e2 e3
      by_cases hjl:j<g.length
      ·have HJ2:=q9 (show j+1<=g.length/\g.length - (j+1)<g.length - j by omega)
       have hjlz:(j:Int)<(g.length:Int):=by omega
       have hj0:(0:Int)<=(j:Int):=by omega
       obtain ⟨x,hx⟩:∃ x,g[j]? = some x:=⟨g[j],List.getElem?_eq_getElem _⟩
       obtain ⟨gx,ox,ex,x0,x1,x2⟩:=xk e5 hx
       have F5:=(Fr.refl [] wr).alloc (.cells #[.int .i64 x.k,.int .i64 x.v,.int .i64 x.d] 148)
       have HO5:=q9 (qc (Ob.new wr 148 #[.int .i64 x.k,.int .i64 x.v,.int .i64 x.d]) (qc (HFJ.out.1.up F5) (qc (HFJ.out.2.1.then F5) (Fr.cell F5 (HFJ.out.2.1.cell (show w12.cell? ⟨p,8,none⟩=some (.slice (some ⟨q,0,none⟩) cap cap) from HX.out.1.cell rfl) (by simpa using HPQ.out)) Lc))))
       have HCJ:=q9 (show (Ym cap g)[j]? = some ⟨vu x.v,x.k,x.d⟩ by rw [q65 Lb,hx];rfl)
       have HCL:=q9 (show j<(Ym cap g).length by rw [Qw];omega)
       have hjc:(j:Int)<(cap:Int):=by omega
       clear F5 hx e5
       rw [ex] at c0
       go_wp2_with fail
       generalize (wr.alloc (.cells #[.int .i64 x.k,.int .i64 x.v,.int .i64 x.d] 148))=w13 at *
       generalize wr.heap.size=pi at *
       clear c0 x0 x1 x2
       refine qp Le ?_
       refine za [] w13 #[true,true,true,true,true,true,true,true,true,true,true,false,false] 11 2 rfl ?_
       refine lpq [true,true,true,true,true,true,true,true,true,true,true,false,false] 0 ((Fr.refl _ _).drew) ?_
       apply qg
       refine ⟨fun wf Ff=>?_,?_⟩
       ·have of:=HO5.out.1.up Ff
        have j0:=qb (of.cell (i:=0) rfl)
        have j1:=qb (of.cell (i:=1) rfl)
        have j2:=qb (of.cell (i:=2) rfl)
        have j8:=qb (Ff.cell HO5.out.2.2.2 Lc)
        clear of
        simp only [sel]
        repeat (go_big_quiet_step ((go_at_call 114;exact Calls.in_same (Xb _ _))))
        exact wpQuiet_nil rfl
       refine qy (k:=11) rfl Le (fun w14 F14=>?_)
       have G14:=((Fr.refl [] w13).drew).trans F14
       have o14:=HO5.out.2.1.up G14
       have hz:=qbq (ms:=Ym cap g) zCe (i:=j) HCL.out
       have q0:w14.cell? ⟨q,j * 3,none⟩=some (.int .i64 0):=o14.segCell Ze (i:=j) (j:=0) hz rfl
       have q1:w14.cell? ⟨q,j * 3+1,none⟩=some (.int .i64 0):=o14.segCell Ze (i:=j) (j:=1) hz rfl
       have q2:w14.cell? ⟨q,j * 3+2,none⟩=some (.int .i64 0):=o14.segCell Ze (i:=j) (j:=2) hz rfl
       have zf:=o14.frozen
       generalize vu x.v=sw at *
       have HR:=q9 (qc (show Ob _ q 195 ((Xq (Ym cap g) zCe (j+1)).flatMap fC).toArray by rw [<- q9d zCe HCJ.out];exact qbo o14 hz ⟨sw,x.k,x.d⟩) (show Fr [q] w12 _ from (HO5.out.2.2.1.then G14).trans (fr3c (w:=w14) (b:=q) (j * 3) (j * 3+1) (j * 3+2) (.int .i64 sw) (.int .i64 x.k) (.int .i64 x.d))))
       clear F14 G14 o14 hz
       go_wp2_with fail
       go_roundw
       case rel=>exact ⟨j+1,HJ2.out.1,by simp,HR.out.1,HR.out.2⟩
       case measure=>exact meas rfl HJ2.out.2
      ·have hjlz:¬ (j:Int)<(g.length:Int):=by omega
       obtain rfl:j=g.length:=by omega
       rw [q9h hgl0] at HFJ
       have hfj:=HIN.out _ HFJ.out.2.1
       have op:=HX.out.1.kept HFJ.out.2.1 (by simpa using HPQ.out)
       have p0:wr.cell? ⟨p,0,none⟩=some (.int .i64 AT):=op.cell rfl
       have p1:wr.cell? ⟨p,1,none⟩=some (.int .i64 m):=op.cell rfl
       have p2:wr.cell? ⟨p,2,none⟩=some (.int .i64 g.length):=op.cell rfl
       have p3:wr.cell? ⟨p,3,none⟩=some (.int .i64 NX):=op.cell rfl
       have p4:wr.cell? ⟨p,4,none⟩=some (.int .i64 0):=op.cell rfl
       have p5:wr.cell? ⟨p,5,none⟩=some (.int .i64 0):=op.cell rfl
       have p6:wr.cell? ⟨p,6,none⟩=some (.int .i64 0):=op.cell rfl
       have p7:wr.cell? ⟨p,7,none⟩=some (.int .i64 0):=op.cell rfl
       have p8:wr.cell? ⟨p,8,none⟩=some (.slice (some ⟨q,0,none⟩) cap cap):=op.cell rfl
       have F5:=(Fr.refl [] wr).alloc (.cells #[.int .i64 AT,.int .i64 m,.int .i64 g.length,.int .i64 NX,.int .i64 0,.int .i64 0,.int .i64 0,.int .i64 0,.slice (some ⟨q,0,none⟩) cap cap] 193)
       have B5:=Go.heap_alloc_new wr (.cells #[.int .i64 AT,.int .i64 m,.int .i64 g.length,.int .i64 NX,.int .i64 0,.int .i64 0,.int .i64 0,.int .i64 0,.slice (some ⟨q,0,none⟩) cap cap] 193)
       have r5:=qo (qo HD.out.1 hfj) F5
       have HD5:=q9 (qc ((HD.out.2.1.up hfj).up F5) (qc ((HD.out.2.2.1.trans hfj).trans F5) (qc (HFJ.out.1.up F5) HD.out.2.2.2)))
       have HDL:=q9 (show done.length<=1000 by have:=HD.out.2.2.2;omega)
       generalize hx9:(⟨⟨AT,m,g.length,NX,0,0,0,0⟩,⟨some ⟨q,0,none⟩,cap,cap⟩⟩:Chs)=x9
       have hf9:([x9]:List Chs).flatMap fH=[.int .i64 AT,.int .i64 m,.int .i64 g.length,.int .i64 NX,.int .i64 0,.int .i64 0,.int .i64 0,.int .i64 0,.slice (some ⟨q,0,none⟩) cap cap]:=by rw [<- hx9];rfl
       have HX9:=q9 hx9
       clear hx9 op hfj F5 e5
       go_wp2_with (at_builtin;go_loud (refine qq Qg rfl _ _ 178 rfl Tryz.underlying178 chI rfl (B:=w1.heap.size) u12 done rfl r5 _ [x9] rfl (Sq.block B5 hf9 rfl (Nat.le_refl _) Lm) (by have:=HDL.out;simp;omega) Lg HD5.out.2.1.size ?_;intro a6 c6 w6 r6 f6;generalize hT:done++[x9]=T at r6 ⊢))
       have hra:=HD5.out.1.kept f6 (fun b cs hb ho=>je r5 ho Lg hb)
       have hoq:=HD5.out.2.2.1.kept f6 (fun hb=>je r5 HD5.out.2.2.1 Lg hb)
       have hfw:=HD5.out.2.1.own f6 (z8 r5)
       have hdn:Uk w6 cap at_ after (7+3 * (cap:Int)) ms gs T:=by
        rw [<- hT]
        intro i2 x2 g2 k1 k2
        by_cases hid:i2<done.length
        ·rw [List.getElem?_append_left hid] at k1
         exact hra i2 x2 g2 k1 k2
        ·have hie:i2=done.length:=by have:=(List.getElem?_eq_some_iff.1 k1).1;simp at this;omega
         subst hie
         rw [List.getElem?_append_right (Nat.le_refl _),Nat.sub_self] at k1
         obtain rfl:=qi k1
         rw [HD5.out.2.2.2,HGI.out.1] at k2
         obtain rfl:=qi k2
         rw [<- HX9.out]
         refine ⟨?_,q,rfl,hoq⟩
         unfold qdo
         rw [HD5.out.2.2.2,<- HA.out,<- HNX.out,List.getD_eq_getElem?_getD,HGI.out.2];rfl
       have HR:=q9 (qc r6 (qc hdn (qc hfw (show T.length=i+1 by rw [<- hT];simp;exact HD5.out.2.2.2))))
       clear hra hoq hfw hdn r6 f6 r5 B5 hT hf9
       go_wp2_with fail
       go_roundw
       case rel=>exact ⟨i+1,T,HI2.out.1,by simp,HR.out.2.2.2,HR.out.1,HR.out.2.1,HAL2.out,HR.out.2.2.1⟩
       case measure=>exact meas rfl HI2.out.2
  ·obtain rfl:i=gs.length:=by omega
   rw [List.drop_length] at hall;have HR:=q9 (qc hr (qc hD (qc hall (qc F hdl))));clear hr hD hall F hdl;go_wp2_with fail;go_ret;have hfin:=HCT.out;rw [HR.out.2.2.1] at hfin;simp only [List.all_nil,if_true] at hfin;refine ⟨⟨_,done,rfl,kw HR.out.1 HO1.out.2.2.size,?_⟩,HO1.out.2.2.trans HR.out.2.2.2.1⟩;rw [hfin];exact qbr rfl hc16 hl HR.out.2.2.2.2 HML.out.1 HR.out.2.1
end Go.Proofs.YtleclbldlladmaaGreat.Mx
