/- Parts. -/
import Derived.Test.YtleclbldlladmaaGreatVal
set_option linter.unusedVariables false
set_option linter.unusedSimpArgs false
set_option maxRecDepth 100000
set_option maxHeartbeats 12800000
namespace Go.Proofs.YtleclbldlladmaaGreat.Mx
open Go.RowKit Ar Ref Mp
theorem q0w {l:List It} {x:It} {k:Nat} (hk:k<=l.length) (h1:∀ i y,i<k->l[i]? = some y->y.k<x.k) (h2:∀ y,l[k]? = some y->¬ y.k<x.k) :
  X8 l x=l.take k++[x]++(if (l[k]?.any fun y=>decide (y.k=x.k))=true then l.drop (k+1) else l.drop k):=by
 induction l generalizing k with
 | nil=>simp at hk;subst hk;simp [X8]
 | cons y r ih =>
  unfold X8;cases k with
  | zero =>
   rw [qd (h2 y rfl)];by_cases e:y.k=x.k <;> simp [e]
  | succ k =>
   exact Di
theorem q8w (l:List It) (x:It):(X8 l x).length<=l.length+1:=by
 induction l with
 | nil=>simp [X8]
 | cons y r ih=>unfold X8;(repeat' split) <;> simp <;> omega
theorem q0x (l:List It) (x:It):X8 l x≠[]:=by
 cases l with
 | nil=>simp [X8]
 | cons y r=>unfold X8;(repeat' split) <;> simp
theorem Rt (m l:List It):(m.foldl X8 l).length<=l.length+m.length:=by
 induction m generalizing l with
 | nil=>simp
 | cons y r ih=>rw [List.foldl_cons];have:=ih (X8 l y);have:=q8w l y;simp;omega
def TkAt (w:World) (b bk bl:Nat) (x:Sn) (wp:Option Nat) (iv:Value) (l:List It) (u:Value) (wr:World):Prop:=∃ i iv',i<=l.length/\u = .int .i64 (i:Nat) /\
 Tp wr b { x with items:=(l.take i).foldl X8 x.items } bk wp (some bl) iv'/\Sq fT wr iv' ((l.take i).foldl X8 x.items)/\(iv'=iv\/(l.take i).foldl X8 x.items≠[]/\∀ g,g∈iv'.ownBlock.toList->w.heap.size<=g)/\Fr [b] w wr
def TiAt (items:List It) (key:Int) (wr:World) (u:Value) (w':World):Prop:=∃ k,k<=items.length/\u = .int .i64 (k:Nat)/\Fr [] wr w'/\∀ i y,i<k->items[i]? = some y->y.k<key
def qcf (w:World) (b bk bl:Nat) (x:Sn) (wp:Option Nat) (iv:Value) (l:List It) (e:Ending) (w':World):Prop:=∃ iv',e = .returned (.tuple #[])/\Tp w' b { x with items:=l.foldl X8 x.items } bk wp (some bl) iv'/\Sq fT w' iv' (l.foldl X8 x.items)/\(iv'=iv\/l.foldl X8 x.items≠[]/\∀ g,g∈iv'.ownBlock.toList->w.heap.size<=g)/\Fr [b] w w'
theorem q5m (x:Sn) (y:Lok) (b bk bl:Nat) (wp:Option Nat) (iv lv:Value) (w:World) (h:Tp w b x bk wp (some bl) iv) (hy:vh w bl (y.as lv)) (hs:Sq fT w lv y.l) (hi:Sq fT w iv x.items)
  (h1:y.l.length<=100) (h2:x.items.length<=80000000) (hb:b≠bl) (hb1:b∉lv.ownBlock.toList) (hb2:b∉iv.ownBlock.toList) :
  Calls Tryz.prog 97 #[.pointer (some ⟨b,0,none⟩)] w (qcf w b bk bl x wp iv y.l):=by
 have HY:=q9 (qc hy hs);have hlt:=Ob.lt h;obtain ⟨al,cl,hlv,-,-,-⟩:=id hs;subst hlv;clear hy hs;generalize hl:y.l=l at *;go_enter Tryz.func97,Tryz.ntmps97;go_wp2_with fail;go_loopw [2] (TkAt w b bk bl x wp iv l) (fun u _=>l.length - (intOf u).toNat);case atStart=>exact ⟨0,iv,Nat.zero_le _,rfl,h,hi,.inl rfl,Fr.refl _ _⟩
 case round =>
  obtain ⟨i,iv',hil,rfl,h,hi,hn,F⟩:=hrel
  have hbi:b∉iv'.ownBlock.toList:=by
   rcases hn with rfl | ⟨-,hn⟩
   ·exact hb2
   ·intro hx;have:=hn b hx;omega
  have HB:=q9 (show vh wr bl (y.as (.slice al l.length cl))/\Sq fT wr (.slice al l.length cl) l from ⟨Ob.kept HY.out.1 F (by simpa using Ne.symm hb),HY.out.2.kept F (by intro g hg hx;simp at hx;subst hx;exact hb1 hg)⟩);have y14:=(qx HB.out.1).2.2.2.2.2.2.2.2.2.2.2.2.2.2;rw [show (y.as (.slice al l.length cl)).lv = .slice al l.length cl from rfl] at y14;obtain ⟨-,-,-,-,-,-,-,-,-,-,c10,-,-,-,c14⟩:=zo h;unfold vg at c10;simp only at c10;by_cases hlt2:i<l.length
  ·obtain ⟨z,hz⟩:∃ z,l[i]? = some z:=⟨l[i],List.getElem?_eq_getElem hlt2⟩
   have hst:(l.take (i+1)).foldl X8 x.items=X8 ((l.take i).foldl X8 x.items) z:=by rw [List.take_add_one,hz,Option.toList_some,List.foldl_append];rfl
   have hlen:=Rt (l.take i) x.items;rw [List.length_take] at hlen;generalize (l.take i).foldl X8 x.items=its at *;have hlen2:its.length<=90000000:=by omega
   have HZ:=q9 (qc hz hst);clear hst hlen;obtain ⟨gl,ol,rfl,z0,z1,z2⟩:=xk HB.out.2 hz;clear hz;obtain ⟨ai,ci,hiv,hci,hcm,-⟩:=id hi;subst hiv;have gi:decide ((i:Int)<(l.length:Int))=true:=by simp;omega
   have HH0:=q9 (qc h F);go_wp2_with fail;go_loopw [3] (fun u w'=>TiAt its z.k wr u w') (fun u _=>its.length - (intOf u).toNat);case atStart=>exact ⟨0,Nat.zero_le _,rfl,Fr.refl _ _,by omega⟩
   case round =>
    obtain ⟨k,hk,rfl,F2,hk1⟩:=hrel;have HI:=q9 hi;by_cases hkl:k<its.length
    ·obtain ⟨yk,hyk⟩:∃ yk,its[k]? = some yk:=⟨its[k],List.getElem?_eq_getElem hkl⟩;obtain ⟨gk,ok,rfl,d0,-,-⟩:=xk (HI.out.up F2) hyk;have k10:=qb (F2.cell c10 Lc);have k14:=qb (F2.cell c14 Lc);have q14:=qb (F2.cell y14 Lc);have qz:=qb (F2.cell z0 Lc);have kd:=qb d0;have HYK:=q9 hyk;have gk1:decide ((k:Int)<(its.length:Int))=true:=by simp;omega
     by_cases q1:yk.k<z.k
     ·have g1:decide (yk.k<z.k)=true:=by simpa using q1
      have HQ:=q9 q1;clear q1 hyk d0;go_wp2_with fail;refine wiq ?_;repeat (go_big_quiet_step (fail))
      refine wpQuiet_nil ?_;intro w5 F5;have FF:=q9 (F2.trans F5);clear k10 k14 q14 qz kd F2 F5;go_wp2_with fail;go_roundw
      case rel=>exact ⟨k+1,by omega,by go_num,FF.out,fun i z hi hz=>by
       by_cases e:i=k
       ·subst e;rw [HYK.out] at hz;cases hz;exact HQ.out
       ·exact hk1 i z Lb hz⟩
      case measure=>simp [intOf];omega
     have g1:decide (yk.k<z.k)=false:=by simpa using q1
     have HQ:=q9 q1;clear q1 hyk d0;go_wp2_with fail;refine wiq ?_;repeat (go_big_quiet_step (fail))
     refine wpQuiet_nil ?_;intro w5 F5;have FF:=q9 (F2.trans F5);clear k10 k14 q14 qz kd F2 F5;have ck:ci≠k:=by omega
     have c10:=FF.out.cell c10 Lc;have c14:=FF.out.cell c14 Lc;have y14:=FF.out.cell y14 Lc;have z0:=FF.out.cell z0 Lc;obtain ⟨g',o',hgo,d0,-,-⟩:=xk (HI.out.up FF.out) HYK.out;simp only [Option.some.injEq,Addr.mk.injEq] at hgo;obtain ⟨rfl,rfl,-⟩:=hgo;have z1:=FF.out.cell z1 Lc;have z2:=FF.out.cell z2 Lc;go_wp2_with fail;have k10:=qb c10;have q14:=qb y14;have qz:=qb z0;have kd:=qb d0;clear d0;obtain ⟨mm,hmm⟩:∃ mm,its.length - k=mm+1:=⟨its.length - k - 1,by omega⟩;have gl7:decide (((mm+1:Nat):Int)>0)=true:=by simp
     rw [hmm];by_cases q2:yk.k=z.k
     ·have g2:(yk.k == z.k)=true:=by simpa using q2
      have HQ2:=q9 q2;clear q2;refine wiq ?_;repeat (go_big_quiet_step (fail))
      refine wpQuiet_nil ?_;intro w6 F6;have FG:=q9 (FF.out.trans F6);have HW5:=q9 (qc (Ob.up HH0.out.1 FG.out) (qc (HH0.out.2.then FG.out) FG.out));have HI5:=q9 (HI.out.up FG.out);replace c10:=F6.cell c10 Lc;replace c14:=F6.cell c14 Lc;replace y14:=F6.cell y14 Lc;replace z0:=F6.cell z0 Lc;replace z1:=F6.cell z1 Lc;replace z2:=F6.cell z2 Lc;clear F6 k10 q14 qz kd;by_cases hce:ci - k=1
      focus
       obtain rfl:mm=0:=by omega
       go_wp2_with fail
       have HS2:=q9 (show Sq fT w6 (.slice (some ⟨gk,ok+k * 3,none⟩) 0 0) (its.drop (k+1)) by rw [List.drop_eq_nil_of_le Lb];exact Sq.empty _ _ Lm)
      rotate_left
      focus
       go_wp2_with fail
       have HS2:=q9 (show Sq fT w6 (.slice (some ⟨gk,ok+k * 3+3,none⟩) mm (ci - k - 1)) (its.drop (k+1)) by have:=Sq.drop zh HI5.out (k+1) Lb;rw [show its.length - (k+1)=mm by omega,show ci - (k+1)=ci - k - 1 by omega,show ok+(k+1) * 3=ok+k * 3+3 by omega] at this;exact this)
      rotate_left
      all_goals
       have HT:=q9 (show (its.take k).length+(its.drop (k+1)).length<=90000000/\True/\X8 its z=its.take k++[z]++(its.drop (k+1)) from ⟨by rw [List.length_take];rw [List.length_drop];omega,trivial,by
        rw [q0w Lb hk1 (fun y hy=>by rw [HYK.out] at hy;cases hy;have:=HQ.out;omega),HYK.out]
        simp [HQ2.out]⟩)
       generalize its.drop (k+1)=T2 at HS2 HT
       have HS1:=q9 (Sq.take zh (HI5.out) k Lb)
       generalize hT1:its.take k=T1 at HS1 HT
       clear hT1
       refine qp Le ?_
       refine za [] w6 #[true,true,true,true,true,true,true,true,true,true,true,true,true,true,true,true,true,true,true,true,true,true,false,false,false] 22 3 rfl ?_
       refine ja [true,true,true,true,true,true,true,false,true,true,true,true,true,true,true,true,true,true,false,false,true,false,false,false,false] 4 (n:=101) (listed':=#[true,true,true,true,true,true,true,false,true,true,true,true,true,true,true,true,true,true,false,false,true,false,false,false,false]) rfl Le Le Le Le rfl Le (fun _ _ d _ _ h=>by cases d <;> exact h) ((Fr.refl _ w6).drew) ?_
       apply qg
       refine ⟨fun wf Ff=>?_,?_⟩
       ·have k10:=qb (Ff.cell c10 Lc)
        have k14:=qb (Ff.cell c14 Lc)
        have q14:=qb (Ff.cell y14 Lc)
        have qz0:=qb (Ff.cell z0 Lc)
        have qz1:=qb (Ff.cell z1 Lc)
        have qz2:=qb (Ff.cell z2 Lc)
        simp only [sel]
        repeat (go_big_quiet_step (fail))
        exact wpQuiet_nil rfl
       clear c10 c14 y14 z0 z1 z2
       refine jo [7,18] Le Lc (fun w10 F10 i' hi' o ho=>?_)
       have G:=(Fr.refl [] w6).drew.trans F10
       clear F10
       simp only [List.mem_cons,List.not_mem_nil,or_false] at hi'
       rcases hi' with rfl | rfl
       focus
        obtain rfl:=qi ho
        go_wp2_with (at_builtin;refine qq zh rfl _ _ 129 rfl Tryz.underlying129 itI rfl (B:=w6.heap.size) (.slice none 0 0) [] rfl ⟨rfl,.inl ⟨rfl,rfl⟩⟩ _ T1 rfl (HS1.out.up G) Lh Lg G.size ?_;intro a21 c21 w21 r21 f21)
        rw [List.nil_append] at r21
        replace G:=G.trans f21
        clear f21
        refine ql ⟨G,?_⟩
        refine loq 18 (fun w11 F11=>?_)
        have r11:=qo r21 F11
        replace G:=G.trans F11
        clear r21 F11
        go_wp2_with fail
        have F12:=(Fr.refl [] w11).alloc (.cells #[.int .i64 z.k,.int .i64 z.v,.int .i64 z.d] 148)
        have B12:=Go.heap_alloc_new w11 (.cells #[.int .i64 z.k,.int .i64 z.v,.int .i64 z.d] 148)
        have r12:=qo r11 F12
        replace G:=G.trans F12
        clear r11 F12
        refine ql ⟨G,?_⟩
        refine loq 19 (fun w13 F13=>?_)
        have r22:=qo r12 F13
        have B22:=F13.heap B12 Lc
        replace G:=G.trans F13
        clear r12 B12 F13
       rotate_left
       focus
        obtain rfl:=qi ho
        go_wp2_with fail
        have F12:=(Fr.refl [] w10).alloc (.cells #[.int .i64 z.k,.int .i64 z.v,.int .i64 z.d] 148)
        have B12:=Go.heap_alloc_new w10 (.cells #[.int .i64 z.k,.int .i64 z.v,.int .i64 z.d] 148)
        replace G:=G.trans F12
        clear F12
        refine ql ⟨G,?_⟩
        refine loq 7 (fun w11 F11=>?_)
        have B13:=F11.heap B12 Lc
        replace G:=G.trans F11
        clear B12 F11
        go_wp2_with (at_builtin;refine qq zh rfl _ _ 129 rfl Tryz.underlying129 itI rfl (B:=w6.heap.size) (.slice none 0 0) [] rfl ⟨rfl,.inl ⟨rfl,rfl⟩⟩ _ T1 rfl (HS1.out.up G) Lh Lg G.size ?_;intro a21 c21 w21 r21 f21)
        rw [List.nil_append] at r21
        have B21:=Fr.heap f21 B13 Lp
        replace G:=G.trans f21
        clear f21 B13
        refine ql ⟨G,?_⟩
        refine loq 19 (fun w13 F13=>?_)
        have r22:=qo r21 F13
        have B22:=F13.heap B21 Lc
        replace G:=G.trans F13
        clear r21 B21 F13
       rotate_left
       all_goals
        go_wp2_with (at_builtin;refine qq zh rfl _ _ 129 rfl Tryz.underlying129 itI rfl (B:=w6.heap.size) _ T1 rfl r22 _ [z] rfl (Sq.block B22 rfl rfl (Nat.le_refl _) Lm) Lh Lg G.size ?_;intro a23 c23 w23 r23 f23;generalize hT3:T1++[z]=T3 at r23 ⊢)
        replace G:=G.own f23 (z8 r22)
        clear f23 r22 B22
        refine ql ⟨G,?_⟩
        refine loq 21 (fun w14 F14=>?_)
        have r24:=qo r23 F14
        replace G:=G.trans F14
        clear r23 F14
        go_wp2_with (at_builtin;refine qq zh rfl _ _ 129 rfl Tryz.underlying129 itI rfl (B:=w6.heap.size) _ T3 rfl r24 _ T2 rfl (HS2.out.up G) Me Lg G.size ?_;intro a25 c25 w25 r25 f25;generalize hT4:T3++T2=T4 at r25 ⊢)
        replace G:=G.own f25 (z8 r24)
        clear f25 r24
        refine ql ⟨G,?_⟩
        refine qy (k:=22) rfl Le (fun w15 F15=>?_)
        have r26:=qo r25 F15
        replace G:=G.trans F15
        clear r25 F15
        have h26:=Ob.up HW5.out.1 G
        have z26:=h26.frozen
        obtain C14:=zo h26
        have HT4:=q9 (qc hT3 hT4)
        clear hT3 hT4
        have HG:=q9 (qc r26 (qc G h26))
        clear r26 G h26
        go_wp2_with fail
        go_roundw
        case rel =>
         have e26:X8 its z=T4:=by rw [HT.out.2.2,HT4.out.1,HT4.out.2]
         have hl5:=HW5.out.2.1.size
         have hob:=Ob.set HG.out.2.2 (i:=14) (.slice a25 T4.length c25)
         have hlb:=HW5.out.1.lt
         have hsq:=(Sq.own HG.out.1).kept (Fr.setCell (S:=[b]) (b:=b) (i:=14) (.slice a25 T4.length c25) Lc) (fun g hg hi=>by have:=z8 HG.out.1 g hg;simp at hi;omega)
         exact ⟨i+1,.slice a25 T4.length c25,by omega,by go_num,by rw [HZ.out.2,e26];exact hob,by rw [HZ.out.2,e26];exact hsq,.inr ⟨by rw [HZ.out.2];exact q0x _ _,fun g hg=>qh hl5 (z8 HG.out.1 g hg)⟩,(HW5.out.2.1.then HG.out.2.1).setCell' _ Lc⟩
        case measure=>simp [intOf];omega
     have g2:(yk.k == z.k)=false:=by simpa using q2
     have HQ2:=q9 q2;clear q2;refine wiq ?_;repeat (go_big_quiet_step (fail))
     refine wpQuiet_nil ?_;intro w6 F6;have FG:=q9 (FF.out.trans F6);have HW5:=q9 (qc (Ob.up HH0.out.1 FG.out) (qc (HH0.out.2.then FG.out) FG.out));have HI5:=q9 (HI.out.up FG.out);replace c10:=F6.cell c10 Lc;replace c14:=F6.cell c14 Lc;replace y14:=F6.cell y14 Lc;replace z0:=F6.cell z0 Lc;replace z1:=F6.cell z1 Lc;replace z2:=F6.cell z2 Lc;clear F6 k10 q14 qz kd;go_wp2_with fail;have HS2:=q9 (show Sq fT w6 (.slice (some ⟨gk,ok+k * 3,none⟩) (mm+1) (ci - k)) (its.drop k) by have:=Sq.drop zh HI5.out k Lb;rwa [hmm] at this)
     have HT:=q9 (show (its.take k).length+(its.drop k).length<=90000000/\True/\X8 its z=its.take k++[z]++(its.drop k) from ⟨by rw [List.length_take];rw [List.length_drop];omega,trivial,by
      rw [q0w Lb hk1 (fun y hy=>by rw [HYK.out] at hy;cases hy;have:=HQ.out;omega),HYK.out]
      simp [HQ2.out]⟩)
     generalize its.drop k=T2 at HS2 HT;have HS1:=q9 (Sq.take zh (HI5.out) k Lb);generalize hT1:its.take k=T1 at HS1 HT;clear hT1;refine qp Le ?_;refine za [] w6 #[true,true,true,true,true,true,true,true,true,true,true,true,true,true,true,true,true,true,true,true,true,true,false,false,false] 22 3 rfl ?_;refine ja [true,true,true,true,true,true,true,false,true,true,true,true,true,true,true,true,true,true,false,false,true,false,false,false,false] 4 (n:=101) (listed':=#[true,true,true,true,true,true,true,false,true,true,true,true,true,true,true,true,true,true,false,false,true,false,false,false,false]) rfl Le Le Le Le rfl Le (fun _ _ d _ _ h=>by cases d <;> exact h) ((Fr.refl _ w6).drew) ?_;apply qg;refine ⟨fun wf Ff=>?_,?_⟩
     ·have k10:=qb (Ff.cell c10 Lc);have k14:=qb (Ff.cell c14 Lc);have q14:=qb (Ff.cell y14 Lc);have qz0:=qb (Ff.cell z0 Lc);have qz1:=qb (Ff.cell z1 Lc);have qz2:=qb (Ff.cell z2 Lc);exact Ab
     clear c10 c14 y14 z0 z1 z2;refine jo [7,18] Le Lc (fun w10 F10 i' hi' o ho=>?_);have G:=(Fr.refl [] w6).drew.trans F10;clear F10;simp only [List.mem_cons,List.not_mem_nil,or_false] at hi';rcases hi' with rfl | rfl
     focus
      obtain rfl:=qi ho
      go_wp2_with (at_builtin;refine qq zh rfl _ _ 129 rfl Tryz.underlying129 itI rfl (B:=w6.heap.size) (.slice none 0 0) [] rfl ⟨rfl,.inl ⟨rfl,rfl⟩⟩ _ T1 rfl (HS1.out.up G) Lh Lg G.size ?_;intro a21 c21 w21 r21 f21)
      rw [List.nil_append] at r21
      replace G:=G.trans f21
      clear f21
      refine ql ⟨G,?_⟩
      refine loq 18 (fun w11 F11=>?_)
      have r11:=qo r21 F11
      replace G:=G.trans F11
      clear r21 F11
      go_wp2_with fail
      have F12:=(Fr.refl [] w11).alloc (.cells #[.int .i64 z.k,.int .i64 z.v,.int .i64 z.d] 148)
      have B12:=Go.heap_alloc_new w11 (.cells #[.int .i64 z.k,.int .i64 z.v,.int .i64 z.d] 148)
      have r12:=qo r11 F12
      replace G:=G.trans F12
      clear r11 F12
      refine ql ⟨G,?_⟩
      refine loq 19 (fun w13 F13=>?_)
      have r22:=qo r12 F13
      have B22:=F13.heap B12 Lc
      replace G:=G.trans F13
      clear r12 B12 F13
     rotate_left
     focus
      obtain rfl:=qi ho
      go_wp2_with fail
      have F12:=(Fr.refl [] w10).alloc (.cells #[.int .i64 z.k,.int .i64 z.v,.int .i64 z.d] 148)
      have B12:=Go.heap_alloc_new w10 (.cells #[.int .i64 z.k,.int .i64 z.v,.int .i64 z.d] 148)
      replace G:=G.trans F12
      clear F12
      refine ql ⟨G,?_⟩
      refine loq 7 (fun w11 F11=>?_)
      have B13:=F11.heap B12 Lc
      replace G:=G.trans F11
      clear B12 F11
      go_wp2_with (at_builtin;refine qq zh rfl _ _ 129 rfl Tryz.underlying129 itI rfl (B:=w6.heap.size) (.slice none 0 0) [] rfl ⟨rfl,.inl ⟨rfl,rfl⟩⟩ _ T1 rfl (HS1.out.up G) Lh Lg G.size ?_;intro a21 c21 w21 r21 f21)
      rw [List.nil_append] at r21
      have B21:=Fr.heap f21 B13 Lp
      replace G:=G.trans f21
      clear f21 B13
      refine ql ⟨G,?_⟩
      refine loq 19 (fun w13 F13=>?_)
      have r22:=qo r21 F13
      have B22:=F13.heap B21 Lc
      replace G:=G.trans F13
      clear r21 B21 F13
     rotate_left
     all_goals
      go_wp2_with (at_builtin;refine qq zh rfl _ _ 129 rfl Tryz.underlying129 itI rfl (B:=w6.heap.size) _ T1 rfl r22 _ [z] rfl (Sq.block B22 rfl rfl (Nat.le_refl _) Lm) Lh Lg G.size ?_;intro a23 c23 w23 r23 f23;generalize hT3:T1++[z]=T3 at r23 ⊢)
      replace G:=G.own f23 (z8 r22)
      clear f23 r22 B22
      refine ql ⟨G,?_⟩
      refine loq 21 (fun w14 F14=>?_)
      have r24:=qo r23 F14
      replace G:=G.trans F14
      clear r23 F14
      go_wp2_with (at_builtin;refine qq zh rfl _ _ 129 rfl Tryz.underlying129 itI rfl (B:=w6.heap.size) _ T3 rfl r24 _ T2 rfl (HS2.out.up G) Me Lg G.size ?_;intro a25 c25 w25 r25 f25;generalize hT4:T3++T2=T4 at r25 ⊢)
      replace G:=G.own f25 (z8 r24)
      clear f25 r24
      refine ql ⟨G,?_⟩
      refine qy (k:=22) rfl Le (fun w15 F15=>?_)
      have r26:=qo r25 F15
      replace G:=G.trans F15
      clear r25 F15
      have h26:=Ob.up HW5.out.1 G
      have z26:=h26.frozen
      obtain C14:=zo h26
      have HT4:=q9 (qc hT3 hT4)
      clear hT3 hT4
      have HG:=q9 (qc r26 (qc G h26))
      clear r26 G h26
      go_wp2_with fail
      go_roundw
      case rel =>
       have e26:X8 its z=T4:=by rw [HT.out.2.2,HT4.out.1,HT4.out.2]
       have hl5:=HW5.out.2.1.size
       have hob:=Ob.set HG.out.2.2 (i:=14) (.slice a25 T4.length c25)
       have hlb:=HW5.out.1.lt
       have hsq:=(Sq.own HG.out.1).kept (Fr.setCell (S:=[b]) (b:=b) (i:=14) (.slice a25 T4.length c25) Lc) (fun g hg hi=>by have:=z8 HG.out.1 g hg;simp at hi;omega)
       exact ⟨i+1,.slice a25 T4.length c25,by omega,by go_num,by rw [HZ.out.2,e26];exact hob,by rw [HZ.out.2,e26];exact hsq,.inr ⟨by rw [HZ.out.2];exact q0x _ _,fun g hg=>qh hl5 (z8 HG.out.1 g hg)⟩,(HW5.out.2.1.then HG.out.2.1).setCell' _ Lc⟩
      case measure=>simp [intOf];omega
    ·obtain rfl:k=its.length:=by omega
     have k10:=qb (F2.cell c10 Lc);have k14:=qb (F2.cell c14 Lc);have q14:=qb (F2.cell y14 Lc);have qz:=qb (F2.cell z0 Lc);have gk0:decide ((its.length:Int)<(its.length:Int))=false:=by simp
     go_wp2_with fail;refine wiq ?_;repeat (go_big_quiet_step (fail))
     refine wpQuiet_nil ?_;intro w5 F5;have FF:=q9 (F2.trans F5);clear k10 k14 q14 qz F2 F5;have c10:=FF.out.cell c10 Lc;have c14:=FF.out.cell c14 Lc;have y14:=FF.out.cell y14 Lc;have z0:=FF.out.cell z0 Lc;have z1:=FF.out.cell z1 Lc;have z2:=FF.out.cell z2 Lc;by_cases hce:ci=its.length
     focus
      subst hce
      go_wp2_with fail
      refine wiq ?_
      repeat (go_big_quiet_step (fail))
      refine wpQuiet_nil ?_
      intro w6 F6
      have FG:=q9 (FF.out.trans F6)
      have HW5:=q9 (qc (Ob.up HH0.out.1 FG.out) (qc (HH0.out.2.then FG.out) FG.out))
      have HI5:=q9 (HI.out.up FG.out)
      replace c10:=F6.cell c10 Lc
      replace c14:=F6.cell c14 Lc
      replace y14:=F6.cell y14 Lc
      replace z0:=F6.cell z0 Lc
      replace z1:=F6.cell z1 Lc
      replace z2:=F6.cell z2 Lc
      clear F6
      go_wp2_with fail
      obtain ⟨T2,hT2⟩:∃ T:List It,T=[]:=⟨[],rfl⟩
      have HS2:=q9 (show Sq fT w6 (.slice ai 0 0) T2 from hT2 ▸ Sq.empty _ _ Lm)
     rotate_left
     focus
      go_wp2_with fail
      refine wiq ?_
      repeat (go_big_quiet_step (fail))
      refine wpQuiet_nil ?_
      intro w6 F6
      have FG:=q9 (FF.out.trans F6)
      have HW5:=q9 (qc (Ob.up HH0.out.1 FG.out) (qc (HH0.out.2.then FG.out) FG.out))
      have HI5:=q9 (HI.out.up FG.out)
      replace c10:=F6.cell c10 Lc
      replace c14:=F6.cell c14 Lc
      replace y14:=F6.cell y14 Lc
      replace z0:=F6.cell z0 Lc
      replace z1:=F6.cell z1 Lc
      replace z2:=F6.cell z2 Lc
      clear F6
      go_wp2_with fail
      obtain ⟨T2,hT2⟩:∃ T:List It,T=[]:=⟨[],rfl⟩
      have HS2:=q9 (show Sq fT w6 (.slice (Option.map (fun x=>x.add (its.length * 3)) ai) 0 (ci - its.length)) T2 from hT2 ▸ Sq.empty _ _ Lb)
     rotate_left
     all_goals
      have HT:=q9 (show (its.take its.length).length+T2.length<=90000000/\True/\X8 its z=its.take its.length++[z]++T2 from ⟨by rw [hT2,List.length_take];simp;omega,trivial,by
       rw [hT2,q0w (Nat.le_refl _) hk1 (fun y hy=>by simp at hy)]
       simp⟩)
      generalize hk0:its.length=k at HS2 HT HI5 HW5 ⊢
      clear hT2
      have HS1:=q9 (Sq.take zh (HI5.out) k Lb)
      generalize hT1:its.take k=T1 at HS1 HT
      clear hT1
      refine qp Le ?_
      refine za [] w6 #[true,true,true,true,true,true,true,true,true,true,true,true,true,true,true,true,true,true,true,true,true,true,false,false,false] 22 3 rfl ?_
      refine ja [true,true,true,true,true,true,true,false,true,true,true,true,true,true,true,true,true,true,false,false,true,false,false,false,false] 4 (n:=101) (listed':=#[true,true,true,true,true,true,true,false,true,true,true,true,true,true,true,true,true,true,false,false,true,false,false,false,false]) rfl Le Le Le Le rfl Le (fun _ _ d _ _ h=>by cases d <;> exact h) ((Fr.refl _ w6).drew) ?_
      apply qg
      refine ⟨fun wf Ff=>?_,?_⟩
      ·have k10:=qb (Ff.cell c10 Lc)
       have k14:=qb (Ff.cell c14 Lc)
       have q14:=qb (Ff.cell y14 Lc)
       have qz0:=qb (Ff.cell z0 Lc)
       have qz1:=qb (Ff.cell z1 Lc)
       have qz2:=qb (Ff.cell z2 Lc)
       simp only [sel]
       repeat (go_big_quiet_step (fail))
       exact wpQuiet_nil rfl
      clear c10 c14 y14 z0 z1 z2
      refine jo [7,18] Le Lc (fun w10 F10 i' hi' o ho=>?_)
      have G:=(Fr.refl [] w6).drew.trans F10
      clear F10
      simp only [List.mem_cons,List.not_mem_nil,or_false] at hi'
      rcases hi' with rfl | rfl
      focus
       obtain rfl:=qi ho
       go_wp2_with (at_builtin;refine qq zh rfl _ _ 129 rfl Tryz.underlying129 itI rfl (B:=w6.heap.size) (.slice none 0 0) [] rfl ⟨rfl,.inl ⟨rfl,rfl⟩⟩ _ T1 rfl (HS1.out.up G) Lh Lg G.size ?_;intro a21 c21 w21 r21 f21)
       rw [List.nil_append] at r21
       replace G:=G.trans f21
       clear f21
       refine ql ⟨G,?_⟩
       refine loq 18 (fun w11 F11=>?_)
       have r11:=qo r21 F11
       replace G:=G.trans F11
       clear r21 F11
       go_wp2_with fail
       have F12:=(Fr.refl [] w11).alloc (.cells #[.int .i64 z.k,.int .i64 z.v,.int .i64 z.d] 148)
       have B12:=Go.heap_alloc_new w11 (.cells #[.int .i64 z.k,.int .i64 z.v,.int .i64 z.d] 148)
       have r12:=qo r11 F12
       replace G:=G.trans F12
       clear r11 F12
       refine ql ⟨G,?_⟩
       refine loq 19 (fun w13 F13=>?_)
       have r22:=qo r12 F13
       have B22:=F13.heap B12 Lc
       replace G:=G.trans F13
       clear r12 B12 F13
      rotate_left
      focus
       obtain rfl:=qi ho
       go_wp2_with fail
       have F12:=(Fr.refl [] w10).alloc (.cells #[.int .i64 z.k,.int .i64 z.v,.int .i64 z.d] 148)
       have B12:=Go.heap_alloc_new w10 (.cells #[.int .i64 z.k,.int .i64 z.v,.int .i64 z.d] 148)
       replace G:=G.trans F12
       clear F12
       refine ql ⟨G,?_⟩
       refine loq 7 (fun w11 F11=>?_)
       have B13:=F11.heap B12 Lc
       replace G:=G.trans F11
       clear B12 F11
       go_wp2_with (at_builtin;refine qq zh rfl _ _ 129 rfl Tryz.underlying129 itI rfl (B:=w6.heap.size) (.slice none 0 0) [] rfl ⟨rfl,.inl ⟨rfl,rfl⟩⟩ _ T1 rfl (HS1.out.up G) Lh Lg G.size ?_;intro a21 c21 w21 r21 f21)
       rw [List.nil_append] at r21
       have B21:=Fr.heap f21 B13 Lp
       replace G:=G.trans f21
       clear f21 B13
       refine ql ⟨G,?_⟩
       refine loq 19 (fun w13 F13=>?_)
       have r22:=qo r21 F13
       have B22:=F13.heap B21 Lc
       replace G:=G.trans F13
       clear r21 B21 F13
      rotate_left
      all_goals
       go_wp2_with (at_builtin;refine qq zh rfl _ _ 129 rfl Tryz.underlying129 itI rfl (B:=w6.heap.size) _ T1 rfl r22 _ [z] rfl (Sq.block B22 rfl rfl (Nat.le_refl _) Lm) Lh Lg G.size ?_;intro a23 c23 w23 r23 f23;generalize hT3:T1++[z]=T3 at r23 ⊢)
       replace G:=G.own f23 (z8 r22)
       clear f23 r22 B22
       refine ql ⟨G,?_⟩
       refine loq 21 (fun w14 F14=>?_)
       have r24:=qo r23 F14
       replace G:=G.trans F14
       clear r23 F14
       go_wp2_with (at_builtin;refine qq zh rfl _ _ 129 rfl Tryz.underlying129 itI rfl (B:=w6.heap.size) _ T3 rfl r24 _ T2 rfl (HS2.out.up G) Me Lg G.size ?_;intro a25 c25 w25 r25 f25;generalize hT4:T3++T2=T4 at r25 ⊢)
       replace G:=G.own f25 (z8 r24)
       clear f25 r24
       refine ql ⟨G,?_⟩
       refine qy (k:=22) rfl Le (fun w15 F15=>?_)
       have r26:=qo r25 F15
       replace G:=G.trans F15
       clear r25 F15
       have h26:=Ob.up HW5.out.1 G
       have z26:=h26.frozen
       obtain C14:=zo h26
       have HT4:=q9 (qc hT3 hT4)
       clear hT3 hT4
       have HG:=q9 (qc r26 (qc G h26))
       clear r26 G h26
       go_wp2_with fail
       go_roundw
       case rel =>
        have e26:X8 its z=T4:=by rw [HT.out.2.2,HT4.out.1,HT4.out.2]
        have hl5:=HW5.out.2.1.size
        have hob:=Ob.set HG.out.2.2 (i:=14) (.slice a25 T4.length c25)
        have hlb:=HW5.out.1.lt
        have hsq:=(Sq.own HG.out.1).kept (Fr.setCell (S:=[b]) (b:=b) (i:=14) (.slice a25 T4.length c25) Lc) (fun g hg hi=>by have:=z8 HG.out.1 g hg;simp at hi;omega)
        exact ⟨i+1,.slice a25 T4.length c25,by omega,by go_num,by rw [HZ.out.2,e26];exact hob,by rw [HZ.out.2,e26];exact hsq,.inr ⟨by rw [HZ.out.2];exact q0x _ _,fun g hg=>qh hl5 (z8 HG.out.1 g hg)⟩,(HW5.out.2.1.then HG.out.2.1).setCell' _ Lc⟩
       case measure=>simp [intOf];omega
  ·obtain rfl:i=l.length:=by omega
   rw [List.take_length] at h hi hn;have HH:=q9 (qc h (qc hi (qc hn F)));clear h hi hn F;go_wp2_with fail;go_end0;exact ⟨iv',rfl,HH.out.1,HH.out.2.1,HH.out.2.2.1,HH.out.2.2.2⟩
end Go.Proofs.YtleclbldlladmaaGreat.Mx
