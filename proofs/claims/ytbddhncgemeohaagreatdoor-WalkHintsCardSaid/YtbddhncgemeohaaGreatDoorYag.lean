/- Parts. -/
import Derived.Test.YtbddhncgemeohaaGreatDoorYaa
import Derived.Test.YtbddhncgemeohaaGreatDoorYad
import Derived.Test.YtbddhncgemeohaaGreatDoorYaf
import Derived.ChangeKeysEq
set_option linter.unusedVariables false
set_option linter.unusedSimpArgs false
set_option maxRecDepth 100000
set_option maxHeartbeats 12800000
namespace Go.Proofs.YtbddhncgemeohaaGreatDoor.Mx
open Go.RowKit Ar
structure It where
 k:Int
 v:Int
 d:Int
deriving DecidableEq
def fT (x:It):List Value:=[.int .i64 x.k,.int .i64 x.v,.int .i64 x.d]
theorem zk:Lays fT 3:=⟨fun _=>rfl,fun x u hu=>by simp [fT] at hu;rcases hu with rfl | rfl | rfl <;> rfl,by decide⟩
theorem itI:(Tryz.prog.info? 144).map (fun i=>(i.zero,i.size,i.bytes))=some (some (.agg #[.int .i64 0,.int .i64 0,.int .i64 0]),3,24):=by kernel_rfl
def gtT (y x:It):Bool:=decide (y.k>x.k) || ((y.k == x.k) && decide (y.v>x.v))
def Yd (out:List It) (x:It):Nat->Nat
 | 0=>0
 | k+1=>if (out[k]?.any fun y=>gtT y x)=true then Yd out x k else k+1
def Tn (out:List It) (x:It):List It:=out.take (Yd out x out.length)++[x]++out.drop (Yd out x out.length)
def Ze (l:List It):List It:=l.foldl Tn []
theorem Sw {out:List It} {x y:It} {j:Nat} (hy:out[j]? = some y):Yd out x (j+1)=if gtT y x=true then Yd out x j else j+1:=by simp only [Yd,hy,Option.any_some]
theorem q5x (out:List It) (x:It) (k:Nat):Yd out x k<=k:=by
 induction k with
 | zero=>exact Nat.le_refl _
 | succ k ih=>unfold Yd;split <;> omega
theorem q0u (out:List It) (x:It):(Tn out x).length=out.length+1:=by unfold Tn;have:=q5x out x out.length;simp;omega
theorem Xi (l:List It):(Ze l).length=l.length:=by
 unfold Ze;suffices h:∀ (l out:List It),(l.foldl Tn out).length=out.length+l.length by have:=h l [];simpa using this
 intro l;induction l with
 | nil=>intro out;rfl
 | cons x l ih=>intro out;rw [List.foldl_cons,ih,q0u,List.length_cons];omega
theorem xo {w:World} {a:Option Addr} {n cap i:Nat} {xs:List It} {x:It} (h:Sq fT w (.slice a n cap) xs) (hi:xs[i]? = some x) :
  ∃ g off,a=some ⟨g,off,none⟩/\w.cell? ⟨g,off+i * 3,none⟩=some (.int .i64 x.k)/\w.cell? ⟨g,off+i * 3+1,none⟩=some (.int .i64 x.v)/\w.cell? ⟨g,off+i * 3+2,none⟩=some (.int .i64 x.d):=by
 obtain ⟨-,g,off,rfl,hc⟩:=Sq.cell zk h hi;exact I2
def SrtAt (w:World) (l:List It) (u x:Value) (wr:World):Prop:=∃ i,i<=l.length/\x = .int .i64 (i:Nat)/\wr.ownsRow w.heap.size 144 3 u (Ze (l.take i)).length ((Ze (l.take i)).flatMap fT)/\Fr [] w wr
def PosAt (wr:World) (out:List It) (x:It) (u:Value) (w':World):Prop:=∃ k,k<=out.length/\u = .int .i64 (k:Nat)/\Fr [] wr w'/\Yd out x out.length=Yd out x k
theorem q9z (l:List It) (v:Value) (w:World) (hl:l.length<=1000) (h:Sq fT w v l) :
  Calls Tryz.prog 141 #[v] w fun e w'=>(∃ u,e = .returned u/\w'.ownsRow w.heap.size 144 3 u (Ze l).length ((Ze l).flatMap fT))/\Fr [] w w':=by
 obtain ⟨a,cap,rfl,hcap,hmax,-⟩:=id h;go_enter Tryz.func141,Tryz.ntmps141;go_wp2_with fail;go_loopw [3,4] (SrtAt w l) (fun _ x _=>l.length - (intOf x).toNat);case atStart=>exact ⟨0,by omega,rfl,⟨rfl,.inl ⟨rfl,rfl⟩⟩,Fr.refl _ _⟩
 case round =>
  obtain ⟨i,hi,rfl,hr,F⟩:=hrel;by_cases hlt:i<l.length
  ·obtain ⟨x,hx⟩:∃ x,l[i]? = some x:=⟨l[i],List.getElem?_eq_getElem hlt⟩;have hso:=Xi (l.take i)
   have hnx:Ze (l.take (i+1))=Tn (Ze (l.take i)) x:=by unfold Ze;exact Hl
   generalize Ze (l.take i)=out at *;have hol:out.length<=1000:=by rw [hso,List.length_take];omega
   obtain ⟨ao,co,rfl,hco,hcm,-⟩:=id (Sq.own (f:=fT) hr);have HO:=Sq.own (f:=fT) hr;have HN:=qb (qd hnx hol);clear hnx hso;go_wp2_with fail;go_loopw [5] (PosAt wr out x) (fun u _=>(intOf u).toNat);case atStart=>exact ⟨out.length,Nat.le_refl _,rfl,Fr.refl _ _,rfl⟩
   case round =>
    obtain ⟨k,hk,rfl,F2,hp⟩:=hrel;rcases k with _ | j
    ·obtain ⟨gl,ol,rfl,-,-,-⟩:=xo (h.up (F.trans F2)) hx;by_cases h00:out.length=0
     ·obtain rfl:out=[]:=List.eq_nil_of_length_eq_zero h00;go_wp2_with fail;refine wiq ?_;repeat (go_big_quiet_step (fail))
      refine wpQuiet_nil ?_;intro w5 F5;go_wp2_with fail;have FW:=(F.trans F2).trans F5;have HO5:=HO.up (F2.trans F5);have HL5:=qb (h.up FW);refine ze Me [] (fun w2 F2'=>?_);refine epq [true,true,true,false,true,true,true,true,false,false,true,true,true,false,false] 5 F2' ?_;apply qh;refine ⟨fun wf Ff=>?_,?_⟩
      ·exact Ir
      have HS1:=qb (Sq.empty (f:=fT) w5 ao hcm);have HS2:=qb (Sq.empty (f:=fT) w5 ao hcm);have HT:=qb (show ([]:List It).length<=1000/\([]:List It).length<=1000/\Tn [] x=[]++[x]++[] from ⟨by simp,by simp,rfl⟩);refine jh [3,8] Me Ma (fun w10 F10 m hm o ho=>?_);have G:=F2'.trans F10;clear F10 F2';simp only [List.mem_cons,List.not_mem_nil,or_false] at hm;rcases hm with rfl | rfl
      focus
       obtain rfl:=qj ho
       have S1':=HS1.out.up G
       go_wp2_with (at_builtin;refine qw zk rfl _ _ 125 rfl Tryz.underlying125 itI rfl (B:=w5.heap.size) (.slice none 0 0) [] rfl ⟨rfl,.inl ⟨rfl,rfl⟩⟩ _ ([]:List It) rfl S1' Ms Mg G.size ?_;intro a21 c21 w21 r21 f21)
       rw [List.nil_append] at r21
       replace G:=G.trans f21
       clear f21 S1'
       refine qo ⟨G,?_⟩
       refine eoq 8 (fun w11 F11=>?_)
       have r11:=qp r21 F11
       replace G:=G.trans F11
       clear r21 F11
       go_wp2_with fail
       have F12:=(Fr.refl [] w11).alloc (.cells #[.int .i64 x.k,.int .i64 x.v,.int .i64 x.d] 144)
       have B21:=Go.heap_alloc_new w11 (.cells #[.int .i64 x.k,.int .i64 x.v,.int .i64 x.d] 144)
       have r21:=qp r11 F12
       replace G:=G.trans F12
       clear r11 F12 ho
      rotate_left
      focus
       obtain rfl:=qj ho
       go_wp2_with fail
       have F12:=(Fr.refl [] w10).alloc (.cells #[.int .i64 x.k,.int .i64 x.v,.int .i64 x.d] 144)
       have B12:=Go.heap_alloc_new w10 (.cells #[.int .i64 x.k,.int .i64 x.v,.int .i64 x.d] 144)
       replace G:=G.trans F12
       clear F12 ho
       refine qo ⟨G,?_⟩
       refine eoq 3 (fun w11 F11=>?_)
       have B13:=F11.heap B12 Ma
       replace G:=G.trans F11
       clear B12 F11
       have S1':=HS1.out.up G
       go_wp2_with (at_builtin;refine qw zk rfl _ _ 125 rfl Tryz.underlying125 itI rfl (B:=w5.heap.size) (.slice none 0 0) [] rfl ⟨rfl,.inl ⟨rfl,rfl⟩⟩ _ ([]:List It) rfl S1' Ms Mg G.size ?_;intro a21 c21 w21 r21 f21)
       rw [List.nil_append] at r21
       have B21:=Fr.heap f21 B13 Mo
       replace G:=G.trans f21
       clear f21 B13 S1'
      rotate_left
      all_goals
       refine qo ⟨G,?_⟩
       refine eoq 9 (fun w13 F13=>?_)
       have r22:=qp r21 F13
       have B22:=F13.heap B21 Ma
       replace G:=G.trans F13
       clear r21 B21 F13
       go_wp2_with (at_builtin;refine qw zk rfl _ _ 125 rfl Tryz.underlying125 itI rfl (B:=w5.heap.size) _ ([]:List It) rfl r22 _ [x] rfl (Sq.block B22 rfl rfl (Nat.le_refl _) Mm) Ms Mg G.size ?_;intro a23 c23 w23 r23 f23;generalize hT3:([]:List It)++[x]=T3 at r23 ⊢)
       replace G:=G.own f23 (zh r22)
       clear f23 r22 B22
       refine qo ⟨G,?_⟩
       refine eoq 13 (fun w14 F14=>?_)
       have r24:=qp r23 F14
       replace G:=G.trans F14
       clear r23 F14
       have S2':=HS2.out.up G
       go_wp2_with (at_builtin;refine qw zk rfl _ _ 125 rfl Tryz.underlying125 itI rfl (B:=w5.heap.size) _ T3 rfl r24 _ ([]:List It) rfl S2' Nw Mg G.size ?_;intro a25 c25 w25 r25 f25;generalize hT4:T3++([]:List It)=T4 at r25 ⊢)
       replace G:=G.own f25 (zh r24)
       clear f25 r24 S2'
       refine qo ⟨G,?_⟩
       refine eoq 14 (fun w15 F15=>?_)
       have r26:=qp r25 F15
       replace G:=G.trans F15
       clear r25 F15
       go_wp2
       refine qo ⟨G,?_⟩
       refine zw Me (fun w16 F16=>?_)
       have r27:=qp r26 F16
       replace G:=G.trans F16
       clear r26 F16
       have e26:Ze (l.take (i+1))=T4:=by rw [HN.out.1,HT.out.2.2,hT3,hT4]
       rw [<- e26] at r27 ⊢
       have r28:=wu r27 FW.size
       go_wp2
       exact ⟨⟨i+1,by omega,by go_num,r28,FW.trans G⟩,by simp [intOf];omega⟩
     obtain ⟨y,hy⟩:∃ y,out[0]? = some y:=⟨out[0],List.getElem?_eq_getElem Ly⟩;obtain ⟨go,oo,rfl,-,-,-⟩:=xo HO hy;go_wp2_with fail;refine wiq ?_;repeat (go_big_quiet_step (fail))
     refine wpQuiet_nil ?_;intro w5 F5;go_wp2_with fail;have FW:=(F.trans F2).trans F5;have HO5:=HO.up (F2.trans F5);have HL5:=qb (h.up FW);refine ze Me [] (fun w2 F2'=>?_);refine epq [true,true,true,false,true,true,true,true,false,false,true,true,true,false,false] 5 F2' ?_;apply qh;refine ⟨fun wf Ff=>?_,?_⟩
     ·exact Ir
     have HS1:=qb (Sq.empty (f:=fT) w5 (some ⟨go,oo,none⟩) hcm);have HS2:=qb (HO5);have HT:=qb (show ([]:List It).length<=1000/\out.length<=1000/\Tn out x=[]++[x]++out from ⟨by simp,HN.out.2,by unfold Tn;rw [hp];rfl⟩);refine jh [3,8] Me Ma (fun w10 F10 m hm o ho=>?_);have G:=F2'.trans F10;clear F10 F2';simp only [List.mem_cons,List.not_mem_nil,or_false] at hm;rcases hm with rfl | rfl
     focus
      obtain rfl:=qj ho
      have S1':=HS1.out.up G
      go_wp2_with (at_builtin;refine qw zk rfl _ _ 125 rfl Tryz.underlying125 itI rfl (B:=w5.heap.size) (.slice none 0 0) [] rfl ⟨rfl,.inl ⟨rfl,rfl⟩⟩ _ ([]:List It) rfl S1' Ms Mg G.size ?_;intro a21 c21 w21 r21 f21)
      rw [List.nil_append] at r21
      replace G:=G.trans f21
      clear f21 S1'
      refine qo ⟨G,?_⟩
      refine eoq 8 (fun w11 F11=>?_)
      have r11:=qp r21 F11
      replace G:=G.trans F11
      clear r21 F11
      go_wp2_with fail
      have F12:=(Fr.refl [] w11).alloc (.cells #[.int .i64 x.k,.int .i64 x.v,.int .i64 x.d] 144)
      have B21:=Go.heap_alloc_new w11 (.cells #[.int .i64 x.k,.int .i64 x.v,.int .i64 x.d] 144)
      have r21:=qp r11 F12
      replace G:=G.trans F12
      clear r11 F12 ho
     rotate_left
     focus
      obtain rfl:=qj ho
      go_wp2_with fail
      have F12:=(Fr.refl [] w10).alloc (.cells #[.int .i64 x.k,.int .i64 x.v,.int .i64 x.d] 144)
      have B12:=Go.heap_alloc_new w10 (.cells #[.int .i64 x.k,.int .i64 x.v,.int .i64 x.d] 144)
      replace G:=G.trans F12
      clear F12 ho
      refine qo ⟨G,?_⟩
      refine eoq 3 (fun w11 F11=>?_)
      have B13:=F11.heap B12 Ma
      replace G:=G.trans F11
      clear B12 F11
      have S1':=HS1.out.up G
      go_wp2_with (at_builtin;refine qw zk rfl _ _ 125 rfl Tryz.underlying125 itI rfl (B:=w5.heap.size) (.slice none 0 0) [] rfl ⟨rfl,.inl ⟨rfl,rfl⟩⟩ _ ([]:List It) rfl S1' Ms Mg G.size ?_;intro a21 c21 w21 r21 f21)
      rw [List.nil_append] at r21
      have B21:=Fr.heap f21 B13 Mo
      replace G:=G.trans f21
      clear f21 B13 S1'
     rotate_left
     all_goals
      refine qo ⟨G,?_⟩
      refine eoq 9 (fun w13 F13=>?_)
      have r22:=qp r21 F13
      have B22:=F13.heap B21 Ma
      replace G:=G.trans F13
      clear r21 B21 F13
      go_wp2_with (at_builtin;refine qw zk rfl _ _ 125 rfl Tryz.underlying125 itI rfl (B:=w5.heap.size) _ ([]:List It) rfl r22 _ [x] rfl (Sq.block B22 rfl rfl (Nat.le_refl _) Mm) Ms Mg G.size ?_;intro a23 c23 w23 r23 f23;generalize hT3:([]:List It)++[x]=T3 at r23 ⊢)
      replace G:=G.own f23 (zh r22)
      clear f23 r22 B22
      refine qo ⟨G,?_⟩
      refine eoq 13 (fun w14 F14=>?_)
      have r24:=qp r23 F14
      replace G:=G.trans F14
      clear r23 F14
      have S2':=HS2.out.up G
      go_wp2_with (at_builtin;refine qw zk rfl _ _ 125 rfl Tryz.underlying125 itI rfl (B:=w5.heap.size) _ T3 rfl r24 _ out rfl S2' Nw Mg G.size ?_;intro a25 c25 w25 r25 f25;generalize hT4:T3++out=T4 at r25 ⊢)
      replace G:=G.own f25 (zh r24)
      clear f25 r24 S2'
      refine qo ⟨G,?_⟩
      refine eoq 14 (fun w15 F15=>?_)
      have r26:=qp r25 F15
      replace G:=G.trans F15
      clear r25 F15
      go_wp2
      refine qo ⟨G,?_⟩
      refine zw Me (fun w16 F16=>?_)
      have r27:=qp r26 F16
      replace G:=G.trans F16
      clear r26 F16
      have e26:Ze (l.take (i+1))=T4:=by rw [HN.out.1,HT.out.2.2,hT3,hT4]
      rw [<- e26] at r27 ⊢
      have r28:=wu r27 FW.size
      go_wp2
      exact ⟨⟨i+1,by omega,by go_num,r28,FW.trans G⟩,by simp [intOf];omega⟩
    ·obtain ⟨y,hy⟩:∃ y,out[j]? = some y:=⟨out[j],List.getElem?_eq_getElem Ly⟩;have HO2:=HO.up F2;have HL2:=h.up (F.trans F2);obtain ⟨go,oo,rfl,y0,y1,y2⟩:=xo HO2 hy;obtain ⟨gl,ol,rfl,x0,x1,x2⟩:=xo HL2 hx;have hj1:((j+1:Nat):Int) - 1=(j:Nat):=by omega
     have hps:=Sw (x:=x) hy;have n0:=qc y0;have n1:=qc y1;have m0:=qc x0;have m1:=qc x1;clear HO2 HL2;by_cases e1:y.k>x.k
     ·have g1:decide (y.k>x.k)=true:=by simpa using e1
      have hg:gtT y x=true:=by unfold gtT;rw [g1];rfl
      have HP:=qb (show Yd out x (j+1)=Yd out x j by rw [hps,qg hg]);clear hps hg;go_wp2_with fail;refine wiq ?_;repeat (go_big_quiet_step (fail))
      refine wpQuiet_nil ?_;intro w5 F5;go_wp2_with fail;exact ⟨⟨j,by omega,rfl,F2.trans F5,hp.trans HP.out⟩,by simp [intOf]⟩
     have g1:decide (y.k>x.k)=false:=by simpa using e1
     by_cases e2:y.k=x.k
     focus
      have g2:(y.k == x.k)=true:=by simpa using e2
      by_cases e3:y.v>x.v
      ·have g3:decide (y.v>x.v)=true:=by simpa using e3
       have hg:gtT y x=true:=by unfold gtT;rw [g1,g2,g3];rfl
       have HP:=qb (show Yd out x (j+1)=Yd out x j by rw [hps,qg hg])
       clear hps hg e2
       go_wp2_with fail
       refine wiq ?_
       repeat (go_big_quiet_step (fail))
       refine wpQuiet_nil ?_
       intro w5 F5
       go_wp2_with fail
       exact ⟨⟨j,by omega,rfl,F2.trans F5,hp.trans HP.out⟩,by simp [intOf]⟩
      have g3:decide (y.v>x.v)=false:=by simpa using e3
      have hg:gtT y x=false:=by unfold gtT;rw [g1,g2,g3];rfl
      have HP:=qb (show Yd out x (j+1)=j+1 by rw [hps,qf (by simp [hg])])
      clear hps hg e2
     rotate_left
     focus
      have g2:(y.k == x.k)=false:=by simpa using e2
      have hg:gtT y x=false:=by unfold gtT;rw [g1,g2];rfl
      have HP:=qb (show Yd out x (j+1)=j+1 by rw [hps,qf (by simp [hg])])
      clear hps hg
     rotate_left
     all_goals
      go_wp2_with fail
      refine wiq ?_
      repeat (go_big_quiet_step (fail))
      refine wpQuiet_nil ?_
      intro w5 F5
      clear n0 n1 m0 m1 y0 y1 y2 x0 x1 x2
      by_cases hjl:j+1<out.length
      ·go_wp2_with fail
       have FW:=(F.trans F2).trans F5
       have HO5:=HO.up (F2.trans F5)
       have HL5:=qb (h.up FW)
       refine ze Me [] (fun w2 F2'=>?_)
       refine epq [true,true,true,false,true,true,true,true,false,false,true,true,true,false,false] 5 F2' ?_
       apply qh
       refine ⟨fun wf Ff=>?_,?_⟩
       ·obtain ⟨gl',ol',hgl,x0,x1,x2⟩:=xo (HL5.out.up Ff) hx
        simp only [Option.some.injEq,Addr.mk.injEq] at hgl
        obtain ⟨rfl,rfl,-⟩:=hgl
        have j0:=qc x0
        have j1:=qc x1
        have j2:=qc x2
        clear x0 x1 x2
        simp only [sel]
        repeat (go_big_quiet_step (fail))
        exact wpQuiet_nil rfl
       have HS1:=qb (Sq.take zk HO5 (j+1) Ly)
       have HS2:=qb (Sq.drop zk HO5 (j+1) Ly)
       have HT:=qb (show (out.take (j+1)).length<=1000/\(out.drop (j+1)).length<=1000/\Tn out x=out.take (j+1)++[x]++out.drop (j+1) from ⟨by have:=HN.out;simp;omega,by have:=HN.out;simp;omega,by unfold Tn;rw [hp,HP.out]⟩)
       generalize out.take (j+1)=T1 at HS1 HT
       generalize out.drop (j+1)=T2 at HS2 HT
       refine jh [3,8] Me Ma (fun w10 F10 m hm o ho=>?_)
       have G:=F2'.trans F10
       clear F10 F2'
       simp only [List.mem_cons,List.not_mem_nil,or_false] at hm
       rcases hm with rfl | rfl
       focus
        obtain rfl:=qj ho
        have S1':=HS1.out.up G
        go_wp2_with (at_builtin;refine qw zk rfl _ _ 125 rfl Tryz.underlying125 itI rfl (B:=w5.heap.size) (.slice none 0 0) [] rfl ⟨rfl,.inl ⟨rfl,rfl⟩⟩ _ T1 rfl S1' Ms Mg G.size ?_;intro a21 c21 w21 r21 f21)
        rw [List.nil_append] at r21
        replace G:=G.trans f21
        clear f21 S1'
        refine qo ⟨G,?_⟩
        refine eoq 8 (fun w11 F11=>?_)
        have r11:=qp r21 F11
        replace G:=G.trans F11
        clear r21 F11
        go_wp2_with fail
        have F12:=(Fr.refl [] w11).alloc (.cells #[.int .i64 x.k,.int .i64 x.v,.int .i64 x.d] 144)
        have B21:=Go.heap_alloc_new w11 (.cells #[.int .i64 x.k,.int .i64 x.v,.int .i64 x.d] 144)
        have r21:=qp r11 F12
        replace G:=G.trans F12
        clear r11 F12 ho
       rotate_left
       focus
        obtain rfl:=qj ho
        go_wp2_with fail
        have F12:=(Fr.refl [] w10).alloc (.cells #[.int .i64 x.k,.int .i64 x.v,.int .i64 x.d] 144)
        have B12:=Go.heap_alloc_new w10 (.cells #[.int .i64 x.k,.int .i64 x.v,.int .i64 x.d] 144)
        replace G:=G.trans F12
        clear F12 ho
        refine qo ⟨G,?_⟩
        refine eoq 3 (fun w11 F11=>?_)
        have B13:=F11.heap B12 Ma
        replace G:=G.trans F11
        clear B12 F11
        have S1':=HS1.out.up G
        go_wp2_with (at_builtin;refine qw zk rfl _ _ 125 rfl Tryz.underlying125 itI rfl (B:=w5.heap.size) (.slice none 0 0) [] rfl ⟨rfl,.inl ⟨rfl,rfl⟩⟩ _ T1 rfl S1' Ms Mg G.size ?_;intro a21 c21 w21 r21 f21)
        rw [List.nil_append] at r21
        have B21:=Fr.heap f21 B13 Mo
        replace G:=G.trans f21
        clear f21 B13 S1'
       rotate_left
       all_goals
        refine qo ⟨G,?_⟩
        refine eoq 9 (fun w13 F13=>?_)
        have r22:=qp r21 F13
        have B22:=F13.heap B21 Ma
        replace G:=G.trans F13
        clear r21 B21 F13
        go_wp2_with (at_builtin;refine qw zk rfl _ _ 125 rfl Tryz.underlying125 itI rfl (B:=w5.heap.size) _ T1 rfl r22 _ [x] rfl (Sq.block B22 rfl rfl (Nat.le_refl _) Mm) Ms Mg G.size ?_;intro a23 c23 w23 r23 f23;generalize hT3:T1++[x]=T3 at r23 ⊢)
        replace G:=G.own f23 (zh r22)
        clear f23 r22 B22
        refine qo ⟨G,?_⟩
        refine eoq 13 (fun w14 F14=>?_)
        have r24:=qp r23 F14
        replace G:=G.trans F14
        clear r23 F14
        have S2':=HS2.out.up G
        go_wp2_with (at_builtin;refine qw zk rfl _ _ 125 rfl Tryz.underlying125 itI rfl (B:=w5.heap.size) _ T3 rfl r24 _ T2 rfl S2' Nw Mg G.size ?_;intro a25 c25 w25 r25 f25;generalize hT4:T3++T2=T4 at r25 ⊢)
        replace G:=G.own f25 (zh r24)
        clear f25 r24 S2'
        refine qo ⟨G,?_⟩
        refine eoq 14 (fun w15 F15=>?_)
        have r26:=qp r25 F15
        replace G:=G.trans F15
        clear r25 F15
        go_wp2
        refine qo ⟨G,?_⟩
        refine zw Me (fun w16 F16=>?_)
        have r27:=qp r26 F16
        replace G:=G.trans F16
        clear r26 F16
        have e26:Ze (l.take (i+1))=T4:=by rw [HN.out.1,HT.out.2.2,hT3,hT4]
        rw [<- e26] at r27 ⊢
        have r28:=wu r27 FW.size
        go_wp2
        exact ⟨⟨i+1,by omega,by go_num,r28,FW.trans G⟩,by simp [intOf];omega⟩
      have hje:j+1=out.length:=by omega
      go_wp2_with fail
      have FW:=(F.trans F2).trans F5
      have HO5:=HO.up (F2.trans F5)
      have HL5:=qb (h.up FW)
      refine ze Me [] (fun w2 F2'=>?_)
      refine epq [true,true,true,false,true,true,true,true,false,false,true,true,true,false,false] 5 F2' ?_
      apply qh
      refine ⟨fun wf Ff=>?_,?_⟩
      ·obtain ⟨gl',ol',hgl,x0,x1,x2⟩:=xo (HL5.out.up Ff) hx
       simp only [Option.some.injEq,Addr.mk.injEq] at hgl
       obtain ⟨rfl,rfl,-⟩:=hgl
       have j0:=qc x0
       have j1:=qc x1
       have j2:=qc x2
       clear x0 x1 x2
       simp only [sel]
       repeat (go_big_quiet_step (fail))
       exact wpQuiet_nil rfl
      have hc2:co - out.length<=maxLen:=by omega
      generalize co - out.length=c2 at hc2 ⊢
      generalize (if co=out.length then some (⟨go,oo,none⟩:Addr) else some (⟨go,oo+out.length * 3,none⟩:Addr))=a2
      have HS1:=qb (HO5)
      have HS2:=qb (Sq.empty (f:=fT) w5 a2 hc2)
      have hend:Yd out x out.length=out.length:=by have:=HP.out;rw [hje] at this;exact this
      obtain ⟨T1,hT1⟩:∃ T1,T1=out:=⟨out,rfl⟩
      have HT:=qb (show T1.length<=1000/\([]:List It).length<=1000/\Tn out x=T1++[x]++[] from ⟨by rw [hT1];have:=HN.out;omega,by simp,by rw [hT1];unfold Tn;rw [hend,List.take_length,List.drop_length]⟩)
      have HS1:=qb (show Sq fT w5 (.slice (some ⟨go,oo,none⟩) T1.length co) T1 by rw [hT1];exact HO5)
      rw [<- hT1]
      have HT1:=qb hT1
      clear hT1 hend
      refine jh [3,8] Me Ma (fun w10 F10 m hm o ho=>?_)
      have G:=F2'.trans F10
      clear F10 F2'
      simp only [List.mem_cons,List.not_mem_nil,or_false] at hm
      rcases hm with rfl | rfl
      focus
       obtain rfl:=qj ho
       have S1':=HS1.out.up G
       go_wp2_with (at_builtin;refine qw zk rfl _ _ 125 rfl Tryz.underlying125 itI rfl (B:=w5.heap.size) (.slice none 0 0) [] rfl ⟨rfl,.inl ⟨rfl,rfl⟩⟩ _ T1 rfl S1' Ms Mg G.size ?_;intro a21 c21 w21 r21 f21)
       rw [List.nil_append] at r21
       replace G:=G.trans f21
       clear f21 S1'
       refine qo ⟨G,?_⟩
       refine eoq 8 (fun w11 F11=>?_)
       have r11:=qp r21 F11
       replace G:=G.trans F11
       clear r21 F11
       go_wp2_with fail
       have F12:=(Fr.refl [] w11).alloc (.cells #[.int .i64 x.k,.int .i64 x.v,.int .i64 x.d] 144)
       have B21:=Go.heap_alloc_new w11 (.cells #[.int .i64 x.k,.int .i64 x.v,.int .i64 x.d] 144)
       have r21:=qp r11 F12
       replace G:=G.trans F12
       clear r11 F12 ho
      rotate_left
      focus
       obtain rfl:=qj ho
       go_wp2_with fail
       have F12:=(Fr.refl [] w10).alloc (.cells #[.int .i64 x.k,.int .i64 x.v,.int .i64 x.d] 144)
       have B12:=Go.heap_alloc_new w10 (.cells #[.int .i64 x.k,.int .i64 x.v,.int .i64 x.d] 144)
       replace G:=G.trans F12
       clear F12 ho
       refine qo ⟨G,?_⟩
       refine eoq 3 (fun w11 F11=>?_)
       have B13:=F11.heap B12 Ma
       replace G:=G.trans F11
       clear B12 F11
       have S1':=HS1.out.up G
       go_wp2_with (at_builtin;refine qw zk rfl _ _ 125 rfl Tryz.underlying125 itI rfl (B:=w5.heap.size) (.slice none 0 0) [] rfl ⟨rfl,.inl ⟨rfl,rfl⟩⟩ _ T1 rfl S1' Ms Mg G.size ?_;intro a21 c21 w21 r21 f21)
       rw [List.nil_append] at r21
       have B21:=Fr.heap f21 B13 Mo
       replace G:=G.trans f21
       clear f21 B13 S1'
      rotate_left
      all_goals
       refine qo ⟨G,?_⟩
       refine eoq 9 (fun w13 F13=>?_)
       have r22:=qp r21 F13
       have B22:=F13.heap B21 Ma
       replace G:=G.trans F13
       clear r21 B21 F13
       go_wp2_with (at_builtin;refine qw zk rfl _ _ 125 rfl Tryz.underlying125 itI rfl (B:=w5.heap.size) _ T1 rfl r22 _ [x] rfl (Sq.block B22 rfl rfl (Nat.le_refl _) Mm) Ms Mg G.size ?_;intro a23 c23 w23 r23 f23;generalize hT3:T1++[x]=T3 at r23 ⊢)
       replace G:=G.own f23 (zh r22)
       clear f23 r22 B22
       refine qo ⟨G,?_⟩
       refine eoq 13 (fun w14 F14=>?_)
       have r24:=qp r23 F14
       replace G:=G.trans F14
       clear r23 F14
       have S2':=HS2.out.up G
       go_wp2_with (at_builtin;refine qw zk rfl _ _ 125 rfl Tryz.underlying125 itI rfl (B:=w5.heap.size) _ T3 rfl r24 _ ([]:List It) rfl S2' Nw Mg G.size ?_;intro a25 c25 w25 r25 f25;generalize hT4:T3++([]:List It)=T4 at r25 ⊢)
       replace G:=G.own f25 (zh r24)
       clear f25 r24 S2'
       refine qo ⟨G,?_⟩
       refine eoq 14 (fun w15 F15=>?_)
       have r26:=qp r25 F15
       replace G:=G.trans F15
       clear r25 F15
       go_wp2
       refine qo ⟨G,?_⟩
       refine zw Me (fun w16 F16=>?_)
       have r27:=qp r26 F16
       replace G:=G.trans F16
       clear r26 F16
       have e26:Ze (l.take (i+1))=T4:=by rw [HN.out.1,HT.out.2.2,hT3,hT4]
       rw [<- e26] at r27 ⊢
       have r28:=wu r27 FW.size
       go_wp2
       exact ⟨⟨i+1,by omega,by go_num,r28,FW.trans G⟩,by simp [intOf];omega⟩
  ·obtain rfl:i=l.length:=by omega
   rw [List.take_length] at hr;have HR:=qb hr;obtain ⟨ao,co,rfl,-,-⟩:=kg hr;exact Hw
end Go.Proofs.YtbddhncgemeohaaGreatDoor.Mx
namespace Go.Proofs.YtbddhncgemeohaaGreatDoor.Vw
open Go.RowKit Ar Mx
structure Ce where
 s:Int
 k:Int
 d:Int
deriving DecidableEq
def fC (x:Ce):List Value:=[.int .i64 x.s,.int .i64 x.k,.int .i64 x.d]
theorem Zf:Lays fC 3:=⟨fun _=>rfl,fun x u hu=>by simp [fC] at hu;rcases hu with rfl | rfl | rfl <;> rfl,by decide⟩
theorem ceI:(Tryz.prog.info? 193).map (fun i=>(i.zero,i.size,i.bytes))=some (some (.agg #[.int .i64 0,.int .i64 0,.int .i64 0]),3,24):=by kernel_rfl
structure Hd where
 at_:Int
 mn:Int
 ct:Int
 nx:Int
 ld:Int
 mt:Int
 rp:Int
 st:Int
deriving DecidableEq
theorem qac (x y:Ce) (W:World):(binOp .neq 193 (.agg #[.int .i64 x.s,.int .i64 x.k,.int .i64 x.d]) (.agg #[.int .i64 y.s,.int .i64 y.k,.int .i64 y.d])).run Tryz.prog W = .ok (.bool (decide (x≠y))) W:=by
 obtain ⟨k,i,o⟩:=x;obtain ⟨k',i',o'⟩:=y;have u3:=Tryz.underlying3;have a3:(isAgg 3).run Tryz.prog W = .ok false W:=by kernel_rfl
 have hS:Tryz.prog.underlying 193=some (.struct (Tryz.prog.fieldsOf 193)):=by kernel_rfl
 have hp:Tryz.prog.stoodInHeld 193=false:=by kernel_rfl
 rw [run_neq_struct,show (10000:Nat)=9999+1 from rfl,run_equalIn_agg W 9999 193 _ _ hS hp];simp only [Program.fieldsOf,Tryz.underlying193];go_simp;by_cases h1:k=k' <;> by_cases h2:i=i' <;> by_cases h3:o=o' <;> simp [h1,h2,h3]
theorem q2e {w:World} {a:Option Addr} {n cap i:Nat} {xs:List Ce} {x:Ce} (h:Sq fC w (.slice a n cap) xs) (hi:xs[i]? = some x) :
  ∃ g off,a=some ⟨g,off,none⟩/\w.cell? ⟨g,off+i * 3,none⟩=some (.int .i64 x.s)/\w.cell? ⟨g,off+i * 3+1,none⟩=some (.int .i64 x.k)/\w.cell? ⟨g,off+i * 3+2,none⟩=some (.int .i64 x.d):=by
 obtain ⟨-,g,off,rfl,hc⟩:=Sq.cell Zf h hi;exact I2
end Go.Proofs.YtbddhncgemeohaaGreatDoor.Vw
namespace Go.Proofs.YtbddhncgemeohaaGreatDoor.Mx
open Go.RowKit Ar
def fI (x:Int):List Value:=[.int .i64 x]
theorem yh:Lays fI 1:=⟨fun _=>rfl,fun x u hu=>by rw [List.mem_singleton.1 hu];rfl,by decide⟩
theorem q7k:(Tryz.prog.info? 3).map (fun i=>(i.zero,i.size,i.bytes))=some (some (.int .i64 0),1,8):=by kernel_rfl
theorem Zv {w:World} {a:Option Addr} {n cap i:Nat} {xs:List Int} {x:Int} (h:Sq fI w (.slice a n cap) xs) (hi:xs[i]? = some x) :
  ∃ g off,a=some ⟨g,off,none⟩/\w.cell? ⟨g,off+i,none⟩=some (.int .i64 x):=by
 obtain ⟨-,g,off,rfl,hc⟩:=Sq.cell yh h hi;exact ⟨g,off,rfl,by simpa using hc 0 _ rfl⟩
def Xx (x:It) (nx:Option It) (vs:List Int):Bool :=
 nx.all (fun y=>y.k != x.k) || vs.any fun v=>decide (x.v<=v) && (nx.all (fun y=>y.k != x.k) || nx.any fun y=>decide (v<y.v))
def Xj (vs:List Int):List It->List It
 | []=>[]
 | x :: r=>if Xx x r.head? vs=true then x :: Xj vs r else Xj vs r
def J6 (l:List It) (vs:List Int):List It:=Xj vs (Ze l)
end Go.Proofs.YtbddhncgemeohaaGreatDoor.Mx
namespace Go.Proofs.YtbddhncgemeohaaGreatDoor.Mx
def Qk (half:Int):Nat->List It->List (List It)->List It->List (List It)
 | 0,_,out,cur=>out++[cur]
 | n+1,l,out,cur =>
  match l with
  | []=>out++[cur]
  | x :: r =>
   let run:=x :: r.takeWhile (fun y=>y.k == x.k)
   if cur≠[]/\half<(cur.length:Int)+run.length then Qk half n (r.dropWhile (fun y=>y.k == x.k)) (out++[cur]) run
   else Qk half n (r.dropWhile (fun y=>y.k == x.k)) out (cur++run)
def Xz (cells:Int):Int:=max 2 (min cells 16) / 2
def vu (l:List It) (cells:Int):List (List It):=Qk (Xz cells) l.length l [] []
def xx (least:Int) (gs:List (List It)):List Int :=
 match gs with
 | []=>[]
 | _ :: r=>least :: r.map fun g=>(g.head?.map It.k).getD 0
end Go.Proofs.YtbddhncgemeohaaGreatDoor.Mx
