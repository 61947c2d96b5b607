/- Parts. -/
import Derived.Test.YthokjbikomjhgaaGreatDoorVab
import Derived.Test.YthokjbikomjhgaaGreatDoorVad
set_option linter.unusedVariables false
set_option linter.unusedSimpArgs false
set_option maxRecDepth 100000
set_option maxHeartbeats 12800000
namespace Go.Proofs.YthokjbikomjhgaaGreatDoor.Mx
open Go.RowKit Ar Ref
def ins (l:List Int) (v:Int):List Int :=
 match l with
 | []=>[v]
 | x :: r=>if x<v then x :: ins r v else if x=v then x :: r else v :: x :: r
theorem q86 {l:List Int} {v:Int} {k:Nat} (h1:∀ i x,i<k->l[i]? = some x->x<v) (h2:l[k]? = some v):ins l v=l:=by
 induction l generalizing k with
 | nil=>simp at h2
 | cons x r ih =>
  unfold ins;cases k with
  | zero=>simp at h2;subst h2;simp
  | succ k =>
   rw [qf (h1 0 x Lj rfl),ih (k:=k) (fun i y hi hy=>h1 (i+1) y Lj hy) (by simpa using h2)]
theorem q68 {l:List Int} {v:Int} {k:Nat} (hk:k<=l.length) (h1:∀ i x,i<k->l[i]? = some x->x<v) (h2:∀ x,l[k]? = some x->v<x):ins l v=l.take k++[v]++l.drop k:=by
 induction l generalizing k with
 | nil=>simp at hk;subst hk;rfl
 | cons x r ih =>
  unfold ins;cases k with
  | zero =>
   have:=h2 x rfl;rw [qd Lj,qd Lj];rfl
  | succ k =>
   rw [qf (h1 0 x Lj rfl),ih (k:=k) Ms (fun i y hi hy=>h1 (i+1) y Lj hy) (fun y hy=>h2 y (by simpa using hy))];simp
structure NdB where
 c:Cf
 t:Int
 line:Int
 e:Int
 v:Int
 l:List Int
def NdB.cells (x:NdB) (lv:Value):Array Value:=#[.int .i64 x.c.t,.int .i64 x.c.c,.int .i64 x.c.wd,.int .i64 x.c.v,.int .i64 x.t,.int .i64 x.line,.int .i64 x.e,.int .i64 x.v,lv]
theorem Vo {w:World} {b:Nat} {x:NdB} {lv:Value} (h:Ob w b 320 (x.cells lv)):w.cell? ⟨b,0,none⟩=some (.int .i64 x.c.t)/\w.cell? ⟨b,1,none⟩=some (.int .i64 x.c.c)/\w.cell? ⟨b,2,none⟩=some (.int .i64 x.c.wd)/\w.cell? ⟨b,3,none⟩=some (.int .i64 x.c.v)/\w.cell? ⟨b,4,none⟩=some (.int .i64 x.t)/\w.cell? ⟨b,5,none⟩=some (.int .i64 x.line)/\w.cell? ⟨b,6,none⟩=some (.int .i64 x.e)/\w.cell? ⟨b,7,none⟩=some (.int .i64 x.v)/\w.cell? ⟨b,8,none⟩=some lv :=
 ⟨h.cell rfl,h.cell rfl,h.cell rfl,h.cell rfl,h.cell rfl,h.cell rfl,h.cell rfl,h.cell rfl,h.cell rfl⟩
def MetAt (l:List Int) (v:Int) (u:Value) (w wr:World):Prop:=∃ k,k<=l.length/\u = .int .i64 (k:Nat)/\wr=w/\∀ i x,i<k->l[i]? = some x->x<v
theorem q8d (x:NdB) (v:Int) (b:Nat) (lv:Value) (w:World) (hl:x.l.length<=1000) (h:Ob w b 320 (x.cells lv)) (hs:Sq fI w lv x.l) (hb:b∉lv.ownBlock.toList) :
  Calls Tryz.prog 252 #[.pointer (some ⟨b,0,none⟩),.int .i64 v] w fun e w'=>e = .returned (.tuple #[])/\(∃ lv',Ob w' b 320 (({ x with l:=ins x.l v }:NdB).cells lv')/\Sq fI w' lv' (ins x.l v)/\(lv'=lv\/∀ g,g∈lv'.ownBlock.toList->w.heap.size<=g))/\Fr [b] w w':=by
 obtain ⟨a,cap,rfl,hcap,hmax,hc⟩:=id hs;obtain ⟨-,-,-,-,-,-,-,-,c8⟩:=Vo h;have HC:=q9 hc;clear hc;go_enter Tryz.func252,Tryz.ntmps252;go_wp2_with fail;go_loopw [4] (fun u wr=>MetAt x.l v u w wr) (fun u _=>x.l.length - (intOf u).toNat);case atStart=>exact ⟨0,Nat.zero_le _,rfl,rfl,by omega⟩
 case round =>
  obtain ⟨k,hk,rfl,rfl,h1⟩:=hrel;by_cases hlt:k<x.l.length
  ·obtain ⟨y,hy⟩:∃ y,x.l[k]? = some y:=⟨x.l[k],List.getElem?_eq_getElem hlt⟩;obtain ⟨-,g,off,rfl,hcell⟩:=Sq.cell vq hs hy;have d0:=hcell 0 (.int .i64 y) rfl;rw [Nat.mul_one,Nat.add_zero] at d0;by_cases hyv:y<v
   ·have g1:decide (y<v)=true:=by simpa using hyv
    go_wp2_with fail;go_roundw
    case rel=>exact ⟨k+1,by omega,by go_num,rfl,fun i z hi hz=>by
     by_cases e:i=k
     ·subst e;rw [hy] at hz;cases hz;exact hyv
     ·exact h1 i z Lj hz⟩
    case measure=>simp [intOf];omega
   have g1:decide (y<v)=false:=by simpa using hyv
   by_cases he:y=v
   ·subst he;have hi:=q86 h1 hy;have HI:=q9 hi;clear hi;have b0:(((k:Nat):Int) == ((x.l.length:Nat):Int))=false:=by simp;omega
    go_wp2_with fail;go_end0;exact ⟨rfl,⟨_,by rw [HI.out];exact h,by rw [HI.out];exact hs,.inl rfl⟩,Fr.refl _ _⟩
   have hn:=q9 (q68 Lj h1 (fun z hz=>by rw [hy] at hz;cases hz;omega));have b0:(((k:Nat):Int) == ((x.l.length:Nat):Int))=false:=by simp;omega
   have b1:(y != v)=true:=by simpa using he
   go_wp2_with fail;have HS:=q9 hs;clear c8 hs;refine qp Lm ?_;refine za [] wr #[true,true,true,true,true,true,true,true,true,true,true,true,true,true,true,true,true,true,false,false,false] 18 3 rfl ?_;refine lpq [true,true,true,true,true,true,true,false,true,false,false,true,true,true,true,true,true,false,false,false,false] 4 ((Fr.refl _ wr).drew) ?_;apply qg;refine ⟨fun wf Ff=>?_,?_⟩
   ·exact Iz
   have HS1:=q9 (Sq.take vq HS.out k Lj);have HS2:=q9 (Sq.drop vq HS.out k Lj);rw [Nat.mul_one] at HS2;have HT:=q9 (show (x.l.take k).length<=1000/\(x.l.drop k).length<=1000/\ins x.l v=x.l.take k++[v]++x.l.drop k from ⟨by simp;omega,by simp;omega,hn.out⟩);generalize x.l.take k=T1 at HS1 HT;generalize x.l.drop k=T2 at HS2 HT;refine jv [7,9] Lm Ll (fun w10 F10 i hi o ho=>?_);have G:=(Fr.refl [] wr).drew.trans F10;clear F10;simp only [List.mem_cons,List.not_mem_nil,or_false] at hi;rcases hi with rfl | rfl
   focus
    obtain rfl:=qi ho
    go_wp2_with (at_builtin;refine qq vq rfl _ _ 25 rfl Tryz.underlying25 q7t rfl (B:=wr.heap.size) (.slice none 0 0) [] rfl ⟨rfl,.inl ⟨rfl,rfl⟩⟩ _ T1 rfl (HS1.out.up G) Ls Lr G.size ?_;intro a21 c21 w21 r21 f21)
    rw [List.nil_append] at r21
    replace G:=G.trans f21
    clear f21
    refine ql ⟨G,?_⟩
    refine loq 9 (fun w11 F11=>?_)
    have r11:=qo r21 F11
    replace G:=G.trans F11
    clear r21 F11
    go_wp2_with fail
    have F12:=(Fr.refl [] w11).alloc (.cells #[.int .i64 v] 3)
    have B12:=Go.heap_alloc_new w11 (.cells #[.int .i64 v] 3)
    have r12:=qo r11 F12
    replace G:=G.trans F12
    clear r11 F12 ho
    refine ql ⟨G,?_⟩
    refine loq 10 (fun w13 F13=>?_)
    have r22:=qo r12 F13
    have B22:=F13.heap B12 Ll
    replace G:=G.trans F13
    clear r12 B12 F13
   rotate_left
   focus
    obtain rfl:=qi ho
    go_wp2_with fail
    have F12:=(Fr.refl [] w10).alloc (.cells #[.int .i64 v] 3)
    have B12:=Go.heap_alloc_new w10 (.cells #[.int .i64 v] 3)
    replace G:=G.trans F12
    clear F12 ho
    refine ql ⟨G,?_⟩
    refine loq 7 (fun w11 F11=>?_)
    have B13:=F11.heap B12 Ll
    replace G:=G.trans F11
    clear B12 F11
    go_wp2_with (at_builtin;refine qq vq rfl _ _ 25 rfl Tryz.underlying25 q7t rfl (B:=wr.heap.size) (.slice none 0 0) [] rfl ⟨rfl,.inl ⟨rfl,rfl⟩⟩ _ T1 rfl (HS1.out.up G) Ls Lr G.size ?_;intro a21 c21 w21 r21 f21)
    rw [List.nil_append] at r21
    have B21:=Fr.heap f21 B13 Lt
    replace G:=G.trans f21
    clear f21 B13
    refine ql ⟨G,?_⟩
    refine loq 10 (fun w13 F13=>?_)
    have r22:=qo r21 F13
    have B22:=F13.heap B21 Ll
    replace G:=G.trans F13
    clear r21 B21 F13
   rotate_left
   all_goals
    go_wp2_with (at_builtin;refine qq vq rfl _ _ 25 rfl Tryz.underlying25 q7t rfl (B:=wr.heap.size) _ T1 rfl r22 _ [v] rfl (Sq.block B22 rfl rfl (Nat.le_refl _) Ly) Ls Lr G.size ?_;intro a23 c23 w23 r23 f23;generalize hT3:T1++[v]=T3 at r23 ⊢)
    replace G:=G.own f23 (z8 r22)
    clear f23 r22 B22
    refine ql ⟨G,?_⟩
    refine loq 17 (fun w14 F14=>?_)
    have r24:=qo r23 F14
    replace G:=G.trans F14
    clear r23 F14
    go_wp2_with (at_builtin;refine qq vq rfl _ _ 25 rfl Tryz.underlying25 q7t rfl (B:=wr.heap.size) _ T3 rfl r24 _ T2 rfl (HS2.out.up G) Mm Lr G.size ?_;intro a25 c25 w25 r25 f25;generalize hT4:T3++T2=T4 at r25 ⊢)
    replace G:=G.own f25 (z8 r24)
    clear f25 r24
    refine ql ⟨G,?_⟩
    refine qy (k:=18) rfl Lm (fun w15 F15=>?_)
    have r26:=qo r25 F15
    replace G:=G.trans F15
    clear r25 F15
    have h26:=h.up G
    have z26:=h26.frozen
    obtain ⟨-,-,-,-,-,-,-,-,c8⟩:=Vo h26
    go_wp2_with fail
    go_end0
    have hlt26:b<wr.heap.size:=h.lt
    have e26:ins x.l v=T4:=by rw [HT.out.2.2,hT3,hT4]
    rw [<- e26] at r26 ⊢
    refine ⟨rfl,⟨_,Ob.set h26 (i:=8) _,(Sq.own r26).kept (Fr.setCell (S:=[b]) _ Ll) (fun g hg hi=>?_),.inr (z8 r26)⟩,(G.mono).trans (Fr.setCell _ Ll)⟩
    have:=z8 r26 g hg
    simp at hi
    omega
  ·obtain rfl:k=x.l.length:=by omega
   have hn:=q9 (q68 (Nat.le_refl _) h1 (fun z hz=>by simp at hz));have b0:(((x.l.length:Nat):Int) == ((x.l.length:Nat):Int))=true:=by simp
   go_wp2_with fail;have HS:=q9 hs;clear c8 hs;refine qp Lm ?_;refine za [] wr #[true,true,true,true,true,true,true,true,true,true,true,true,true,true,true,true,true,true,false,false,false] 18 3 rfl ?_;refine lpq [true,true,true,true,true,true,true,false,true,false,false,true,true,true,true,true,true,false,false,false,false] 4 ((Fr.refl _ wr).drew) ?_;apply qg;refine ⟨fun wf Ff=>?_,?_⟩
   ·exact Iz
   have HS1:=HS;rw [List.take_length,List.drop_length] at hn;have HT:=q9 (show x.l.length<=1000/\([]:List Int).length<=1000/\ins x.l v=x.l++[v]++[] from ⟨hl,by simp,hn.out⟩);have hcm:cap - x.l.length<=maxLen:=by omega
   generalize (if cap=x.l.length then a else Option.map (fun y=>y.add x.l.length) a)=a2;generalize cap - x.l.length=c2 at hcm ⊢;have HS2:=q9 (Sq.empty (f:=fI) wr a2 hcm);refine jv [7,9] Lm Ll (fun w10 F10 i hi o ho=>?_);have G:=(Fr.refl [] wr).drew.trans F10;clear F10;simp only [List.mem_cons,List.not_mem_nil,or_false] at hi;rcases hi with rfl | rfl
   focus
    obtain rfl:=qi ho
    go_wp2_with (at_builtin;refine qq vq rfl _ _ 25 rfl Tryz.underlying25 q7t rfl (B:=wr.heap.size) (.slice none 0 0) [] rfl ⟨rfl,.inl ⟨rfl,rfl⟩⟩ _ x.l rfl (HS1.out.up G) Ls Lr G.size ?_;intro a21 c21 w21 r21 f21)
    rw [List.nil_append] at r21
    replace G:=G.trans f21
    clear f21
    refine ql ⟨G,?_⟩
    refine loq 9 (fun w11 F11=>?_)
    have r11:=qo r21 F11
    replace G:=G.trans F11
    clear r21 F11
    go_wp2_with fail
    have F12:=(Fr.refl [] w11).alloc (.cells #[.int .i64 v] 3)
    have B12:=Go.heap_alloc_new w11 (.cells #[.int .i64 v] 3)
    have r12:=qo r11 F12
    replace G:=G.trans F12
    clear r11 F12 ho
    refine ql ⟨G,?_⟩
    refine loq 10 (fun w13 F13=>?_)
    have r22:=qo r12 F13
    have B22:=F13.heap B12 Ll
    replace G:=G.trans F13
    clear r12 B12 F13
   rotate_left
   focus
    obtain rfl:=qi ho
    go_wp2_with fail
    have F12:=(Fr.refl [] w10).alloc (.cells #[.int .i64 v] 3)
    have B12:=Go.heap_alloc_new w10 (.cells #[.int .i64 v] 3)
    replace G:=G.trans F12
    clear F12 ho
    refine ql ⟨G,?_⟩
    refine loq 7 (fun w11 F11=>?_)
    have B13:=F11.heap B12 Ll
    replace G:=G.trans F11
    clear B12 F11
    go_wp2_with (at_builtin;refine qq vq rfl _ _ 25 rfl Tryz.underlying25 q7t rfl (B:=wr.heap.size) (.slice none 0 0) [] rfl ⟨rfl,.inl ⟨rfl,rfl⟩⟩ _ x.l rfl (HS1.out.up G) Ls Lr G.size ?_;intro a21 c21 w21 r21 f21)
    rw [List.nil_append] at r21
    have B21:=Fr.heap f21 B13 Lt
    replace G:=G.trans f21
    clear f21 B13
    refine ql ⟨G,?_⟩
    refine loq 10 (fun w13 F13=>?_)
    have r22:=qo r21 F13
    have B22:=F13.heap B21 Ll
    replace G:=G.trans F13
    clear r21 B21 F13
   rotate_left
   all_goals
    go_wp2_with (at_builtin;refine qq vq rfl _ _ 25 rfl Tryz.underlying25 q7t rfl (B:=wr.heap.size) _ x.l rfl r22 _ [v] rfl (Sq.block B22 rfl rfl (Nat.le_refl _) Ly) Ls Lr G.size ?_;intro a23 c23 w23 r23 f23;generalize hT3:x.l++[v]=T3 at r23 ⊢)
    replace G:=G.own f23 (z8 r22)
    clear f23 r22 B22
    refine ql ⟨G,?_⟩
    refine loq 17 (fun w14 F14=>?_)
    have r24:=qo r23 F14
    replace G:=G.trans F14
    clear r23 F14
    go_wp2_with (at_builtin;refine qq vq rfl _ _ 25 rfl Tryz.underlying25 q7t rfl (B:=wr.heap.size) _ T3 rfl r24 _ [] rfl (HS2.out.up G) Mm Lr G.size ?_;intro a25 c25 w25 r25 f25;generalize hT4:T3++([]:List Int)=T4 at r25 ⊢)
    replace G:=G.own f25 (z8 r24)
    clear f25 r24
    refine ql ⟨G,?_⟩
    refine qy (k:=18) rfl Lm (fun w15 F15=>?_)
    have r26:=qo r25 F15
    replace G:=G.trans F15
    clear r25 F15
    have h26:=h.up G
    have z26:=h26.frozen
    obtain ⟨-,-,-,-,-,-,-,-,c8⟩:=Vo h26
    go_wp2_with fail
    go_end0
    have hlt26:b<wr.heap.size:=h.lt
    have e26:ins x.l v=T4:=by rw [HT.out.2.2,hT3,hT4]
    rw [<- e26] at r26 ⊢
    refine ⟨rfl,⟨_,Ob.set h26 (i:=8) _,(Sq.own r26).kept (Fr.setCell (S:=[b]) _ Ll) (fun g hg hi=>?_),.inr (z8 r26)⟩,(G.mono).trans (Fr.setCell _ Ll)⟩
    have:=z8 r26 g hg
    simp at hi
    omega
structure Nd where
 c:Cf
 t:Int
 line:Int
 e:Int
 v:Int
 lv:Value
 l:List Int
def Nd.cells (x:Nd):Array Value:=#[.int .i64 x.c.t,.int .i64 x.c.c,.int .i64 x.c.wd,.int .i64 x.c.v,.int .i64 x.t,.int .i64 x.line,.int .i64 x.e,.int .i64 x.v,x.lv]
def Va (w:World) (b:Nat) (x:Nd):Prop:=Ob w b 320 x.cells
theorem xh {w:World} {b:Nat} {x:Nd} (h:Va w b x):w.cell? ⟨b,0,none⟩=some (.int .i64 x.c.t)/\w.cell? ⟨b,1,none⟩=some (.int .i64 x.c.c)/\w.cell? ⟨b,2,none⟩=some (.int .i64 x.c.wd)/\w.cell? ⟨b,3,none⟩=some (.int .i64 x.c.v)/\w.cell? ⟨b,4,none⟩=some (.int .i64 x.t)/\w.cell? ⟨b,5,none⟩=some (.int .i64 x.line)/\w.cell? ⟨b,6,none⟩=some (.int .i64 x.e)/\w.cell? ⟨b,7,none⟩=some (.int .i64 x.v)/\w.cell? ⟨b,8,none⟩=some (x.lv) :=
 ⟨h.cell rfl,h.cell rfl,h.cell rfl,h.cell rfl,h.cell rfl,h.cell rfl,h.cell rfl,h.cell rfl,h.cell rfl⟩
def Nd.pa (x:Nd):Int:=qab x.t
def Nd.base (x:Nd):NdB:=⟨x.c,x.t,x.line,x.e,x.v,x.l⟩
def Nd.on (x:Nd):Nd:=if x.c.t<=x.t+1 then { x with t:=x.t+1,line:=0 } else { x with t:=x.t+1,line:=1 }
def Nd.met (x:Nd) (v:Int):Nd:={ x with l:=ins x.l v }
def Nd.live (x:Nd):Bool:=decide (1<=x.line) && decide (x.line<=4)
def Nd.act (x:Nd) (s:St):St :=
 if x.line=1 then s.load x.pa else if x.line=2 then s.add 1 1 else if x.line=3 then s.swap x.pa x.e (wu (q57 x.e) (wrap64 (x.v+2))) else s.load x.pa
def Nd.told (x:Nd) (s:St):Int:=if x.line=2 then qw s.l 1 else qw s.l x.pa
def Nd.next (x:Nd) (v:Int):Nd :=
 if x.line=1 then (if ku v=1 then { x with e:=v,line:=2 } else if 1<ku v then Nd.on (Nd.met { x with e:=v,line:=2 } (ku v - 2)) else Nd.on { x with e:=v,line:=2 })
 else if x.line=2 then { x with v:=v,line:=3 } else if x.line=3 then { x with line:=4 }
 else (if q57 v=q57 x.e/\1<ku v then Nd.on (Nd.met x (ku v - 2)) else Nd.on x)
def Nd.step (x:Nd) (s:St):Nd×St:=if x.live=true then (x.next (x.told s),x.act s) else (x,s)
theorem Uw (x:Nd) (hc:x.c.Ok) (ht:0<=x.t/\x.t<=8) (b:Nat) (w:World) (h:Va w b x):Calls Tryz.prog 253 #[.pointer (some ⟨b,0,none⟩)] w fun e w'=>e = .returned (.tuple #[])/\Va w' b x.on/\Fr [b] w w':=by
 generalize hy:x.on=y;have HY:=q9 hy;clear hy;obtain ⟨c0,c1,c2,c3,c4,c5,c6,c7,c8⟩:=xh h;have z:=h.frozen;go_enter Tryz.func253,Tryz.ntmps253;go_wp2_with fail;have h1:Va _ b { x with t:=x.t+1,line:=1 }:=Ob.set (Ob.set h (i:=4) (.int .i64 (x.t+1))) (i:=5) (.int .i64 1);have D1:Fr [b] w ((w.setCell ⟨b,4,none⟩ (.int .i64 (x.t+1))).setCell ⟨b,5,none⟩ (.int .i64 1)):=(Fr.setCell _ Ll).setCell' _ Ll;clear c0 c1 c2 c3 c4 c5 c6 c7 c8 z;generalize ((w.setCell ⟨b,4,none⟩ (.int .i64 (x.t+1))).setCell ⟨b,5,none⟩ (.int .i64 1))=w1 at *;obtain ⟨c0,-,-,-,c4,-,-,-,-⟩:=xh h1;have k0:=qb c0;have k4:=qb c4;clear c0 c4;refine wiq ?_;repeat (go_big_quiet_step (fail))
 refine wpQuiet_nil ?_;intro w2 F2;have h2:=Ob.up h1 F2;have D2:=D1.then F2;clear h1 D1 F2 k0 k4;obtain ⟨c0,c1,c2,c3,c4,c5,c6,c7,c8⟩:=xh h2;have z:=h2.frozen;by_cases hv:x.c.t<=x.t+1
 ·have hn:y = { x with t:=x.t+1,line:=0 }:=by rw [<- HY.out];unfold Nd.on;simp [hv]
  subst hn;have g:decide (x.t+1≥x.c.t)=true:=by simpa using hv
  exact Gb
 ·have hn:y = { x with t:=x.t+1,line:=1 }:=by rw [<- HY.out];unfold Nd.on;simp [hv]
  subst hn;have g:decide (x.t+1≥x.c.t)=false:=by simpa using hv
  exact I6
theorem q0j (c:Cf) (w:World):Calls Tryz.prog 237 #[c.val] w fun e w'=>∃ b,e = .returned (.pointer (some ⟨b,0,none⟩))/\w.heap.size<=b/\Va w' b ⟨c,0,1,0,0,.slice none 0 0,[]⟩/\Fr [] w w':=by unfold Cf.val;have F0:=(Fr.refl [] w).alloc (.cells #[.int .i64 c.t,.int .i64 c.c,.int .i64 c.wd,.int .i64 c.v] 23);obtain ⟨c0,c1,c2,c3⟩:=Pl.yp (Go.heap_alloc_new w (.cells #[.int .i64 c.t,.int .i64 c.c,.int .i64 c.wd,.int .i64 c.v] 23));go_enter Tryz.func237,Tryz.ntmps237;exact Bp
theorem qe9 (l:List Int) (v:Int):ins l v≠[]:=by
 cases l with
 | nil=>simp [ins]
 | cons x r=>unfold ins;split <;> (try split) <;> simp
theorem Wy (x:Nd) (v:Int) (b:Nat) (w:World) (hl:x.l.length<=1000) (h:Va w b x) (hs:Sq fI w x.lv x.l) (hb:b∉x.lv.ownBlock.toList) :
  Calls Tryz.prog 252 #[.pointer (some ⟨b,0,none⟩),.int .i64 v] w fun e w'=>e = .returned (.tuple #[])/\(∃ lv',Va w' b { x.met v with lv:=lv' } /\ Sq fI w' lv' (x.met v).l/\(lv'=x.lv\/((x.met v).l≠[]/\∀ g,g∈lv'.ownBlock.toList->w.heap.size<=g)))/\Fr [b] w w' :=
 (q8d x.base v b x.lv w hl h hs hb).mono fun e w' ⟨h1,⟨lv',h2,h3,h4⟩,h5⟩=>⟨h1,⟨lv',h2,h3,h4.imp id (fun a=>⟨qe9 _ _,a⟩)⟩,h5⟩
theorem q4r (x:Nd) (hl:x.line=2) (hc:x.c.Ok) (ht:0<=x.t/\x.t<=8) (b p q:Nat) (s:St) (w:World) (h:Va w b x) (hA:Rar w p q s) (hp:b≠p) (hq:b≠q) :
  Calls Tryz.prog 238 #[.pointer (some ⟨b,0,none⟩),.pointer (some ⟨p,0,none⟩)] w fun e w'=>e = .returned (.bool (decide ((x.next (qw s.l 1)).line=0)))/\Va w' b (x.next (qw s.l 1))/\Rar w' p q (s.add 1 1)/\Fr [b,p,q] w w':=by
 generalize hy:x.next (qw s.l 1)=y;have HY:=q9 hy;clear hy;obtain ⟨c0,c1,c2,c3,c4,c5,c6,c7,c8⟩:=xh h;have z:=h.frozen;go_enter Tryz.func238,Tryz.ntmps238;go_wp2_with fail;have h0:=h;have A0:=hA;have D0:=Fr.refl [b,p,q] w;clear h hA;have hw0:=q9 (Eq.refl w);refine (Ref.Q0 x.t ht.1 ht.2 _).mono ?_;rintro e _ ⟨rfl,rfl⟩;rw [show (3:Int)+x.t=x.pa from rfl];go_wp2_with fail;have A1:=A0;have h1:=h0;have D1:=D0;clear c0 c1 c2 c3 c4 c5 c6 c7 c8 z;refine (Ref.Kg _ p q s 1 1 A1).mono ?_;rintro e w5 ⟨rfl,A5,F5⟩;have h5:=Ob.kept h1 F5 Lp;have D5:=zm D1 F5 Ll;clear A1 h1 D1 F5 A0 h0 D0;obtain ⟨c0,c1,c2,c3,c4,c5,c6,c7,c8⟩:=xh h5;have z:=h5.frozen;have hn:y = { x with v:=qw s.l 1,line:=3 }:=by rw [<- HY.out];unfold Nd.next;simp [hl]
 subst hn;go_wp2_with fail;go_ret;exact ⟨rfl,(Ob.set (Ob.set h5 _) (i:=5) (.int .i64 3)),(Rar.set (Rar.set A5 hp hq _) hp hq (i:=5) (.int .i64 3)),(Fr.setCell' (Fr.setCell' D5 _ Ll) (b:=b) (i:=5) (.int .i64 3) Ll)⟩
theorem q4g (x:Nd) (hl:x.line=3) (hc:x.c.Ok) (ht:0<=x.t/\x.t<=8) (b p q:Nat) (s:St) (w:World) (h:Va w b x) (hA:Rar w p q s) (hp:b≠p) (hq:b≠q) :
  Calls Tryz.prog 238 #[.pointer (some ⟨b,0,none⟩),.pointer (some ⟨p,0,none⟩)] w fun e w'=>e = .returned (.bool (decide ((x.next (x.told s)).line=0)))/\Va w' b (x.next (x.told s))/\Rar w' p q (s.swap x.pa x.e (wu (q57 x.e) (wrap64 (x.v+2))))/\Fr [b,p,q] w w':=by
 generalize hy:x.next (x.told s)=y;have HY:=q9 hy;clear hy;obtain ⟨c0,c1,c2,c3,c4,c5,c6,c7,c8⟩:=xh h;have z:=h.frozen;go_enter Tryz.func238,Tryz.ntmps238;go_wp2_with fail;have h0:=h;have A0:=hA;have D0:=Fr.refl [b,p,q] w;clear h hA;have hw0:=q9 (Eq.refl w);refine (Ref.Q0 x.t ht.1 ht.2 _).mono ?_;rintro e _ ⟨rfl,rfl⟩;rw [show (3:Int)+x.t=x.pa from rfl];go_wp2_with fail;have A1:=A0;have h1:=h0;have D1:=D0;clear c0 c1 c2 c3 c4 c5 c6 c7 c8 z;refine z7 Lm [p,q] (fun w2 F2=>?_);refine epq [true,true,true,true,true,true,true,true,true,true,true,true,true,true,true,true,true,false] 1 (F2.mono) ?_;apply qg;refine ⟨fun wf Ff=>?_,?_⟩
 ·have hf:Va wf b x:=Ob.kept h1 Ff Lp;obtain ⟨-,-,-,-,-,-,c6,c7,-⟩:=xh hf;have k6:=qb c6;have k7:=qb c7;clear hf c6 c7;simp only [sel];repeat (go_big_quiet_step ((first | (go_at_call 69;exact Calls.in_same (Xk _ _ _)) | (go_at_call 68;exact Calls.in_same (q0u _ _)))))
  exact wpQuiet_nil rfl
 refine eoq 17 (fun w3 F3=>?_);have E3:=F2.trans F3;have A3:=A1.kept E3;have h3:=Ob.up h1 E3;have G3:=zm D1 E3 Ll;clear F2 F3 A1 h1 D1 A0 h0 D0;go_wp2_with fail;refine (Ref.yt _ p q s _ _ _ A3).mono ?_;rintro e w4 ⟨rfl,A4,F4⟩;have E4:=(E3.mono (T:=[p,q]) Ll).trans F4;have h4:=h3.kept F4 Lp;have G4:=zm G3 F4 Ll;clear A3 h3 F4 G3 E3;go_wp2_with fail;refine ql ⟨E4,?_⟩;refine zq Lm (fun w5 F5=>?_);have D5:=G4.then F5;have h5:Va w5 b x:=h4.up F5;have A5:=A4.kept F5;clear A4 h4 F5 G4 E4;obtain ⟨c0,c1,c2,c3,c4,c5,c6,c7,c8⟩:=xh h5;have z:=h5.frozen;have hn:y = { x with line:=4 }:=by rw [<- HY.out];unfold Nd.next;simp [hl]
 exact Ae
theorem q8w (x:Nd) (lv:Value):({ x with lv:=lv }:Nd).on = { x.on with lv:=lv }:=by unfold Nd.on;simp only;split <;> rfl
theorem qcq (x:Nd):x.on.l=x.l:=by unfold Nd.on;split <;> rfl
theorem sqK {b p q:Nat} {w w':World} {v:Value} {l:List Int} (h:Sq fI w v l) (D:Fr [b,p,q] w w') (hb:b∉v.ownBlock.toList) (hp:p∉v.ownBlock.toList) (hq:q∉v.ownBlock.toList):Sq fI w' v l :=
 h.kept D (fun g hg hi=>by simp at hi;rcases hi with rfl | rfl | rfl <;> contradiction)
theorem q3z (x:Nd) (hl:x.line=1) (hc:x.c.Ok) (ht:0<=x.t/\x.t<=8) (b p q:Nat) (s:St) (w:World) (h:Va w b x) (hA:Rar w p q s) (hp:b≠p) (hq:b≠q) (hs:Sq fI w x.lv x.l) (hb:b∉x.lv.ownBlock.toList) (hp2:p∉x.lv.ownBlock.toList) (hq2:q∉x.lv.ownBlock.toList) (hlen:x.l.length<=1000) :
  Calls Tryz.prog 238 #[.pointer (some ⟨b,0,none⟩),.pointer (some ⟨p,0,none⟩)] w fun e w'=>e = .returned (.bool (decide ((x.next (qw s.l x.pa)).line=0)))/\(∃ lv',Va w' b { x.next (qw s.l x.pa) with lv:=lv' } /\ Sq fI w' lv' (x.next (qw s.l x.pa)).l/\(lv'=x.lv\/((x.next (qw s.l x.pa)).l≠[]/\∀ g,g∈lv'.ownBlock.toList->w.heap.size<=g)))/\Rar w' p q (s.load x.pa)/\Fr [b,p,q] w w':=by
 generalize hy:x.next (qw s.l x.pa)=y;have HY:=q9 hy;clear hy;obtain ⟨c0,c1,c2,c3,c4,c5,c6,c7,c8⟩:=xh h;have z:=h.frozen;go_enter Tryz.func238,Tryz.ntmps238;go_wp2_with fail;have h0:=h;have A0:=hA;have D0:=Fr.refl [b,p,q] w;clear h hA;have hbw:=h0.lt;refine (Ref.Q0 x.t ht.1 ht.2 _).mono ?_;rintro e _ ⟨rfl,rfl⟩;rw [show (3:Int)+x.t=x.pa from rfl];go_wp2_with fail;have A1:=A0;have h1:=h0;have D1:=D0;clear c0 c1 c2 c3 c4 c5 c6 c7 c8 z;refine (Ref.zl _ p q s _ A1).mono ?_;rintro e w5 ⟨rfl,A5,F5⟩;have h5:=Ob.kept h1 F5 Lp;have D5:=zm D1 F5 Ll;clear A1 h1 D1 F5 A0 h0 D0;obtain ⟨c0,c1,c2,c3,c4,c5,c6,c7,c8⟩:=xh h5;have z:=h5.frozen;generalize hv:qw s.l x.pa=v at *;go_wp2_with fail;have h6:Va _ b { x with e:=v,line:=2 }:=(Ob.set (Ob.set h5 (i:=6) (.int .i64 v)) (i:=5) (.int .i64 2));have A6:=(Rar.set (Rar.set A5 hp hq (i:=6) (.int .i64 v)) hp hq (i:=5) (.int .i64 2));have D6:=(Fr.setCell' (Fr.setCell' D5 (b:=b) (i:=6) (.int .i64 v) Ll) (b:=b) (i:=5) (.int .i64 2) Ll);generalize ((w5.setCell ⟨b,6,none⟩ (.int .i64 v)).setCell ⟨b,5,none⟩ (.int .i64 2))=w6 at *;clear c0 c1 c2 c3 c4 c5 c6 c7 c8 z;clear h5 A5 D5;refine (Xp _ _).mono ?_;rintro e _ ⟨rfl,rfl⟩;have hpb:=Int.emod_nonneg v (show (16777216:Int)≠0 by decide);have hpw:wrap64 (ku v - 2)=ku v - 2:=by unfold ku;exact w64 Lj Lj
 generalize hpv:ku v=pv at *;by_cases e1:pv=1
 ·have hn:y = { x with e:=v,line:=2 }:=by rw [<- HY.out];unfold Nd.next;simp [hl,hpv,e1]
  subst hn;obtain ⟨c0,c1,c2,c3,c4,c5,c6,c7,c8⟩:=xh h6;go_wp2_with fail;go_ret;exact ⟨rfl,⟨x.lv,h6,sqK hs D6 hb hp2 hq2,.inl rfl⟩,A6,D6⟩
 ·have b1:(pv != 1)=true:=by simpa using e1
  by_cases e2:1<pv
  ·have hn:y=Nd.on (Nd.met { x with e:=v,line:=2 } (pv - 2)):=by rw [<- HY.out];unfold Nd.next;simp [hl,hpv,e1,e2]
   subst hn;have b2:decide (pv>1)=true:=by simpa using e2
   go_wp2_with fail;have hlw:=D6.size;refine (Wy ({ x with e:=v,line:=2 }:Nd) (pv - 2) b _ hlen h6 (sqK hs D6 hb hp2 hq2) hb).mono ?_;rintro e w7 ⟨rfl,⟨lv',h7,hs7,hg7⟩,F7⟩;have A7:=A6.kept F7 Lv Lx;have D7:=zm D6 F7 Ll;clear h6 A6 F7 D6;go_wp2_with fail;refine (Uw ({ Nd.met ({ x with e:=v,line:=2 }:Nd) (pv - 2) with lv:=lv' }) hc ht b _ h7).mono ?_;rintro e w8 ⟨rfl,h8,F8⟩;rw [q8w] at h8
   have hb8:∀ g,g∈lv'.ownBlock.toList->g∉[b]:=fun g hg hi=>by
    rw [List.mem_singleton.1 hi] at hg;rcases hg7 with e7 | e7
    ·rw [e7] at hg;exact hb hg
    ·have:=e7.2 b hg;have:=hbw;omega
   have hs8:=hs7.kept F8 hb8;have A8:=A7.kept F8 Lv Lx;have D8:=zm D7 F8 Ll;clear h7 A7 F8 D7 hs7;obtain ⟨-,-,-,-,-,c5,-,-,-⟩:=xh h8;go_wp2_with fail;go_ret;exact ⟨rfl,⟨lv',h8,by rw [qcq];exact hs8,hg7.imp id fun hh=>⟨by rw [qcq];exact hh.1,fun g hg=>by have:=hh.2 g hg;omega⟩⟩,A8,D8⟩
  have hn:y=Nd.on { x with e:=v,line:=2 }:=by rw [<- HY.out];unfold Nd.next;simp [hl,hpv,e1,e2]
  subst hn;have b2:decide (pv>1)=false:=by simpa using e2
  go_wp2_with fail;refine (Uw ({ x with e:=v,line:=2 }:Nd) hc ht b _ h6).mono ?_;rintro e w7 ⟨rfl,h7,F7⟩;have A7:=A6.kept F7 Lv Lx;have D7:=zm D6 F7 Ll;clear h6 A6 F7 D6;obtain ⟨-,-,-,-,-,c5,-,-,-⟩:=xh h7;go_wp2_with fail;go_ret;exact ⟨rfl,⟨x.lv,by rw [show ({ Nd.on ({ x with e:=v,line:=2 }:Nd) with lv:=x.lv }:Nd)=Nd.on ({ x with e:=v,line:=2 }:Nd) from (q8w ({ x with e:=v,line:=2 }:Nd) x.lv).symm];exact h7,by rw [qcq];exact sqK hs D7 hb hp2 hq2,.inl rfl⟩,A7,D7⟩
theorem q3u (x:Nd) (hl:x.line=4) (hc:x.c.Ok) (ht:0<=x.t/\x.t<=8) (b p q:Nat) (s:St) (w:World) (h:Va w b x) (hA:Rar w p q s) (hp:b≠p) (hq:b≠q) (hs:Sq fI w x.lv x.l) (hb:b∉x.lv.ownBlock.toList) (hp2:p∉x.lv.ownBlock.toList) (hq2:q∉x.lv.ownBlock.toList) (hlen:x.l.length<=1000) :
  Calls Tryz.prog 238 #[.pointer (some ⟨b,0,none⟩),.pointer (some ⟨p,0,none⟩)] w fun e w'=>e = .returned (.bool (decide ((x.next (qw s.l x.pa)).line=0)))/\(∃ lv',Va w' b { x.next (qw s.l x.pa) with lv:=lv' } /\ Sq fI w' lv' (x.next (qw s.l x.pa)).l/\(lv'=x.lv\/((x.next (qw s.l x.pa)).l≠[]/\∀ g,g∈lv'.ownBlock.toList->w.heap.size<=g)))/\Rar w' p q (s.load x.pa)/\Fr [b,p,q] w w':=by
 generalize hy:x.next (qw s.l x.pa)=y;have HY:=q9 hy;clear hy;obtain ⟨c0,c1,c2,c3,c4,c5,c6,c7,c8⟩:=xh h;have z:=h.frozen;go_enter Tryz.func238,Tryz.ntmps238;go_wp2_with fail;have h0:=h;have A0:=hA;have D0:=Fr.refl [b,p,q] w;clear h hA;have hbw:=h0.lt;refine (Ref.Q0 x.t ht.1 ht.2 _).mono ?_;rintro e _ ⟨rfl,rfl⟩;rw [show (3:Int)+x.t=x.pa from rfl];go_wp2_with fail;have A1:=A0;have h1:=h0;have D1:=D0;clear c0 c1 c2 c3 c4 c5 c6 c7 c8 z;refine (Ref.zl _ p q s _ A1).mono ?_;rintro e w5 ⟨rfl,A5,F5⟩;have h5:=Ob.kept h1 F5 Lp;have D5:=zm D1 F5 Ll;clear A1 h1 D1 F5 A0 h0 D0;obtain ⟨c0,c1,c2,c3,c4,c5,c6,c7,c8⟩:=xh h5;have z:=h5.frozen;generalize hv:qw s.l x.pa=v at *;have hpb:=Int.emod_nonneg v (show (16777216:Int)≠0 by decide);have hpw:wrap64 (ku v - 2)=ku v - 2:=by unfold ku;exact w64 Lj Lj
 by_cases e1:q57 v=q57 x.e
 focus
  have b1:(q57 v == q57 x.e)=true:=by simpa using e1
  by_cases e2:1<ku v
  ·have HN:=q9 (show y=Nd.on (Nd.met x (ku v - 2)) by rw [<- HY.out];unfold Nd.next;simp [hl,e1,e2])
   have b2:decide (ku v>1)=true:=by simpa using e2
   clear e1
   go_wp2_with fail
   have k6:=qb c6
   clear c0 c1 c2 c3 c4 c5 c6 c7 c8 z
   refine wiq ?_
   repeat (go_big_quiet_step ((first | (go_at_call 68;exact Calls.in_same (q0u _ _)) | (go_at_call 67;exact Calls.in_same (Xp _ _)))))
   refine wpQuiet_nil ?_
   intro w6 F6
   have h6:Va w6 b x:=Ob.up h5 F6
   have A6:=A5.kept F6
   have D6:=D5.then F6
   clear h5 A5 D5 k6 F6
   go_wp2_with fail
   refine (Xp _ _).mono ?_;rintro e _ ⟨rfl,rfl⟩
   go_wp2_with fail
   obtain rfl:=HN.out
   have hlw:=D6.size
   refine (Wy x (ku v - 2) b _ hlen h6 (sqK hs D6 hb hp2 hq2) hb).mono ?_;rintro e w7 ⟨rfl,⟨lv',h7,hs7,hg7⟩,F7⟩
   have A7:=A6.kept F7 Lv Lx
   have D7:=zm D6 F7 Ll
   clear h6 A6 F7 D6
   go_wp2_with fail
   refine (Uw ({ Nd.met x (ku v - 2) with lv:=lv' }) hc ht b _ h7).mono ?_;rintro e w8 ⟨rfl,h8,F8⟩
   rw [q8w] at h8
   have hb8:∀ g,g∈lv'.ownBlock.toList->g∉[b]:=fun g hg hi=>by
    rw [List.mem_singleton.1 hi] at hg
    rcases hg7 with e7 | e7
    ·rw [e7] at hg;exact hb hg
    ·have:=e7.2 b hg;have:=hbw;omega
   have hs8:=hs7.kept F8 hb8
   have A8:=A7.kept F8 Lv Lx
   have D8:=zm D7 F8 Ll
   clear h7 A7 F8 D7 hs7
   obtain ⟨-,-,-,-,-,c5,-,-,-⟩:=xh h8
   go_wp2_with fail
   go_ret
   exact ⟨rfl,⟨lv',h8,by rw [qcq];exact hs8,hg7.imp id fun hh=>⟨by rw [qcq];exact hh.1,fun g hg=>by have:=hh.2 g hg;omega⟩⟩,A8,D8⟩
  have HN:=q9 (show y=Nd.on x by rw [<- HY.out];unfold Nd.next;simp [hl,e2])
  have b2:decide (ku v>1)=false:=by simpa using e2
  clear e1
 rotate_left
 focus
  have HN:=q9 (show y=Nd.on x by rw [<- HY.out];unfold Nd.next;simp [hl,e1])
  have b1:(q57 v == q57 x.e)=false:=by simpa using e1
 rotate_left
 all_goals
  go_wp2_with fail
  have k6:=qb c6
  clear c0 c1 c2 c3 c4 c5 c6 c7 c8 z
  refine wiq ?_
  repeat (go_big_quiet_step ((first | (go_at_call 68;exact Calls.in_same (q0u _ _)) | (go_at_call 67;exact Calls.in_same (Xp _ _)))))
  refine wpQuiet_nil ?_
  intro w6 F6
  have h6:Va w6 b x:=Ob.up h5 F6
  have A6:=A5.kept F6
  have D6:=D5.then F6
  clear h5 A5 D5 k6 F6
  go_wp2_with fail
  obtain rfl:=HN.out
  refine (Uw x hc ht b _ h6).mono ?_;rintro e w7 ⟨rfl,h7,F7⟩
  have A7:=A6.kept F7 Lv Lx
  have D7:=zm D6 F7 Ll
  clear h6 A6 F7 D6
  obtain ⟨-,-,-,-,-,c5,-,-,-⟩:=xh h7
  go_wp2_with fail
  go_ret
  exact ⟨rfl,⟨x.lv,by rw [show ({ Nd.on x with lv:=x.lv }:Nd)=Nd.on x from (q8w x x.lv).symm];exact h7,by rw [qcq];exact sqK hs D7 hb hp2 hq2,.inl rfl⟩,A7,D7⟩
theorem q4c (x:Nd) (hl:x.live=false) (ht:0<=x.t/\x.t<=8) (b p q:Nat) (w:World) (h:Va w b x) :
  Calls Tryz.prog 238 #[.pointer (some ⟨b,0,none⟩),.pointer (some ⟨p,0,none⟩)] w fun e w'=>e = .returned (.bool (decide (x.line=0)))/\Fr [] w w':=by
 obtain ⟨c0,c1,c2,c3,c4,c5,c6,c7,c8⟩:=xh h;unfold Nd.live at hl;have l1:x.line≠1:=by intro h;rw [h] at hl;simp at hl
 have l2:x.line≠2:=by intro h;rw [h] at hl;simp at hl
 have l3:x.line≠3:=by intro h;rw [h] at hl;simp at hl
 have l4:x.line≠4:=by intro h;rw [h] at hl;simp at hl
 clear hl;go_enter Tryz.func238,Tryz.ntmps238;exact Df
theorem q76 (x:Nd) (hc:x.c.Ok) (ht:0<=x.t/\x.t<=8) (b p q:Nat) (s:St) (w:World) (h:Va w b x) (hA:Rar w p q s) (hp:b≠p) (hq:b≠q) (hs:Sq fI w x.lv x.l) (hb:b∉x.lv.ownBlock.toList) (hp2:p∉x.lv.ownBlock.toList) (hq2:q∉x.lv.ownBlock.toList) (hlen:x.l.length<=1000) :
  Calls Tryz.prog 238 #[.pointer (some ⟨b,0,none⟩),.pointer (some ⟨p,0,none⟩)] w fun e w'=>e = .returned (.bool (decide ((x.step s).1.line=0)))/\(∃ lv',Va w' b { (x.step s).1 with lv:=lv' } /\ Sq fI w' lv' (x.step s).1.l/\(lv'=x.lv\/((x.step s).1.l≠[]/\∀ g,g∈lv'.ownBlock.toList->w.heap.size<=g)))/\Rar w' p q (x.step s).2/\Fr [b,p,q] w w':=by
 unfold Nd.step;cases hl:x.live with
 | false=>exact (q4c x hl ht b p q w h).mono Na
 | true =>
  unfold Nd.live at hl;have hl':x.line=1\/x.line=2\/x.line=3\/x.line=4:=by simp only [Bool.and_eq_true,decide_eq_true_eq] at hl;omega
  rw [qf rfl];rcases hl' with l | l | l | l
  ·rw [show x.act s=s.load x.pa by unfold Nd.act;simp [l],show x.told s=qw s.l x.pa by unfold Nd.told;simp [l]];exact q3z x l hc ht b p q s w h hA hp hq hs hb hp2 hq2 hlen
  ·rw [show x.act s=s.add 1 1 by unfold Nd.act;simp [l],show x.told s=qw s.l 1 by unfold Nd.told;simp [l]];refine (q4r x l hc ht b p q s w h hA hp hq).mono ?_;rintro e w' ⟨rfl,h1,A1,D1⟩;have e1:x.next (qw s.l 1) = { x with v:=qw s.l 1,line:=3 }:=by unfold Nd.next;simp [l]
   exact Gg
  ·rw [show x.act s=s.swap x.pa x.e (wu (q57 x.e) (wrap64 (x.v+2))) by unfold Nd.act;simp [l]];refine (q4g x l hc ht b p q s w h hA hp hq).mono ?_;rintro e w' ⟨rfl,h1,A1,D1⟩;have e1:x.next (x.told s) = { x with line:=4 }:=by unfold Nd.next;simp [l]
   exact Gg
  ·rw [show x.act s=s.load x.pa by unfold Nd.act;simp [l],show x.told s=qw s.l x.pa by unfold Nd.told;simp [l]];exact q3u x l hc ht b p q s w h hA hp hq hs hb hp2 hq2 hlen
end Go.Proofs.YthokjbikomjhgaaGreatDoor.Mx
