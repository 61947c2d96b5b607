/- Parts. -/
import Derived.Test.YtppajakfaomkaaaGreatQbc
import Derived.Carry
set_option linter.unusedVariables false
set_option linter.unusedSimpArgs false
set_option maxRecDepth 100000
set_option maxHeartbeats 12800000
namespace Go.Proofs.YtppajakfaomkaaaGreat.Ch
open Go.RowKit Ar Mx Vw
structure Kr where
 hd:Hd
 b:Nat
 n:Nat
def Kr.lv (x:Kr):Value:=.slice (some ⟨x.b,0,none⟩) x.n x.n
def fK (x:Kr):List Value:=[.int .i64 x.hd.at_,.int .i64 x.hd.mn,.int .i64 x.hd.ct,.int .i64 x.hd.nx,.int .i64 x.hd.ld,.int .i64 x.hd.mt,.int .i64 x.hd.rp,.int .i64 x.hd.st,.slice (some ⟨x.b,0,none⟩) x.n x.n]
theorem q1o:Lays fK 9:=⟨fun _=>rfl,fun x u hu=>by simp [fK] at hu;rcases hu with rfl | rfl | rfl | rfl | rfl | rfl | rfl | rfl | rfl <;> rfl,by decide⟩
structure qbl (w:World) (B:Nat) (x:Kr) (y:Hd×List Ce):Prop where
 hd:x.hd=y.1
 len:x.n=y.2.length
 base:B<=x.b
 at_:Ob w x.b 138 (y.2.flatMap fC).toArray
theorem qbl.kept {S:List Nat} {w w':World} {B:Nat} {x:Kr} {y:Hd×List Ce} (h:qbl w B x y) (f:Fr S w w') (hS:∀ b cs,Ob w b 138 cs->b∉S):qbl w' B x y:=⟨h.hd,h.len,h.base,h.at_.kept f (hS _ _ h.at_)⟩
theorem qbl.ch {w:World} {B:Nat} {x:Kr} {y:Hd×List Ce} (h:qbl w B x y) (hy:y.2.length<=16):qb3 w (chV x.hd x.lv) y.1 y.2 :=
 ⟨x.lv,by rw [h.hd],by unfold Kr.lv;rw [h.len];exact Sq.block h.at_ (by simp) rfl (Nat.le_refl _) (by unfold maxLen;omega)⟩
structure Qn (w:World) (B:Nat) (xs:List Kr) (L:List (Hd×List Ce)):Prop where
 len:xs.length=L.length
 each:∀ (i:Nat) (x:Kr) (y:Hd×List Ce),xs[i]? = some x->L[i]? = some y->qbl w B x y
theorem Qn.kept {S:List Nat} {w w':World} {B:Nat} {xs:List Kr} {L:List (Hd×List Ce)} (h:Qn w B xs L) (f:Fr S w w') (hS:∀ b cs,Ob w b 138 cs->b∉S):Qn w' B xs L :=
 ⟨h.len,fun i x y hx hy=>(h.each i x y hx hy).kept f hS⟩
theorem Qn.up {w w':World} {B:Nat} {xs:List Kr} {L:List (Hd×List Ce)} (h:Qn w B xs L) (f:Fr [] w w'):Qn w' B xs L:=h.kept f (by simp)
theorem Qn.nil (w:World) (B:Nat):Qn w B [] []:=⟨rfl,fun i x y hx=>by simp at hx⟩
theorem Qn.add {w:World} {B:Nat} {xs:List Kr} {L:List (Hd×List Ce)} {x:Kr} {y:Hd×List Ce} (h:Qn w B xs L) (k:qbl w B x y):Qn w B (xs++[x]) (L++[y]):=by
 refine ⟨by simp [h.len],fun i u v hu hv=>?_⟩
 rw [List.getElem?_append] at hu hv
 by_cases hi:i<xs.length
 ·rw [qf hi] at hu
  rw [qf (by rw [<- h.len];exact hi)] at hv
  exact h.each i u v hu hv
 ·rw [qd hi] at hu
  rw [qd (by rw [<- h.len];exact hi)] at hv
  rw [h.len] at hu
  generalize i - L.length=j at hu hv
  cases j with
  | zero=>simp at hu hv;subst hu;subst hv;exact k
  | succ j=>simp at hu
theorem ckI:(Tryz.prog.info? 72).map (fun i=>(i.zero,i.size,i.bytes))=some (some (.agg #[.int .i64 0,.int .i64 0,.int .i64 0,.int .i64 0,.int .i64 0,.int .i64 0,.int .i64 0,.int .i64 0,.slice none 0 0]),9,88):=by kernel_rfl
theorem qbe (w:Int):0<=atU w/\atU w<=9223372036854775807:=by unfold atU;omega
theorem Xf (a:Int) (w:World):Calls Tryz.prog 26 #[.int .i64 a] w fun e w'=>e = .returned (.int .i64 (atU a))/\w=w' :=
 (Word.Xf a w).mono (by rintro e w' ⟨rfl,rfl⟩;exact ⟨rfl,rfl⟩)
theorem qef {a:Int} (h0:0<=a) (h1:a<=9223372036854775807):(Lit.int .i64 a).wf=true:=WalkArith.wf_i64 (by omega)
def sliceLen:Value->Nat
 | .slice _ n _=>n
 | _=>0
def qbg (acc:List Int) (y:Int):Option Value:=if y∈acc then some (.agg #[]) else none
theorem q37 (acc:List Int) (a:Int):(qbg acc a).getD (.agg #[]) = .agg #[]:=by unfold qbg;split <;> rfl
theorem Rm (acc:List Int) (a:Int):(qbg acc a).isSome=decide (a∈acc):=by unfold qbg;split <;> simp [*]
theorem qa2 (acc:List Int) (a:Int):(fun x=>if x=a then some (.agg #[]) else qbg acc x)=qbg (acc++[a]):=by
 funext x;unfold qbg
 by_cases h:x=a
 ·simp [h]
 ·by_cases h2:x∈acc <;> simp [h,h2]
def qea (w:World) (f:Int->Int) (len n:Nat) (t:Int) (bm:Nat) (u x:Value) (wr:World):Prop:=∃ k a acc xs,x = .int .i64 a/\0<=a/\a<=9223372036854775807/\Yh f len n k a acc=q2n f len n t/\Told len n acc/\k+acc.length=len+1 /\
 wr.ownsRow w.heap.size 72 9 u xs.length (xs.flatMap fK)/\Qn wr w.heap.size xs (acc.map (ckF f n))/\Zx wr bm acc.length (qbg acc)/\Fr [] w wr
def qcw (w:World) (L:List (Hd×List Ce)) (e:Ending) (w':World):Prop:=∃ v xs,e = .returned v/\w'.ownsRow w.heap.size 72 9 v xs.length (xs.flatMap fK)/\Qn w' w.heap.size xs L/\Fr [] w w'
theorem qe7 (W:World):(zeroValue 104).run Tryz.prog W = .ok (.agg #[]) W:=by kernel_rfl
theorem ja (t wd v:Int) (n p q:Nat) (s:St) (w:World) (ht:1<=t) (ht2:t<=8) (h1:1<=n) (h2:n<=16) (h3:n<=s.l.length) (h4:s.l.length<=20000) (hA:Ar w p q s) :
  Calls Tryz.prog 25 #[.agg #[.int .i64 t,.int .i64 n,.int .i64 wd,.int .i64 v],.pointer (some ⟨p,0,none⟩)] w (qcw w (zn (qq s.l) s.l.length n t)):=by
 have F0:=(Fr.refl [] w).alloc (.cells #[.int .i64 t,.int .i64 n,.int .i64 wd,.int .i64 v] 23)
 have o0:=Ob.new w 23 #[.int .i64 t,.int .i64 n,.int .i64 wd,.int .i64 v]
 have isE:=Er.isE
 have hmm:=@run_makeMap Tryz.prog
 go_enter Tryz.func25,Tryz.ntmps25
 have F1:=F0.alloc (.map #[] 0)
 have o1:=o0.alloc (.map #[] 0)
 have m1:=Zx.made (w.alloc (.cells #[.int .i64 t,.int .i64 n,.int .i64 wd,.int .i64 v] 23))
 rw [Zp] at m1
 obtain ⟨c0,c1,c2,c3⟩:=Pl.xc o1
 go_wp2_with fail
 clear hmm
 generalize (World.alloc (w.alloc (.cells #[.int .i64 t,.int .i64 n,.int .i64 wd,.int .i64 v] 23)) (.map #[] 0))=w1 at *
 clear o0 F0
 refine (Pl.Ql t n wd v ht ht2 _).mono ?_;rintro e w2 ⟨rfl,F2⟩
 replace F1:=F1.trans F2
 replace o1:=o1.up F2
 replace m1:=m1.up F2
 have A1:=hA.kept F1
 clear F2 c0 c1 c2 c3 w1
 go_wp2_with fail
 refine (je _ p q s _ A1).mono ?_;rintro e _ ⟨rfl,rfl⟩
 rw [show (3+t+4+2:Int)=9+t by omega]
 go_wp2_with fail
 refine (Xf _ _).mono ?_;rintro e _ ⟨rfl,rfl⟩
 go_wp2_with fail
 obtain ⟨ha0,ha1⟩:=qbe (qq s.l (9+t))
 have hst:qea w (qq s.l) s.l.length n t (w.heap.size+1) (.slice none 0 0) (.int .i64 (atU (qq s.l (9+t)))) w2 :=
  ⟨s.l.length+1,_,[],[],rfl,ha0,ha1,rfl,Told.nil _ _,by simp,⟨rfl,.inl ⟨rfl,rfl⟩⟩,Qn.nil _ _,m1,F1⟩
 have hr:w.heap.size<w2.heap.size:=o1.lt
 clear m1 ha0 ha1 A1
 generalize atU (qq s.l (9+t))=a0 at hst ⊢
 have HW:=q9 (show ∀ wr,Fr [] w wr->Ar wr p q s from fun wr F=>hA.kept F)
 clear hA
 go_loopw [5,7] (fun u x wr=>qea w (qq s.l) s.l.length n t (w.heap.size+1) u x wr/\Ob wr w.heap.size 23 #[.int .i64 t,.int .i64 n,.int .i64 wd,.int .i64 v]) (fun u _ _=>s.l.length+1 - sliceLen u)
 case atStart=>exact ⟨hst,o1⟩
 case round =>
  obtain ⟨⟨k,a,acc,xs,rfl,ha0,ha1,hwk,hT,hk,hr5,hC,hG,F⟩,oc⟩:=hrel
  have hacc:=hT.le
  have hxl:=q9 (show xs.length=acc.length by have:=hC.len;simpa using this)
  have hul:=q9 (show sliceLen u5=xs.length by obtain ⟨a',c',e,-⟩:=xz hr5;rw [e];rfl)
  obtain ⟨k,rfl⟩:∃ j,k=j+1:=⟨k - 1,by omega⟩
  by_cases ea:a=0
  ·have hE:=q9 (show q2n (qq s.l) s.l.length n t=acc by rw [<- hwk];unfold Yh;rw [qf (.inl ea)])
   have g0:(a != 0)=false:=by simp [ea]
   clear ea hwk
   go_wp2_with fail
   go_ret
   exact ⟨_,xs,rfl,hr5,by unfold zn;rw [hE.out];exact hC,F⟩
  ·have g0:(a != 0)=true:=by simpa using ea
   obtain ⟨c0,c1,c2,c3⟩:=Pl.xc oc
   have hwf:=qef ha0 ha1
   cases htb:Z3 s.l.length n a with
   | false =>
    have hE:=q9 (show q2n (qq s.l) s.l.length n t=acc by rw [<- hwk];unfold Yh;rw [qf (.inr (.inl htb))])
    go_wp2_with fail
    refine (qau t wd v a n p q s _ h1 h2 h3 h4 (HW.out _ F) htb).mono ?_;rintro e w5 ⟨rfl,F5⟩
    unfold chV
    go_wp2_with fail
    have F6:=(Fr.refl [] w5).alloc (.cells #[.int .i64 0,.int .i64 0,.int .i64 0,.int .i64 0,.int .i64 0,.int .i64 0,.int .i64 0,.int .i64 0,.slice none 0 0] 72)
    have E6:=F5.trans F6
    generalize World.alloc w5 _=w6 at *
    have hlk:=Zx.look (hG.up E6) Tryz.underlying101 (qe7 _) hwf true
    rw [qf rfl,q37,Rm] at hlk
    rw [hlk]
    clear hlk hwk
    generalize decide (a∈acc)=bb
    have E7:=E6.alloc (.cells #[] 104)
    cases bb
    all_goals
     go_wp2_with fail
     go_ret
     exact ⟨_,xs,rfl,qm hr5 E7,by unfold zn;rw [hE.out];exact hC.up E7,F.trans E7⟩
   | true =>
    go_wp2_with fail
    refine (q6t t wd v a n p q s _ h1 h2 h3 h4 (HW.out _ F) htb).mono ?_;rintro e w5 ⟨b,rfl,hb,ob,F5⟩
    generalize hhd:Sd s.l a=h at *
    generalize hcs:cellsOf s.l a n=cs at *
    have HX:=q9 (show ckF (qq s.l) n a=(h,cs)/\h.nx=qq s.l (a+2) from ⟨by rw [qaf,hhd,hcs],by rw [<- hhd];rfl⟩)
    clear hhd hcs
    unfold chV
    clear c0 c1 c2 c3
    go_wp2_with fail
    have F6:=(Fr.refl [] w5).alloc (.cells #[.int .i64 h.at_,.int .i64 h.mn,.int .i64 h.ct,.int .i64 h.nx,.int .i64 h.ld,.int .i64 h.mt,.int .i64 h.rp,.int .i64 h.st,.slice (some ⟨b,0,none⟩) cs.length cs.length] 72)
    have o6:Ob _ w5.heap.size 72 #[.int .i64 h.at_,.int .i64 h.mn,.int .i64 h.ct,.int .i64 h.nx,.int .i64 h.ld,.int .i64 h.mt,.int .i64 h.rp,.int .i64 h.st,.slice (some ⟨b,0,none⟩) cs.length cs.length]:=Ob.new w5 72 #[.int .i64 h.at_,.int .i64 h.mn,.int .i64 h.ct,.int .i64 h.nx,.int .i64 h.ld,.int .i64 h.mt,.int .i64 h.rp,.int .i64 h.st,.slice (some ⟨b,0,none⟩) cs.length cs.length]
    have E6:=F5.trans F6
    have hws:=F5.size
    generalize hw6:World.alloc w5 _=w6 at *
    clear hw6
    generalize hbx:w5.heap.size=bx at *
    have ob6:=ob.up F6
    clear F5 F6 ob
    have hlk:=Zx.look (hG.up E6) Tryz.underlying101 (qe7 _) hwf true
    rw [qf rfl,q37,Rm] at hlk
    rw [hlk]
    clear hlk
    by_cases hm:a∈acc
    ·have hE:=q9 (show q2n (qq s.l) s.l.length n t=acc by rw [<- hwk];unfold Yh;rw [qf (.inr (.inr hm))])
     rw [decide_eq_true hm]
     have E7:=E6.alloc (.cells #[] 104)
     clear hwk hm
     go_wp2_with fail
     go_ret
     exact ⟨_,xs,rfl,qm hr5 E7,by unfold zn;rw [hE.out];exact hC.up E7,F.trans E7⟩
    ·have hE:=q9 (show Yh (qq s.l) s.l.length n k (atU (qq s.l (a+2))) (acc++[a])=q2n (qq s.l) s.l.length n t by rw [<- hwk];conv=>rhs;unfold Yh;rw [qd (by rintro (h | h | h) <;> simp_all)])
     have hT2:=q9 (hT.add htb hm)
     rw [decide_eq_false hm]
     clear hwk hm hT
     go_wp2_with fail
     have F7:=(Fr.refl [] w6).alloc (.cells #[] 104)
     have E7:=E6.trans F7
     generalize hw7:World.alloc w6 _=w7 at *
     clear hw7 E6
     obtain ⟨w8,r8,G8,F8⟩:=Zx.put (hG.up E7) Tryz.underlying101 (by unfold maxLen;omega) hwf (.agg #[])
     rw [r8,qa2] at *
     clear r8
     have hmap:=hG.up E7
     have nr:=qm hr5 E7
     have hlt:=fun g hg=>(hr5.lt g hg).2
     have hFs:=F.size
     have nm:∀ g,u5.ownBlock=some g->g∉[w.heap.size+1]:=by
      intro g hg hi
      obtain ⟨es,ck,he⟩:=hmap.is_map
      simp at hi;subst hi
      exact Yc nr he (by rw [hg];simp)
     have o8:=(o6.up F7).kept F8 (by simp;exact (hmap.ne (o6.up F7)).symm)
     have ob8:=(ob6.up F7).kept F8 (by simp;exact (hmap.ne (ob6.up F7)).symm)
     have C8:=(hC.up E7).kept F8 (fun b cs o=>by simp;exact (hmap.ne o).symm)
     have r8:=jr nr F8 nm
     have oc8:=(oc.up E7).kept F8 (by simp)
     have E8:=(F.trans E7).own F8 (by simp)
     clear nr hr5 hC hG oc o6 ob6 hmap nm F F7 F8 E7
     obtain ⟨x0,x1,x2,x3,x4,x5,x6,x7,x8⟩:=yz o8
     have hnr:bx∉u5.ownBlock.toList:=by
      intro hi
      have:=hlt bx (by simpa using hi)
      omega
     have GA:=(Fr.refl [] w8).alloc (.cells #[.int .i64 h.at_,.int .i64 h.mn,.int .i64 h.ct,.int .i64 h.nx,.int .i64 h.ld,.int .i64 h.mt,.int .i64 h.rp,.int .i64 h.st,.slice (some ⟨b,0,none⟩) cs.length cs.length] 72)
     have X4:=qm r8 GA
     have kx:=(Qn.add C8 (x:=(⟨h,b,cs.length⟩:Kr)) (y:=(h,cs)) ⟨rfl,rfl,by show w.heap.size<=b;omega,ob8⟩).up GA
     have X3:=(Sq.block (f:=fK) (xs:=[(⟨h,b,cs.length⟩:Kr)]) (c:=1) (Ob.new w8 72 #[.int .i64 h.at_,.int .i64 h.mn,.int .i64 h.ct,.int .i64 h.nx,.int .i64 h.ld,.int .i64 h.mt,.int .i64 h.rp,.int .i64 h.st,.slice (some ⟨b,0,none⟩) cs.length cs.length]) rfl rfl (Nat.le_refl _) (by simp [maxLen]))
     have EA:=E8.trans GA
     have nC:=fun (b:Nat) cs (o:Ob _ b 138 cs)=>jd X4 o (by decide)
     have no:=jd X4 (oc8.up GA) (by decide)
     have MA:=G8.up GA
     have nm:w.heap.size+1∉u5.ownBlock.toList:=by
      obtain ⟨es,ck,he⟩:=MA.is_map
      exact Yc X4 he
     have oA:=o8.up GA
     have ocA:=oc8.up GA
     have hsA:=EA.size
     have HL:=q9 (show xs.length+1<=30000 by have:=hxl.out;omega)
     clear C8 r8 oc8 ob8 o8 E8 G8
     go_wp2_with (at_builtin;refine qp q1o rfl _ _ 68 rfl Tryz.underlying68 ckI rfl (B:=w.heap.size) u5 xs rfl X4 _ [(⟨h,b,cs.length⟩:Kr)] rfl X3 (show xs.length+1<=1000000 by have:=HL.out;omega) (by decide) hsA ?_;intro a9 c9 w9 r9 F9;generalize hT:xs++[(⟨h,b,cs.length⟩:Kr)]=T at r9 ⊢;have C9:=kx.kept F9 nC;have o9:=oA.kept F9 hnr;have oc9:=ocA.kept F9 no;have M9:=MA.kept F9 nm;have E9:=EA.own F9 (z6 X4);have HT:=q9 hT;clear kx oA ocA MA EA X4 X3 nC no nm hnr GA x0 x1 x2 x3 x4 x5 x6 x7 x8 hT F9 hsA;obtain ⟨x0,x1,x2,x3,x4,x5,x6,x7,x8⟩:=yz o9)
     refine (Xf _ _).mono ?_;rintro e _ ⟨rfl,rfl⟩
     go_wp2_with fail
     go_roundw
     case rel =>
      obtain ⟨hb0,hb1⟩:=qbe h.nx
      have hxn:=HX.out.2
      exact ⟨⟨k,_,acc++[a],T,rfl,hb0,hb1,by rw [hxn];exact hE.out,hT2.out,by simp;omega,r9,by rw [<- HT.out,List.map_append,List.map_singleton,HX.out.1];exact C9,by simpa using M9,E9⟩,oc9⟩
     case measure =>
      have hTl:T.length=xs.length+1:=by rw [<- HT.out];simp
      show s.l.length+1 - T.length<s.l.length+1 - sliceLen u5
      rw [hul.out]
      have:=hxl.out
      omega
def q2e (g:Int->Option It) (x:It):Int->Option It:=if (g x.k).all (fun y=>decide (y.v<=x.v))=true then (fun k=>if k=x.k then some x else g k) else g
def q8x (l:List It):Int->Option It:=l.foldl q2e (fun _=>none)
def q0a (x:Int):List Int->List Int
 | []=>[x]
 | y :: r=>if x<y then x :: y :: r else if x=y then y :: r else y :: q0a x r
def Ur (l:List It):List Int:=l.foldl (fun a x=>q0a x.k a) []
theorem Tf (x:Int):∀ (l:List Int) (a:Int),a∈q0a x l↔a=x\/a∈l
 | [],a=>by simp [q0a]
 | y :: r,a=>by
  unfold q0a
  split
  ·simp
  ·split
   ·rename_i h;subst h;simp
   ·simp only [List.mem_cons,Tf x r a]
    constructor
    ·rintro (h | h | h) <;> simp [h]
    ·rintro (h | h | h) <;> simp [h]
theorem Tq (x:Int):∀ (l:List Int),l.Pairwise (· < ·)->(q0a x l).Pairwise (· < ·)
 | [],_=>by simp [q0a]
 | y :: r,h=>by
  have h':=List.pairwise_cons.1 h
  unfold q0a
  split
  ·rename_i hlt
   refine List.pairwise_cons.2 ⟨fun a ha=>?_,h⟩
   rcases List.mem_cons.1 ha with rfl | ha
   ·exact hlt
   ·have:=h'.1 a ha;omega
  ·split
   ·exact h
   ·refine List.pairwise_cons.2 ⟨fun a ha=>?_,Tq x r h'.2⟩
    rcases (Tf x r a).1 ha with rfl | ha
    ·omega
    ·exact h'.1 a ha
theorem Wt (l:List It):∀ (a:List Int),a.Pairwise (· < ·)->(l.foldl (fun a x=>q0a x.k a) a).Pairwise (· < ·)/\∀ k,k∈l.foldl (fun a x=>q0a x.k a) a↔k∈a\/∃ x∈l,x.k=k:=by
 induction l with
 | nil=>intro a h;exact ⟨h,by simp⟩
 | cons x l ih =>
  intro a h
  obtain ⟨h1,h2⟩:=ih (q0a x.k a) (Tq _ _ h)
  refine ⟨h1,fun k=>?_⟩
  rw [List.foldl_cons,h2,Tf]
  simp only [List.mem_cons,exists_eq_or_imp]
  constructor
  ·rintro ((rfl | h) | h)
   ·exact .inr (.inl rfl)
   ·exact .inl h
   ·exact .inr (.inr h)
  ·rintro (h | rfl | h)
   ·exact .inl (.inr h)
   ·exact .inl (.inl rfl)
   ·exact .inr h
theorem q50 (l:List It):(Ur l).Pairwise (· < ·):=(Wt l [] .nil).1
theorem q03 (l:List It) (k:Int):k∈Ur l↔∃ x∈l,x.k=k:=by unfold Ur;rw [(Wt l [] .nil).2];simp
theorem q6o (g:Int->Option It) (x:It) (k:Int):(q2e g x k).isSome=((g k).isSome || decide (k=x.k)):=by
 unfold q2e
 by_cases e:k=x.k
 ·subst e
  split
  ·simp
  ·rename_i h
   cases hg:g x.k with
   | none=>rw [hg] at h;simp at h
   | some y=>simp
 ·split <;> simp [e]
theorem q7y (l:List It):∀ (g:Int->Option It) (k:Int),(l.foldl q2e g k).isSome=((g k).isSome || decide (∃ x∈l,x.k=k)):=by
 induction l with
 | nil=>intro g k;simp
 | cons x l ih =>
  intro g k
  rw [List.foldl_cons,ih,q6o]
  by_cases h1:k=x.k
  ·subst h1;simp
  ·have h2:¬ x.k=k:=fun e=>h1 e.symm
   simp [h1,h2]
theorem q6q (l:List It) (k:Int):(q8x l k).isSome=decide (k∈Ur l):=by
 unfold q8x;rw [q7y]
 simp [q03]
def q5z (g:Int->Option It) (k:Int):Option (Int×Int):=(g k).bind fun x=>if Ue x.d = -1 then none else some (k,Ue x.d)
def qew (l:List It):List (Int×Int):=(Ur l).filterMap (q5z (q8x l))
def fN (x:Int):List Value:=[.int .i64 x]
theorem q1s:Lays fN 1:=⟨fun _=>rfl,fun x u hu=>by simp [fN] at hu;subst hu;rfl,by decide⟩
theorem intN:(Tryz.prog.info? 3).map (fun i=>(i.zero,i.size,i.bytes))=some (some (.int .i64 0),1,8):=by kernel_rfl
theorem Z1 {w:World} {a:Option Addr} {n cap i:Nat} {xs:List Kr} {x:Kr} (h:Sq fK w (.slice a n cap) xs) (hi:xs[i]? = some x) :
  ∃ g off,a=some ⟨g,off,none⟩/\w.cell? ⟨g,off+i * 9,none⟩=some (.int .i64 x.hd.at_)/\w.cell? ⟨g,off+i * 9+1,none⟩=some (.int .i64 x.hd.mn)/\w.cell? ⟨g,off+i * 9+2,none⟩=some (.int .i64 x.hd.ct)/\w.cell? ⟨g,off+i * 9+3,none⟩=some (.int .i64 x.hd.nx) /\
   w.cell? ⟨g,off+i * 9+4,none⟩=some (.int .i64 x.hd.ld)/\w.cell? ⟨g,off+i * 9+5,none⟩=some (.int .i64 x.hd.mt)/\w.cell? ⟨g,off+i * 9+6,none⟩=some (.int .i64 x.hd.rp)/\w.cell? ⟨g,off+i * 9+7,none⟩=some (.int .i64 x.hd.st)/\w.cell? ⟨g,off+i * 9+8,none⟩=some (.slice (some ⟨x.b,0,none⟩) x.n x.n):=by
 obtain ⟨-,g,off,rfl,hc⟩:=Sq.cell q1o h hi
 exact ⟨g,off,rfl,hc 0 _ rfl,hc 1 _ rfl,hc 2 _ rfl,hc 3 _ rfl,hc 4 _ rfl,hc 5 _ rfl,hc 6 _ rfl,hc 7 _ rfl,hc 8 _ rfl⟩
theorem Qn.hds {w:World} {B:Nat} {xs:List Kr} {L:List (Hd×List Ce)} (h:Qn w B xs L):xs.map Kr.hd=L.map Prod.fst:=by
 apply List.ext_getElem?
 intro i
 simp only [List.getElem?_map]
 by_cases hi:i<xs.length
 ·have h2:i<L.length:=by rw [<- h.len];exact hi
  have e1:=List.getElem?_eq_getElem hi
  have e2:=List.getElem?_eq_getElem h2
  rw [e1,e2]
  simp [(h.each i _ _ e1 e2).hd]
 ·rw [List.getElem?_eq_none (by omega),List.getElem?_eq_none (by rw [<- h.len];omega)];rfl
theorem Qn.hat {w:World} {B:Nat} {xs:List Kr} {L:List (Hd×List Ce)} (h:Qn w B xs L):xs.map (fun x=>x.hd.at_)=L.map (fun y=>y.1.at_):=by
 have:=congrArg (List.map Hd.at_) h.hds
 simpa only [List.map_map,Function.comp_def] using this
theorem q6c (f:Int->Int) (len n:Nat) (t:Int):(zn f len n t).map (fun y=>y.1.at_)=q2n f len n t:=by
 unfold zn;simp [ckF,Function.comp_def]
theorem Xn (f:Int->Int) (len n:Nat) (t:Int):(zn f len n t).length<=len:=by
 unfold zn;rw [List.length_map];exact (S5 f len n t).le
def AllAt (w:World) (xs:List Kr) (u x:Value) (wr:World):Prop:=∃ i,i<=xs.length/\x = .int .i64 (i:Nat)/\wr.ownsRow w.heap.size 3 1 u ((xs.take i).map (fun x=>x.hd.at_)).length (((xs.take i).map (fun x=>x.hd.at_)).flatMap fN)/\Fr [] w wr
theorem q0z (t wd v:Int) (n p q:Nat) (s:St) (w:World) (ht:1<=t) (ht2:t<=8) (h1:1<=n) (h2:n<=16) (h3:n<=s.l.length) (h4:s.l.length<=20000) (hA:Ar w p q s) :
  Calls Tryz.prog 9 #[.agg #[.int .i64 t,.int .i64 n,.int .i64 wd,.int .i64 v],.pointer (some ⟨p,0,none⟩)] w fun e w'=>(∃ u,e = .returned u/\w'.ownsRow w.heap.size 3 1 u (q2n (qq s.l) s.l.length n t).length ((q2n (qq s.l) s.l.length n t).flatMap fN))/\Fr [] w w':=by
 have F0:=(Fr.refl [] w).alloc (.cells #[.int .i64 t,.int .i64 n,.int .i64 wd,.int .i64 v] 23)
 obtain ⟨c0,c1,c2,c3⟩:=Pl.xc (Ob.new w 23 #[.int .i64 t,.int .i64 n,.int .i64 wd,.int .i64 v])
 have H:=q9 (ja t wd v n p q s _ ht ht2 h1 h2 h3 h4 (hA.kept F0))
 rw [<- q6c]
 have hcl:=Xn (qq s.l) s.l.length n t
 generalize zn (qq s.l) s.l.length n t=L at *
 clear hA
 go_enter Tryz.func9,Tryz.ntmps9
 go_wp2_with fail
 clear c0 c1 c2 c3
 refine H.out.mono ?_;rintro e w1 ⟨lv,xs,rfl,hr,hC,F1⟩
 clear H
 have FW:=F0.trans F1
 have hs:=q9 (Sq.own hr)
 have HA:=q9 hC.hat
 have hxl:xs.length<=20000:=by rw [hC.len];omega
 obtain ⟨a,cap,rfl,-,-⟩:=xz hr
 have HF:=q9 F1
 clear F0 F1 hr hC hcl
 go_wp2_with fail
 go_loopw [5,12] (AllAt w1 xs) (fun _ x _=>xs.length - (RowKit.intOf x).toNat)
 case atStart=>exact ⟨0,by omega,rfl,⟨rfl,.inl ⟨rfl,rfl⟩⟩,Fr.refl _ _⟩
 case round =>
  obtain ⟨i,hi,rfl,hr,F⟩:=hrel
  by_cases hlt:i<xs.length
  ·obtain ⟨x,hx⟩:∃ x,xs[i]? = some x:=⟨xs[i],List.getElem?_eq_getElem hlt⟩
   obtain ⟨g,off,rfl,d0,d1,d2,d3,d4,d5,d6,d7,d8⟩:=Z1 (hs.out.up F) hx
   have hn:(xs.take (i+1)).map (fun x=>x.hd.at_)=(xs.take i).map (fun x=>x.hd.at_)++[x.hd.at_]:=by
    rw [List.take_add_one,hx];simp
   have hal:((xs.take i).map (fun x=>x.hd.at_)).length<=20000:=by simp;omega
   generalize (xs.take i).map (fun x=>x.hd.at_)=out at hr hn hal ⊢
   have HN:=q9 (qc hn hal)
   clear hn hal
   have F5:=(Fr.refl [] wr).alloc (.cells #[.int .i64 x.hd.at_,.int .i64 x.hd.mn,.int .i64 x.hd.ct,.int .i64 x.hd.nx,.int .i64 x.hd.ld,.int .i64 x.hd.mt,.int .i64 x.hd.rp,.int .i64 x.hd.st,.slice (some ⟨x.b,0,none⟩) x.n x.n] 72)
   have GA:=F5.alloc (.cells #[.int .i64 x.hd.at_] 3)
   have X4:=qm hr GA
   have X3:=(Sq.block (f:=fN) (xs:=[x.hd.at_]) (c:=1) (Ob.newAt (Zp wr (.cells #[.int .i64 x.hd.at_,.int .i64 x.hd.mn,.int .i64 x.hd.ct,.int .i64 x.hd.nx,.int .i64 x.hd.ld,.int .i64 x.hd.mt,.int .i64 x.hd.rp,.int .i64 x.hd.st,.slice (some ⟨x.b,0,none⟩) x.n x.n] 72)) 3 #[.int .i64 x.hd.at_]) rfl rfl (Nat.le_refl _) (by simp [maxLen]))
   have EA:=F.trans GA
   have hsA:=EA.size
   clear F5 GA hr
   go_wp2_with (at_builtin;refine qp q1s rfl _ _ 25 rfl Tryz.underlying25 intN rfl (B:=w1.heap.size) u5 out rfl X4 _ [x.hd.at_] rfl X3 (show out.length+1<=1000000 by have:=HN.out.2;omega) (by decide) hsA ?_;intro a9 c9 w9 r9 F9;generalize hT:out++[x.hd.at_]=T at r9 ⊢;have E9:=EA.own F9 (z6 X4);have HT:=q9 hT;clear hT F9 X3 X4 hsA EA)
   go_roundw
   case rel=>exact ⟨i+1,by omega,by go_num,by rw [HN.out.1,HT.out];exact r9,E9⟩
   case measure=>simp [RowKit.intOf];omega
  ·obtain rfl:i=xs.length:=by omega
   rw [List.take_length] at hr
   have HR:=q9 hr
   clear hr
   go_wp2
   go_ret
   exact ⟨⟨_,rfl,by rw [<- HA.out];exact jv HR.out FW.size⟩,FW.trans F⟩
def ofK (xs:List Kr) (key:Int):Int:=xs.foldl (fun a x=>if x.hd.mn<=key then x.hd.at_ else a) 0
theorem qc0 {w:World} {B:Nat} {xs:List Kr} {L:List (Hd×List Ce)} (h:Qn w B xs L) (key:Int):ofK xs key=ofL L key:=by
 have e:=h.hds
 unfold ofK ofL
 generalize (0:Int)=a
 clear h
 induction xs generalizing L a with
 | nil=>cases L with
  | nil=>rfl
  | cons y L=>simp at e
 | cons x xs ih=>cases L with
  | nil=>simp at e
  | cons y L =>
   simp only [List.map_cons,List.cons.injEq] at e
   rw [List.foldl_cons,List.foldl_cons,e.1]
   exact ih e.2 _
theorem qa5 {xs:List Kr} {i:Nat} {x:Kr} (hx:xs[i]? = some x) (key:Int):ofK (xs.take (i+1)) key=if x.hd.mn<=key then x.hd.at_ else ofK (xs.take i) key:=by
 unfold ofK
 rw [List.take_add_one,hx,Option.toList_some,List.foldl_append];rfl
def OfAt (w:World) (xs:List Kr) (key:Int) (u x:Value) (wr:World):Prop:=∃ i,i<=xs.length/\x = .int .i64 (i:Nat)/\u = .int .i64 (ofK (xs.take i) key)/\Fr [] w wr
theorem Xv (t wd v key:Int) (n p q:Nat) (s:St) (w:World) (ht:1<=t) (ht2:t<=8) (h1:1<=n) (h2:n<=16) (h3:n<=s.l.length) (h4:s.l.length<=20000) (hA:Ar w p q s) :
  Calls Tryz.prog 11 #[.agg #[.int .i64 t,.int .i64 n,.int .i64 wd,.int .i64 v],.pointer (some ⟨p,0,none⟩),.int .i64 key] w fun e w'=>e = .returned (.int .i64 (ofL (zn (qq s.l) s.l.length n t) key))/\Fr [] w w':=by
 have F0:=(Fr.refl [] w).alloc (.cells #[.int .i64 t,.int .i64 n,.int .i64 wd,.int .i64 v] 23)
 obtain ⟨c0,c1,c2,c3⟩:=Pl.xc (Ob.new w 23 #[.int .i64 t,.int .i64 n,.int .i64 wd,.int .i64 v])
 have H:=q9 (ja t wd v n p q s _ ht ht2 h1 h2 h3 h4 (hA.kept F0))
 have hcl:=Xn (qq s.l) s.l.length n t
 generalize zn (qq s.l) s.l.length n t=L at *
 clear hA
 go_enter Tryz.func11,Tryz.ntmps11
 go_wp2_with fail
 clear c0 c1 c2 c3
 refine H.out.mono ?_;rintro e w1 ⟨lv,xs,rfl,hr,hC,F1⟩
 clear H
 have FW:=F0.trans F1
 have hs:=q9 (Sq.own hr)
 have HO:=q9 (qc0 hC key)
 have hxl:xs.length<=20000:=by rw [hC.len];omega
 obtain ⟨a,cap,rfl,-,-⟩:=xz hr
 clear F0 F1 hr hC hcl
 go_wp2_with fail
 go_loopw [7,14] (OfAt w1 xs key) (fun _ x _=>xs.length - (RowKit.intOf x).toNat)
 case atStart=>exact ⟨0,by omega,rfl,rfl,Fr.refl _ _⟩
 case round =>
  obtain ⟨i,hi,rfl,rfl,F⟩:=hrel
  by_cases hlt:i<xs.length
  ·obtain ⟨x,hx⟩:∃ x,xs[i]? = some x:=⟨xs[i],List.getElem?_eq_getElem hlt⟩
   obtain ⟨g,off,rfl,d0,d1,d2,d3,d4,d5,d6,d7,d8⟩:=Z1 (hs.out.up F) hx
   have HN:=q9 (qa5 hx key)
   generalize ofK (xs.take i) key=o at *
   have F5:=F.trans ((Fr.refl [] wr).alloc (.cells #[.int .i64 x.hd.at_,.int .i64 x.hd.mn,.int .i64 x.hd.ct,.int .i64 x.hd.nx,.int .i64 x.hd.ld,.int .i64 x.hd.mt,.int .i64 x.hd.rp,.int .i64 x.hd.st,.slice (some ⟨x.b,0,none⟩) x.n x.n] 72))
   by_cases hk:x.hd.mn<=key
   ·have g1:decide (x.hd.mn<=key)=true:=by simpa using hk
    have HN2:=q9 (HN.out.trans (qf hk))
    clear hk HN
    go_wp2_with fail
    go_roundw
    case rel=>exact ⟨i+1,by omega,by go_num,by rw [HN2.out],F5⟩
    case measure=>simp [RowKit.intOf];omega
   ·have g1:decide (x.hd.mn<=key)=false:=by simpa using hk
    have HN2:=q9 (HN.out.trans (qd hk))
    clear hk HN
    go_wp2_with fail
    go_roundw
    case rel=>exact ⟨i+1,by omega,by go_num,by rw [HN2.out],F5⟩
    case measure=>simp [RowKit.intOf];omega
  ·obtain rfl:i=xs.length:=by omega
   rw [List.take_length]
   have HF:=q9 F
   clear F
   generalize ofK xs key=o at *
   go_wp2
   go_ret
   exact ⟨by rw [HO.out];rfl,FW.trans HF.out⟩
def stB (mn:Int) (its:List It) (nx:Option Int):Bool:=nx.all (fun m=>decide (mn<m)) && its.all fun it=>decide (mn<=it.k) && nx.all (fun m=>decide (it.k<m))
theorem q52 (x:Hd×List Ce) (r:List (Hd×List Ce)):stB x.1.mn (vq x.2) (r.head?.map (fun y=>y.1.mn))=Xc x r:=by
 unfold stB Xc
 cases r with
 | nil=>simp
 | cons y r=>simp
def StAt (w:World) (its:List It) (P:It->Bool) (x:Value) (wr:World):Prop:=∃ i,i<=its.length/\x = .int .i64 (i:Nat)/\Fr [] w wr/\∀ j y,j<i->its[j]? = some y->P y=true
theorem q66 {α:Type} {l:List α} {P:α->Bool} (h:∀ (j:Nat) y,j<l.length->l[j]? = some y->P y=true):l.all P=true:=by
 rw [List.all_eq_true];intro y hy
 obtain ⟨j,hj⟩:=List.mem_iff_getElem?.1 hy
 exact h j y (List.getElem?_eq_some_iff.1 hj).1 hj
theorem q0q {α:Type} {l:List α} {P:α->Bool} {j:Nat} {y:α} (hj:l[j]? = some y) (h:P y=false):l.all P=false:=by
 rw [List.all_eq_false];exact ⟨y,List.mem_of_getElem? hj,by simp [h]⟩
theorem q4l (h:Hd) (cs:List Ce) (v:Value) (a:Option Addr) (cap:Nat) (w:World) (hl:cs.length<=1000) (hv:qb3 w v h cs) :
  Calls Tryz.prog 27 #[v,.slice a 0 cap] w fun e w'=>e = .returned (.bool (stB h.mn (vq cs) none))/\Fr [] w w':=by
 obtain ⟨lv,rfl,hs⟩:=hv
 have HI:=q9 (show ∀ wr,Fr [] w wr->Calls Tryz.prog 47 #[chV h lv] wr fun e w'=>(∃ u,e = .returned u/\w'.ownsRow wr.heap.size 89 3 u (vq cs).length ((vq cs).flatMap fT))/\Fr [] wr w' from fun wr F=>Je h cs _ wr hl ⟨lv,rfl,hs.up F⟩)
 have o0:=Ob.new w 72 (chC h lv)
 have F0:=(Fr.refl [] w).alloc (.cells (chC h lv) 72)
 obtain ⟨x0,x1,x2,x3,x4,x5,x6,x7,x8⟩:=yz o0
 have hil:=Q0 cs
 generalize vq cs=its at *
 clear hs
 unfold chV chC at *
 have hst:stB h.mn its none=its.all (fun it=>decide (h.mn<=it.k)):=by unfold stB;simp
 rw [hst]
 have HST:=q9 hst
 clear hst
 go_enter Tryz.func27,Tryz.ntmps27
 go_wp2_with fail
 have k1:=qb x1
 clear x0 x1 x2 x3 x4 x5 x6 x7 x8
 refine wiq ?_
 repeat (go_big_quiet_step (fail))
 refine wpQuiet_nil ?_
 intro w1 F1
 have o1:=o0.up F1
 have FW:=F0.trans F1
 obtain ⟨x0,x1,x2,x3,x4,x5,x6,x7,x8⟩:=yz (lv:=lv) (h:=h) o1
 clear o0 F0 F1 k1
 go_wp2_with fail
 refine (HI.out _ FW).mono ?_;rintro e w2 ⟨⟨u,rfl,hr⟩,F2⟩
 have hs:=q9 (Sq.own hr)
 obtain ⟨a',cap',rfl,-,-⟩:=xz hr
 have FX:=q9 (FW.trans F2)
 have o2:=o1.up F2
 clear HI hr F2 FW o1 x0 x1 x2 x3 x4 x5 x6 x7 x8
 go_wp2_with fail
 go_loopw [22] (fun u wr=>StAt w2 its (fun it:It=>decide (h.mn<=it.k)) u wr) (fun u _=>its.length - (RowKit.intOf u).toNat)
 case atStart=>exact ⟨0,by omega,rfl,Fr.refl _ _,by omega⟩
 case round =>
  obtain ⟨i,hi,rfl,F,hP⟩:=hrel
  by_cases hlt:i<its.length
  ·obtain ⟨x,hx⟩:∃ x,its[i]? = some x:=⟨its[i],List.getElem?_eq_getElem hlt⟩
   obtain ⟨g2,off2,rfl,e0,e1,e2⟩:=xd (hs.out.up F) hx
   have HX:=q9 (qc hx hP)
   clear hx hP
   have F5:=(Fr.refl [] wr).alloc (.cells #[.int .i64 x.k,.int .i64 x.v,.int .i64 x.d] 89)
   have o5:=Ob.new wr 89 #[.int .i64 x.k,.int .i64 x.v,.int .i64 x.d]
   obtain ⟨x0,x1,x2,x3,x4,x5,x6,x7,x8⟩:=yz (lv:=lv) (h:=h) ((o2.up F).up F5)
   clear x0 x2 x3 x4 x5 x6 x7 x8
   go_wp2_with fail
   generalize (wr.alloc (.cells #[.int .i64 x.k,.int .i64 x.v,.int .i64 x.d] 89))=w5 at *
   have j0:=qb (o5.cell (i:=0) rfl)
   have k1:=qb x1
   clear o5 e0 e1 e2 x1
   by_cases q1:x.k<h.mn
   ·have g1:decide (x.k<h.mn)=true:=by simpa using q1
    have HQ:=q9 q1
    clear q1
    refine wiq ?_
    repeat (go_big_quiet_step (fail))
    refine wpQuiet_nil ?_
    intro w6 F6
    have F9:=q9 (F.trans (F5.trans F6))
    clear F5 F6 F k1 j0
    go_wp2_with fail
    go_ret
    exact ⟨by rw [q0q HX.out.1 (by have:=HQ.out;simp;omega)];rfl,FX.out.trans F9.out⟩
   ·have g1:decide (x.k<h.mn)=false:=by simpa using q1
    have HQ:=q9 q1
    clear q1
    refine wiq ?_
    repeat (go_big_quiet_step (fail))
    refine wpQuiet_nil ?_
    intro w6 F6
    have F9:=q9 (F.trans (F5.trans F6))
    clear F5 F6 F k1 j0
    go_wp2_with fail
    go_roundw
    case rel=>exact ⟨i+1,by omega,by go_num,F9.out,fun j z hj hz=>by
     by_cases e:j=i
     ·subst e;rw [HX.out.1] at hz;cases hz;have:=HQ.out;simp;omega
     ·exact HX.out.2 j z (by omega) hz⟩
    case measure=>simp [RowKit.intOf];omega
  ·obtain rfl:i=its.length:=by omega
   have HP:=q9 (q66 hP)
   have FX2:=q9 (FX.out.trans F)
   clear hP F
   go_wp2
   go_ret
   exact ⟨by rw [HP.out];rfl,FX2.out⟩
theorem q1n (h:Hd) (cs:List Ce) (v:Value) (y:Kr) (ys:List Kr) (bv:Value) (w:World) (hl:cs.length<=1000) (hv:qb3 w v h cs) (hb:Sq fK w bv (y :: ys)) (hyl:ys.length<=100000) :
  Calls Tryz.prog 27 #[v,bv] w fun e w'=>e = .returned (.bool (stB h.mn (vq cs) (some y.hd.mn)))/\Fr [] w w':=by
 obtain ⟨lv,rfl,hs⟩:=hv
 have HI:=q9 (show ∀ wr,Fr [] w wr->Calls Tryz.prog 47 #[chV h lv] wr fun e w'=>(∃ u,e = .returned u/\w'.ownsRow wr.heap.size 89 3 u (vq cs).length ((vq cs).flatMap fT))/\Fr [] wr w' from fun wr F=>Je h cs _ wr hl ⟨lv,rfl,hs.up F⟩)
 have o0:=Ob.new w 72 (chC h lv)
 have F0:=(Fr.refl [] w).alloc (.cells (chC h lv) 72)
 obtain ⟨x0,x1,x2,x3,x4,x5,x6,x7,x8⟩:=yz o0
 have hil:=Q0 cs
 generalize vq cs=its at *
 clear hs
 unfold chV chC at *
 obtain ⟨a,cap,rfl,hcap,hmax,-⟩:=id hb
 obtain ⟨g,off,rfl,-,d1,-⟩:=Z1 (hb.up F0) (i:=0) (x:=y) rfl
 rw [Nat.zero_mul,Nat.add_zero] at d1
 have hlen:(y :: ys).length=ys.length+1:=rfl
 rw [hlen] at hb hcap ⊢
 have gl:decide (((ys.length+1:Nat):Int)>0)=true:=by simp
 have HB:=q9 hb
 clear hb hlen
 go_enter Tryz.func27,Tryz.ntmps27
 go_wp2_with fail
 have k1:=qb x1
 have k9:=qb d1
 clear x0 x1 x2 x3 x4 x5 x6 x7 x8 d1
 by_cases q0:y.hd.mn<=h.mn
 ·have g0:decide (h.mn≥y.hd.mn)=true:=by simpa using q0
  have HQ:=q9 q0
  clear q0
  refine wiq ?_
  repeat (go_big_quiet_step (fail))
  refine wpQuiet_nil ?_
  intro w1 F1
  clear k9 k1
  go_wp2_with fail
  go_ret
  exact ⟨by unfold stB;have:=HQ.out;simp;omega,F0.trans F1⟩
 ·have g0:decide (h.mn≥y.hd.mn)=false:=by simpa using q0
  have HST:=q9 (show stB h.mn its (some y.hd.mn)=its.all (fun it=>decide (h.mn<=it.k) && decide (it.k<y.hd.mn)) by unfold stB;simp;intro;omega)
  clear q0
  refine wiq ?_
  repeat (go_big_quiet_step (fail))
  refine wpQuiet_nil ?_
  intro w1 F1
  clear k9
  have o1:=o0.up F1
  have FW:=F0.trans F1
  obtain ⟨x0,x1,x2,x3,x4,x5,x6,x7,x8⟩:=yz (lv:=lv) (h:=h) o1
  clear o0 F0 F1 k1
  go_wp2_with fail
  refine (HI.out _ FW).mono ?_;rintro e w2 ⟨⟨u,rfl,hr⟩,F2⟩
  have hs:=q9 (Sq.own hr)
  obtain ⟨a',cap',rfl,-,-⟩:=xz hr
  have FX:=q9 (FW.trans F2)
  have o2:=o1.up F2
  have HB2:=q9 (HB.out.up FX.out)
  clear HI HB hr F2 FW o1 x0 x1 x2 x3 x4 x5 x6 x7 x8
  go_wp2_with fail
  go_loopw [22] (fun u wr=>StAt w2 its (fun it:It=>decide (h.mn<=it.k) && decide (it.k<y.hd.mn)) u wr) (fun u _=>its.length - (RowKit.intOf u).toNat)
  case atStart=>exact ⟨0,by omega,rfl,Fr.refl _ _,by omega⟩
  case round =>
   obtain ⟨i,hi,rfl,F,hP⟩:=hrel
   by_cases hlt:i<its.length
   ·obtain ⟨x,hx⟩:∃ x,its[i]? = some x:=⟨its[i],List.getElem?_eq_getElem hlt⟩
    obtain ⟨g2,off2,rfl,e0,e1,e2⟩:=xd (hs.out.up F) hx
    have HX:=q9 (qc hx hP)
    clear hx hP
    have F5:=(Fr.refl [] wr).alloc (.cells #[.int .i64 x.k,.int .i64 x.v,.int .i64 x.d] 89)
    have o5:=Ob.new wr 89 #[.int .i64 x.k,.int .i64 x.v,.int .i64 x.d]
    obtain ⟨x0,x1,x2,x3,x4,x5,x6,x7,x8⟩:=yz (lv:=lv) (h:=h) ((o2.up F).up F5)
    obtain ⟨g',off',hg',-,d1,-⟩:=Z1 (HB2.out.up (F.trans F5)) (i:=0) (x:=y) rfl
    rw [Nat.zero_mul,Nat.add_zero] at d1
    simp only [Option.some.injEq,Addr.mk.injEq] at hg'
    obtain ⟨rfl,rfl,-⟩:=hg'
    clear x0 x2 x3 x4 x5 x6 x7 x8
    go_wp2_with fail
    generalize (wr.alloc (.cells #[.int .i64 x.k,.int .i64 x.v,.int .i64 x.d] 89))=w5 at *
    have j0:=qb (o5.cell (i:=0) rfl)
    have k1:=qb x1
    have k9:=qb d1
    clear d1
    clear o5 e0 e1 e2 x1
    by_cases q1:x.k<h.mn
    ·have g1:decide (x.k<h.mn)=true:=by simpa using q1
     have HQ:=q9 q1
     clear q1
     refine wiq ?_
     repeat (go_big_quiet_step (fail))
     refine wpQuiet_nil ?_
     intro w6 F6
     have F9:=q9 (F.trans (F5.trans F6))
     clear F5 F6 F k1 j0
     go_wp2_with fail
     go_ret
     exact ⟨by rw [HST.out,q0q HX.out.1 (by have:=HQ.out;simp;omega)];rfl,FX.out.trans F9.out⟩
    ·have g1:decide (x.k<h.mn)=false:=by simpa using q1
     have HQ:=q9 q1
     clear q1
     by_cases q2:y.hd.mn<=x.k
     ·have g2:decide (x.k≥y.hd.mn)=true:=by simpa using q2
      have HQ2:=q9 q2
      clear q2
      refine wiq ?_
      repeat (go_big_quiet_step (fail))
      refine wpQuiet_nil ?_
      intro w6 F6
      have F9:=q9 (F.trans (F5.trans F6))
      clear F5 F6 F k1 j0
      go_wp2_with fail
      go_ret
      exact ⟨by rw [HST.out,q0q HX.out.1 (by have:=HQ2.out;simp;omega)];rfl,FX.out.trans F9.out⟩
     ·have g2:decide (x.k≥y.hd.mn)=false:=by simpa using q2
      have HQ2:=q9 q2
      clear q2
      refine wiq ?_
      repeat (go_big_quiet_step (fail))
      refine wpQuiet_nil ?_
      intro w6 F6
      have F9:=q9 (F.trans (F5.trans F6))
      clear F5 F6 F k1 j0
      go_wp2_with fail
      go_roundw
      case rel=>exact ⟨i+1,by omega,by go_num,F9.out,fun j z hj hz=>by
       by_cases e:j=i
       ·subst e;rw [HX.out.1] at hz;cases hz;have:=HQ.out;have:=HQ2.out;simp;omega
       ·exact HX.out.2 j z (by omega) hz⟩
      case measure=>simp [RowKit.intOf];omega
   ·obtain rfl:i=its.length:=by omega
    have HP:=q9 (q66 hP)
    have FX2:=q9 (FX.out.trans F)
    clear hP F
    go_wp2
    go_ret
    exact ⟨by rw [HST.out,HP.out];rfl,FX2.out⟩
theorem q54 (h:Hd) (cs:List Ce) (v:Value) (ys:List Kr) (bv:Value) (w:World) (hl:cs.length<=1000) (hv:qb3 w v h cs) (hb:Sq fK w bv ys) (hyl:ys.length<=100000) :
  Calls Tryz.prog 27 #[v,bv] w fun e w'=>e = .returned (.bool (stB h.mn (vq cs) (ys.head?.map (fun y=>y.hd.mn))))/\Fr [] w w':=by
 cases ys with
 | nil =>
  obtain ⟨a,cap,rfl,-,-,-⟩:=hb
  exact q4l h cs v a cap w hl hv
 | cons y r=>exact q1n h cs v y r bv w hl hv hb (by simp at hyl;omega)
theorem Qn.stands {w:World} {B:Nat} {xs:List Kr} {L:List (Hd×List Ce)} (h:Qn w B xs L) {i:Nat} {x:Kr} {y:Hd×List Ce} (hx:xs[i]? = some x) (hy:L[i]? = some y) :
  stB x.hd.mn (vq y.2) ((xs.drop (i+1)).head?.map (fun z=>z.hd.mn))=Xc y (L.drop (i+1)):=by
 rw [<- q52,(h.each i x y hx hy).hd]
 congr 1
 have e:=congrArg (fun l:List Hd=>(l.drop (i+1)).head?.map Hd.mn) h.hds
 simpa [List.map_drop,Function.comp_def] using e
theorem Yw (L:List (Hd×List Ce)):jw L=true↔∀ (i:Nat) y,L[i]? = some y->Xc y (L.drop (i+1))=true:=by
 induction L with
 | nil=>simp [jw]
 | cons x r ih =>
  unfold jw
  rw [Bool.and_eq_true,ih]
  constructor
  ·rintro ⟨h1,h2⟩ i y hy
   cases i with
   | zero=>simp at hy;subst hy;simpa using h1
   | succ i=>simpa using h2 i y (by simpa using hy)
  ·intro h
   exact ⟨by simpa using h 0 x rfl,fun i y hy=>by simpa using h (i+1) y (by simpa using hy)⟩
theorem Rh:∀ (L:List (Hd×List Ce)),Ka L=(L.getLast?.map (fun x=>x.1.nx)).getD 0
 | []=>rfl
 | [x]=>rfl
 | _ :: y :: r=>by unfold Ka;rw [Rh (y :: r)];simp [List.getLast?_cons_cons]
def IsAt (w:World) (L:List (Hd×List Ce)) (x:Value) (wr:World):Prop:=∃ i,i<=L.length/\x = .int .i64 (i:Nat)/\Fr [] w wr/\∀ j y,j<i->L[j]? = some y->Xc y (L.drop (j+1))=true
theorem Yx {f:Int->Int} {len n:Nat} {t:Int}:∀ y,y∈zn f len n t->y.2.length=n:=by
 intro y hy
 unfold zn at hy
 obtain ⟨a,-,rfl⟩:=List.mem_map.1 hy
 simp [ckF]
theorem Rz (t wd v:Int) (n p q:Nat) (s:St) (w:World) (ht:1<=t) (ht2:t<=8) (h1:1<=n) (h2:n<=16) (h3:n<=s.l.length) (h4:s.l.length<=20000) (hA:Ar w p q s) :
  Calls Tryz.prog 10 #[.agg #[.int .i64 t,.int .i64 n,.int .i64 wd,.int .i64 v],.pointer (some ⟨p,0,none⟩)] w fun e w'=>e = .returned (.bool (isL (zn (qq s.l) s.l.length n t)))/\Fr [] w w':=by
 have F0:=(Fr.refl [] w).alloc (.cells #[.int .i64 t,.int .i64 n,.int .i64 wd,.int .i64 v] 23)
 obtain ⟨c0,c1,c2,c3⟩:=Pl.xc (Ob.new w 23 #[.int .i64 t,.int .i64 n,.int .i64 wd,.int .i64 v])
 have H:=q9 (ja t wd v n p q s _ ht ht2 h1 h2 h3 h4 (hA.kept F0))
 have hcl:=Xn (qq s.l) s.l.length n t
 have HCE:=q9 (Yx (f:=qq s.l) (len:=s.l.length) (n:=n) (t:=t))
 generalize zn (qq s.l) s.l.length n t=L at *
 clear hA
 generalize hI:isL L=I
 have HI:=q9 hI
 clear hI
 go_enter Tryz.func10,Tryz.ntmps10
 go_wp2_with fail
 clear c0 c1 c2 c3
 refine H.out.mono ?_;rintro e w1 ⟨lv,xs,rfl,hr,hC,F1⟩
 clear H
 have FW:=F0.trans F1
 have hs:=q9 (Sq.own hr)
 have HC:=q9 hC
 have hxl:xs.length<=20000:=by rw [hC.len];omega
 have hlen:=hC.len
 obtain ⟨a,cap,rfl,-,-⟩:=xz hr
 clear F0 F1 hr hC hcl
 cases L with
 | nil =>
  simp at hlen
  obtain rfl:=hlen
  go_wp2_with fail
  go_ret
  exact ⟨by rw [<- HI.out];rfl,FW⟩
 | cons y0 r =>
  cases xs with
  | nil=>simp at hlen
  | cons x0 xr =>
   have hm:(x0 :: xr).length=xr.length+1:=rfl
   obtain ⟨xl,hxl2⟩:∃ xl,(x0 :: xr)[xr.length]? = some xl:=⟨(x0 :: xr)[xr.length],List.getElem?_eq_getElem (by simp)⟩
   have hx0:(x0 :: xr)[0]? = some x0:=rfl
   have HD:=q9 (HC.out.hds)
   have HIS:=q9 (show isL (y0 :: r)=(decide (x0.hd.mn=0) && decide (atU xl.hd.nx=0) && jw (y0 :: r)) by
    have e:=HD.out
    have e1:x0.hd=y0.1:=by simp at e;exact e.1
    have e2:Ka (y0 :: r)=xl.hd.nx:=by
     rw [Rh]
     have h3:=congrArg (fun l:List Hd=>(l[xr.length]?.map Hd.nx)) e
     simp only [List.getElem?_map,hxl2,Option.map_some] at h3
     rw [List.getLast?_eq_getElem?,show (y0 :: r).length - 1=xr.length by simp at hlen;simp;omega]
     cases h4:(y0 :: r)[xr.length]? with
     | none=>rw [h4] at h3;simp at h3
     | some z=>rw [h4] at h3;simp at h3;simp [h3]
    show (decide (y0.1.mn=0) && decide (atU (Ka (y0 :: r))=0) && jw (y0 :: r))=_
    rw [e2,e1])
   rw [HIS.out] at HI
   clear HIS
   obtain ⟨g,off,rfl,-,d1,-⟩:=Z1 hs.out hx0
   obtain ⟨g',off',hg',-,-,-,d3,-⟩:=Z1 hs.out hxl2
   simp only [Option.some.injEq,Addr.mk.injEq] at hg'
   obtain ⟨rfl,rfl,-⟩:=hg'
   rw [Nat.zero_mul,Nat.add_zero] at d1
   rw [hm] at hs hlen hxl ⊢
   generalize hxs:x0 :: xr=xs at *
   generalize xr.length=m at *
   generalize hL:y0 :: r=L at *
   have HLEN:=q9 hlen
   have HXL:=q9 (qc hx0 hxl2)
   have HXN:=q9 (qc hm (qc hxs hL))
   clear hlen hm hxs hL hx0 hxl2
   by_cases q0:x0.hd.mn=0
   ·have g0:(x0.hd.mn != 0)=false:=by simpa using q0
    have HQ:=q9 q0
    clear q0
    go_wp2_with fail
    refine (Xf _ _).mono ?_;rintro e _ ⟨rfl,rfl⟩
    generalize hau:atU xl.hd.nx=au at *
    by_cases q1:au=0
    ·have g1:(au != 0)=false:=by simpa using q1
     have HQ1:=q9 q1
     have HAU:=q9 hau
     clear q1 d1 d3 hau
     go_wp2_with fail
     go_loopw [35] (fun u wr=>IsAt w1 L u wr) (fun u _=>m+1 - (RowKit.intOf u).toNat)
     case atStart=>exact ⟨0,by omega,rfl,Fr.refl _ _,by omega⟩
     case round =>
      obtain ⟨i,hi,rfl,F,hP⟩:=hrel
      rw [<- HLEN.out] at hi
      by_cases hlt:i<m+1
      ·obtain ⟨x,hx⟩:∃ x,xs[i]? = some x:=⟨xs[i]'(by rw [HXN.out.1];exact hlt),List.getElem?_eq_getElem _⟩
       obtain ⟨y,hy⟩:∃ y,L[i]? = some y:=⟨L[i]'(by rw [<- HLEN.out];exact hlt),List.getElem?_eq_getElem _⟩
       have hsl:Sq fK w1 (.slice (if cap=i+1 then some ⟨g,off,none⟩ else some ⟨g,off+(i+1) * 9,none⟩) (m - i) (cap - (i+1))) (xs.drop (i+1)):=by
        have h5:=hs.out
        have h6:=HXN.out.1
        obtain ⟨a',c',e,hc1,hc2,-⟩:=id h5
        simp only [Value.slice.injEq] at e
        obtain ⟨rfl,-,rfl⟩:=e
        by_cases hce:cap=i+1
        ·have hmi:m=i:=by omega
         subst hmi
         rw [List.drop_eq_nil_of_le (by omega),Nat.sub_self]
         exact Sq.empty _ _ (by omega)
        ·have:=Sq.drop q1o h5 (i+1) (by omega)
         rw [h6,Nat.add_sub_add_right] at this
         rw [qd hce]
         exact this
       have hck:=(HC.out.each i x y hx hy).ch (by rw [HCE.out y (List.mem_of_getElem? hy)];exact h2)
       have hst:=HC.out.stands hx hy
       rw [(HC.out.each i x y hx hy).hd] at hst
       obtain ⟨g',off',hg',d0,d1,d2,d3,d4,d5,d6,d7,d8⟩:=Z1 (hs.out.up F) hx
       simp only [Option.some.injEq,Addr.mk.injEq] at hg'
       obtain ⟨rfl,rfl,-⟩:=hg'
       have HX:=q9 (qc hx (qc hy hP))
       clear hx hP
       have F5:=(Fr.refl [] wr).alloc (.cells #[.int .i64 x.hd.at_,.int .i64 x.hd.mn,.int .i64 x.hd.ct,.int .i64 x.hd.nx,.int .i64 x.hd.ld,.int .i64 x.hd.mt,.int .i64 x.hd.rp,.int .i64 x.hd.st,.slice (some ⟨x.b,0,none⟩) x.n x.n] 72)
       have o5:=Ob.new wr 72 #[.int .i64 x.hd.at_,.int .i64 x.hd.mn,.int .i64 x.hd.ct,.int .i64 x.hd.nx,.int .i64 x.hd.ld,.int .i64 x.hd.mt,.int .i64 x.hd.rp,.int .i64 x.hd.st,.slice (some ⟨x.b,0,none⟩) x.n x.n]
       generalize hbv:Value.slice (if cap=i+1 then some ⟨g,off,none⟩ else some ⟨g,off+(i+1) * 9,none⟩) (m - i) (cap - (i+1))=bv at hsl
       have HCALL:=q9 (show ∀ wz,Fr [] w1 wz->Calls Tryz.prog 27 #[.agg #[.int .i64 x.hd.at_,.int .i64 x.hd.mn,.int .i64 x.hd.ct,.int .i64 x.hd.nx,.int .i64 x.hd.ld,.int .i64 x.hd.mt,.int .i64 x.hd.rp,.int .i64 x.hd.st,.slice (some ⟨x.b,0,none⟩) x.n x.n],bv] wz fun e w'=>e = .returned (.bool (Xc y (L.drop (i+1))))/\Fr [] wz w' from fun wz Fz=>by
        have:=q54 y.1 y.2 _ (xs.drop (i+1)) bv wz (by rw [HCE.out y (List.mem_of_getElem? hy)];omega) (hck.up Fz) (hsl.up Fz) (by rw [List.length_drop,HXN.out.1];omega)
        rw [hst] at this
        exact this)
       have HFI:=q9 (F.trans F5)
       rw [<- hbv] at HCALL
       clear hsl hbv
       generalize hsb:Xc y (L.drop (i+1))=sb at HCALL
       have HSB:=q9 hsb
       clear hy hck hst hsb
       go_wp2_with fail
       generalize (wr.alloc (.cells #[.int .i64 x.hd.at_,.int .i64 x.hd.mn,.int .i64 x.hd.ct,.int .i64 x.hd.nx,.int .i64 x.hd.ld,.int .i64 x.hd.mt,.int .i64 x.hd.rp,.int .i64 x.hd.st,.slice (some ⟨x.b,0,none⟩) x.n x.n] 72))=w5 at *
       clear d0 d1 d2 d3 d4 d5 d6 d7 d8
       obtain ⟨d0,d1,d2,d3,d4,d5,d6,d7,d8⟩:=yz (h:=x.hd) (lv:=.slice (some ⟨x.b,0,none⟩) x.n x.n) o5
       have k0:=qb d0
       have k1:=qb d1
       have k2:=qb d2
       have k3:=qb d3
       have k4:=qb d4
       have k5:=qb d5
       have k6:=qb d6
       have k7:=qb d7
       have k8:=qb d8
       clear d0 d1 d2 d3 d4 d5 d6 d7 d8
       refine wiq ?_
       repeat (go_big_quiet_step ((go_at_call 27;exact Calls.in_ (HCALL.out _ (HFI.out.trans (In.fr _))))))
       refine wpQuiet_nil ?_
       intro w6 F6
       have FX:=q9 (HFI.out.trans F6)
       clear HCALL k0 k1 k2 k3 k4 k5 k6 k7 k8 F F5 F6 o5
       cases sb with
       | true =>
        go_wp2_with fail
        go_roundw
        case rel=>exact ⟨i+1,by rw [<- HLEN.out];omega,by go_num,FX.out,fun j z hj hz=>by
         by_cases e:j=i
         ·subst e;rw [HX.out.2.1] at hz;cases hz;exact HSB.out
         ·exact HX.out.2.2 j z (by omega) hz⟩
        case measure=>simp [RowKit.intOf];omega
       | false =>
        have HN:=q9 (show jw L=false by
         cases hA:jw L with
         | false=>rfl
         | true =>
          have:=(Yw L).1 hA i y HX.out.2.1
          rw [HSB.out] at this;cases this)
        go_wp2_with fail
        all_goals
         go_ret
         exact ⟨by rw [<- HI.out,HN.out];simp,FW.trans FX.out⟩
      ·obtain rfl:i=m+1:=by omega
       have HP:=q9 (show jw L=true from (Yw L).2 (fun j z hz=>hP j z (by rw [HLEN.out];exact (List.getElem?_eq_some_iff.1 hz).1) hz))
       have FX:=q9 (FW.trans F)
       clear hP F
       go_wp2
       go_ret
       exact ⟨by rw [<- HI.out,HP.out,HQ.out,HQ1.out];rfl,FX.out⟩
    ·have g1:(au != 0)=true:=by simpa using q1
     have HQ1:=q9 q1
     have HAU:=q9 hau
     clear q1 d1 d3 hau
     go_wp2_with fail
     go_ret
     exact ⟨by rw [<- HI.out];have:=HQ1.out;simp [this],FW⟩
   ·have g0:(x0.hd.mn != 0)=true:=by simpa using q0
    have HQ:=q9 q0
    clear q0
    go_wp2_with fail
    go_ret
    exact ⟨by rw [<- HI.out];have:=HQ.out;simp [this],FW⟩
def itV (x:It):Value:=.agg #[.int .i64 x.k,.int .i64 x.v,.int .i64 x.d]
def Us:Value:=.agg #[.int .i64 0,.int .i64 0,.int .i64 0]
theorem qb2 (W:World):(zeroValue 89).run Tryz.prog W = .ok Us W:=by kernel_rfl
def Ky (g:Int->Option It) (k:Int):Option Value:=(g k).map itV
theorem q2s {g:Int->Option It} {x:It} (h:(g x.k).all (fun y=>decide (y.v<=x.v))=true):(fun k=>if k=x.k then some (itV x) else Ky g k)=Ky (q2e g x):=by
 funext k;unfold Ky q2e;rw [qf h];split <;> rfl
theorem qbz {g:Int->Option It} {x:It} (h:¬ (g x.k).all (fun y=>decide (y.v<=x.v))=true):Ky g=Ky (q2e g x):=by
 funext k;unfold Ky q2e;rw [qd h]
def Q7 (L:List (Hd×List Ce)):List It:=L.flatMap fun y=>vq y.2
theorem q3z {L:List (Hd×List Ce)} {i:Nat} {y:Hd×List Ce} (hy:L[i]? = some y):Q7 (L.take (i+1))=Q7 (L.take i)++vq y.2:=by
 unfold Q7;rw [List.take_add_one,hy,Option.toList_some,List.flatMap_append];simp
def LtAt (w:World) (bm:Nat) (L:List (Hd×List Ce)) (x:Value) (wr:World):Prop:=∃ i,i<=L.length/\x = .int .i64 (i:Nat)/\Zx wr bm (Q7 (L.take i)).length (Ky (q8x (Q7 (L.take i))))/\Fr [] w wr
def LuAt (w2:World) (bm n:Nat) (g:Int->Option It) (its:List It) (x:Value) (wr:World):Prop:=∃ j,j<=its.length/\x = .int .i64 (j:Nat)/\Zx wr bm (n+j) (Ky ((its.take j).foldl q2e g))/\Fr [bm] w2 wr
def q4g (w:World) (its:List It) (e:Ending) (w':World):Prop:=∃ b,e = .returned (.map (some b))/\w.heap.size<=b/\Zx w' b its.length (Ky (q8x its))/\Fr [] w w'
theorem Rl {L:List (Hd×List Ce)} (h:∀ y,y∈L->y.2.length<=16):(Q7 L).length<=16 * L.length:=by
 induction L with
 | nil=>simp [Q7]
 | cons y r ih =>
  have h1:=ih (fun z hz=>h z (List.mem_cons_of_mem _ hz))
  have h2:=h y (by simp)
  have h3:=Q0 y.2
  unfold Q7 at h1 ⊢
  rw [List.flatMap_cons,List.length_append,List.length_cons]
  omega
theorem U9 {w:World} {b n:Nat} {g:Int->Option Value} (h:Zx w b n g) (o:Obj):Zx (w.alloc o) b n g:=h.up ((Fr.refl [] w).alloc o)
theorem qc6 {w:World} {b n m:Nat} {g:Int->Option Value} (h:Zx w b n g) (hm:n<=m):Zx w b m g:=by
 obtain ⟨D,⟨es,clock,h1,h2,h3,h4⟩,hD⟩:=h
 exact ⟨D,⟨es,clock,h1,h2,qh h3 hm,h4⟩,hD⟩
theorem q43 (xs:List Kr) (L:List (Hd×List Ce)) (lv:Value) (B:Nat) (w:World) (hs:Sq fK w lv xs) (hC:Qn w B xs L) (hxl:xs.length<=20000) (hce:∀ y,y∈L->y.2.length<=16) (hwf:∀ it,it∈Q7 L->(Lit.int .i64 it.k).wf=true) :
  Calls Tryz.prog 32 #[lv] w (q4g w (Q7 L)):=by
 obtain ⟨a,cap,rfl,-,-,-⟩:=id hs
 have hmm:=@run_makeMap Tryz.prog
 have m0:=Zx.made w
 have HLEN:=q9 hC.len
 have HS:=q9 (qc hs hC)
 have HCE:=q9 (qc hce hwf)
 clear hs hC hce hwf
 go_enter Tryz.func32,Tryz.ntmps32
 go_wp2_with fail
 clear hmm
 have F0:=(Fr.refl [] w).alloc (.map #[] 0)
 generalize (World.alloc w (.map #[] 0))=w1 at *
 have hbm:w.heap.size<=w.heap.size:=Nat.le_refl _
 generalize hbm2:w.heap.size=bm at m0 hbm ⊢
 have HBM:=q9 hbm2
 clear hbm2
 go_loopw [13] (fun u wr=>LtAt w bm L u wr) (fun u _=>xs.length - (RowKit.intOf u).toNat)
 case atStart=>exact ⟨0,Nat.zero_le _,rfl,m0,F0⟩
 case round =>
  obtain ⟨i,hi,rfl,hG,F⟩:=hrel
  rw [<- HLEN.out] at hi
  by_cases hlt:i<xs.length
  ·obtain ⟨x,hx⟩:∃ x,xs[i]? = some x:=⟨xs[i],List.getElem?_eq_getElem hlt⟩
   obtain ⟨y,hy⟩:∃ y,L[i]? = some y:=⟨L[i]'(by rw [<- HLEN.out];exact hlt),List.getElem?_eq_getElem _⟩
   have FS:=Fr.refl [] w
   have FA:=q9 (F.alloc (.cells #[.int .i64 x.hd.at_,.int .i64 x.hd.mn,.int .i64 x.hd.ct,.int .i64 x.hd.nx,.int .i64 x.hd.ld,.int .i64 x.hd.mt,.int .i64 x.hd.rp,.int .i64 x.hd.st,.slice (some ⟨x.b,0,none⟩) x.n x.n] 72))
   have hck:=(HS.out.2.each i x y hx hy).ch (HCE.out.1 y (List.mem_of_getElem? hy))
   have HI:=q9 (Je y.1 y.2 (chV x.hd x.lv) (wr.alloc (.cells #[.int .i64 x.hd.at_,.int .i64 x.hd.mn,.int .i64 x.hd.ct,.int .i64 x.hd.nx,.int .i64 x.hd.ld,.int .i64 x.hd.mt,.int .i64 x.hd.rp,.int .i64 x.hd.st,.slice (some ⟨x.b,0,none⟩) x.n x.n] 72)) (by have:=HCE.out.1 y (List.mem_of_getElem? hy);omega) (hck.up FA.out))
   obtain ⟨g,off,rfl,d0,d1,d2,d3,d4,d5,d6,d7,d8⟩:=Z1 (HS.out.1.up F) hx
   have hN:=q3z hy
   have hil:=Q0 y.2
   have hwf:∀ it,it∈vq y.2->(Lit.int .i64 it.k).wf=true:=fun it hit=>HCE.out.2 it (List.mem_flatMap.2 ⟨y,List.mem_of_getElem? hy,hit⟩)
   have hlb:(Q7 (L.take i)).length<=320000:=by
    have:=Rl (L:=L.take i) (fun z hz=>HCE.out.1 z (List.mem_of_mem_take hz))
    rw [List.length_take] at this;have:=HLEN.out;omega
   have hil2:=HCE.out.1 y (List.mem_of_getElem? hy)
   generalize vq y.2=its at *
   have HN:=q9 (qc hN (qc hwf (qc hlb (qh hil hil2))))
   have HX:=q9 (qc hx hy)
   clear hN hil hil2 hwf hlb hck hx hy FS
   have hG1:=hG.up ((Fr.refl [] wr).alloc (.cells #[.int .i64 x.hd.at_,.int .i64 x.hd.mn,.int .i64 x.hd.ct,.int .i64 x.hd.nx,.int .i64 x.hd.ld,.int .i64 x.hd.mt,.int .i64 x.hd.rp,.int .i64 x.hd.st,.slice (some ⟨x.b,0,none⟩) x.n x.n] 72))
   clear hG
   go_wp2_with fail
   refine HI.out.mono ?_;rintro e w2 ⟨⟨u,rfl,hr⟩,F2⟩
   have hG2:=hG1.up F2
   have F3:=q9 (FA.out.trans F2)
   clear hG1 F2 HI d0 d1 d2 d3 d4 d5 d6 d7 d8 F
   have hlt2:=hG2.lt
   have hrs:=q9 (Sq.own hr)
   have hne:bm∉u.ownBlock.toList:=by obtain ⟨es,ck,he⟩:=hG2.is_map;exact Yc hr he
   obtain ⟨a',cap',rfl,-,-⟩:=xz hr
   have HNE:=q9 hne
   clear hr hne
   generalize hg0:q8x (Q7 (L.take i))=g0 at *
   generalize hn0:(Q7 (L.take i)).length=n0 at *
   have HG0:=q9 (qc hg0 hn0)
   clear hg0 hn0
   go_wp2_with fail
   have hb16:its.length<=16:=HN.out.2.2.2
   go_loopw [20] (fun u wr=>LuAt w2 bm n0 g0 its u wr) (fun u _=>its.length - (RowKit.intOf u).toNat)
   case atStart=>exact ⟨0,Nat.zero_le _,rfl,hG2,Fr.refl _ _⟩
   case round =>
    obtain ⟨j,hj,rfl,hG,F⟩:=hrel
    by_cases hlt3:j<its.length
    ·obtain ⟨z,hz⟩:∃ z,its[j]? = some z:=⟨its[j],List.getElem?_eq_getElem hlt3⟩
     obtain ⟨g',off',rfl,e0,e1,e2⟩:=xd (hrs.out.kept F (by intro g hg hb;simp at hb;subst hb;exact HNE.out hg)) hz
     have hst:(its.take (j+1)).foldl q2e g0=q2e ((its.take j).foldl q2e g0) z:=by
      rw [List.take_add_one,hz,Option.toList_some,List.foldl_append];rfl
     generalize (its.take j).foldl q2e g0=gj at *
     have hkw:=HN.out.2.1 z (List.mem_of_getElem? hz)
     have HZ:=q9 (qc hz (qc hst hkw))
     clear hz hst
     have F5:=(Fr.refl [] wr).alloc (.cells #[.int .i64 z.k,.int .i64 z.v,.int .i64 z.d] 89)
     have hlk:=Zx.look (hG.up F5) Tryz.underlying82 (qb2 _) hkw true
     clear hkw
     cases hgz:gj z.k with
     | none =>
      have hall:(gj z.k).all (fun y=>decide (y.v<=z.v))=true:=by rw [hgz];rfl
      rw [qf rfl,show (Ky gj z.k).getD Us = .agg #[.int .i64 0,.int .i64 0,.int .i64 0] by unfold Ky;rw [hgz];rfl,show (Ky gj z.k).isSome=false by unfold Ky;rw [hgz];rfl] at hlk
      clear hgz
      go_wp2_with fail
      replace hG:=U9 (hG.up F5) (.cells #[.int .i64 0,.int .i64 0,.int .i64 0] 89)
      have F6:=(F.then F5).then ((Fr.refl [] _).alloc (.cells #[.int .i64 0,.int .i64 0,.int .i64 0] 89))
      obtain ⟨w8,r8,G8,F8⟩:=Zx.put hG Tryz.underlying82 (by unfold maxLen;have:=HN.out.2.2;omega) HZ.out.2.2 (itV z)
      rw [q2s hall,<- HZ.out.2.1] at G8
      have E8:=q9 (F6.trans F8)
      have HG8:=q9 G8
      unfold itV at r8
      rw [r8]
      clear r8 G8 F8 F6 F5 F hG hlk hall
      go_wp2_with fail
      go_roundw
      case rel=>exact ⟨j+1,by omega,by go_num,by rw [<- Nat.add_assoc];exact HG8.out,E8.out⟩
      case measure=>simp [RowKit.intOf];omega
     | some wv =>
      rw [qf rfl,show (Ky gj z.k).getD Us = .agg #[.int .i64 wv.k,.int .i64 wv.v,.int .i64 wv.d] by unfold Ky;rw [hgz];rfl,show (Ky gj z.k).isSome=true by unfold Ky;rw [hgz];rfl] at hlk
      by_cases q:wv.v<=z.v
      ·have hall:(gj z.k).all (fun y=>decide (y.v<=z.v))=true:=by rw [hgz];simpa using q
       have gq:decide (z.v≥wv.v)=true:=by simpa using q
       clear hgz q
       go_wp2_with fail
       replace hG:=U9 (hG.up F5) (.cells #[.int .i64 wv.k,.int .i64 wv.v,.int .i64 wv.d] 89)
       have F6:=(F.then F5).then ((Fr.refl [] _).alloc (.cells #[.int .i64 wv.k,.int .i64 wv.v,.int .i64 wv.d] 89))
       obtain ⟨w8,r8,G8,F8⟩:=Zx.put hG Tryz.underlying82 (by unfold maxLen;have:=HN.out.2.2;omega) HZ.out.2.2 (itV z)
       rw [q2s hall,<- HZ.out.2.1] at G8
       have E8:=q9 (F6.trans F8)
       have HG8:=q9 G8
       unfold itV at r8
       rw [r8]
       clear r8 G8 F8 F6 F5 F hG hlk hall
       go_wp2_with fail
       go_roundw
       case rel=>exact ⟨j+1,by omega,by go_num,by rw [<- Nat.add_assoc];exact HG8.out,E8.out⟩
       case measure=>simp [RowKit.intOf];omega
      ·have hall:¬ (gj z.k).all (fun y=>decide (y.v<=z.v))=true:=by rw [hgz];simpa using q
       have gq:decide (z.v≥wv.v)=false:=by simpa using q
       clear hgz q
       have HA:=q9 (qbz hall)
       clear hall
       go_wp2_with fail
       have hG6:=U9 (hG.up F5) (.cells #[.int .i64 wv.k,.int .i64 wv.v,.int .i64 wv.d] 89)
       have E8:=q9 ((F.then F5).then ((Fr.refl [] _).alloc (.cells #[.int .i64 wv.k,.int .i64 wv.v,.int .i64 wv.d] 89)))
       have HG8:=q9 hG6
       clear hG6 hG F5 F hlk
       go_roundw
       case rel=>exact ⟨j+1,by omega,by go_num,by rw [HZ.out.2.1,<- HA.out];exact qc6 HG8.out (by omega),E8.out⟩
       case measure=>simp [RowKit.intOf];omega
    ·obtain rfl:j=its.length:=by omega
     rw [List.take_length] at hG
     have HG:=q9 hG
     have HF:=q9 F
     clear hG F
     go_wp2
     refine ⟨⟨i+1,by have:=HLEN.out;omega,by go_num,?_,F3.out.own HF.out (by intro k hk;simp at hk;subst hk;exact Nat.le_of_eq HBM.out)⟩,by simp [RowKit.intOf];omega⟩
     rw [HN.out.1,List.length_append,HG0.out.2,show q8x (Q7 (L.take i)++its)=its.foldl q2e g0 by rw [<- HG0.out.1];unfold q8x;rw [List.foldl_append]]
     exact HG.out
  ·obtain rfl:i=xs.length:=by omega
   rw [HLEN.out,List.take_length] at hG
   have HG:=q9 hG
   have HF:=q9 F
   clear hG F
   go_wp2
   go_ret
   exact ⟨bm,rfl,by rw [<- HBM.out];exact Nat.le_refl _,HG.out,HF.out⟩
end Go.Proofs.YtppajakfaomkaaaGreat.Ch
