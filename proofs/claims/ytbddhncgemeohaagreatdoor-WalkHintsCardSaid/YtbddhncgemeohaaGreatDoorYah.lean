/- Parts. -/
import Derived.Test.YtbddhncgemeohaaGreatDoorYaa
import Derived.Test.YtbddhncgemeohaaGreatDoorYad
import Derived.Test.YtbddhncgemeohaaGreatDoorYae
import Derived.Test.YtbddhncgemeohaaGreatDoorYaf
import Derived.Test.YtbddhncgemeohaaGreatDoorYag
set_option linter.unusedVariables false
set_option linter.unusedSimpArgs false
set_option maxRecDepth 100000
set_option maxHeartbeats 12800000
namespace Go.Proofs.YtbddhncgemeohaaGreatDoor.Mx
open Go.RowKit Ar
structure Nk where
 at_:Int
 mn:Int
 ct:Int
 nx:Int
 its:List It
def Q4 (c:Cf) (at_ after:Int):List (List It)->List Int->List Nk
 | [],_=>[]
 | g :: r,ms=>⟨at_,ms.headD 0,g.length,jv (if r=[] then after else wrap64 (at_+z8 c)) false,g⟩ :: Q4 c (wrap64 (at_+z8 c)) after r ms.tail
def yt (c:Cf) (at_ after least:Int) (gs:List (List It)):List Nk :=
 if gs.all (fun g=>decide ((g.length:Int)<=c.c))=true then Q4 c at_ after gs (xx least gs) else []
def yp (at_:Int):Nat->List It->List (Int×Int)
 | _,[]=>[]
 | k,y :: r=>(Qo at_ k,yg y.v) :: (wrap64 (Qo at_ k+1),y.k) :: (wrap64 (Qo at_ k+2),y.d) :: yp at_ (k+1) r
def Zg (x:Nk):List (Int×Int):=(wrap64 x.at_,x.mn) :: (wrap64 (x.at_+1),x.ct) :: (wrap64 (x.at_+2),x.nx) :: yp x.at_ 0 x.its
def je (l:List Nk):List (Int×Int):=l.flatMap Zg
theorem Vf (at_:Int):∀ (l:List It) (k:Nat),(yp at_ k l).length=3 * l.length
 | [],_=>rfl
 | y :: r,k=>by unfold yp;simp only [List.length_cons,Vf at_ r];omega
theorem J1 (at_:Int) (y:It):∀ (l:List It) (k:Nat),yp at_ k (l++[y])=yp at_ k l++[(Qo at_ ((k+l.length:Nat):Int),yg y.v),(wrap64 (Qo at_ ((k+l.length:Nat):Int)+1),y.k),(wrap64 (Qo at_ ((k+l.length:Nat):Int)+2),y.d)]
 | [],k=>rfl
 | z :: r,k=>by
  rw [List.cons_append];unfold yp;rw [J1 at_ y r (k+1),List.length_cons,show k+1+r.length=k+(r.length+1) by omega];rfl
theorem q0f {ns:List Nk} {i:Nat} {n:Nk} (h:ns[i]? = some n):je (ns.take (i+1))=je (ns.take i)++Zg n:=by unfold je;rw [List.take_add_one,h,Option.toList_some,List.flatMap_append];simp
theorem Y9 (v:Int):3<=yg v:=by unfold yg hd;omega
theorem yx (c:Cf) (after:Int):∀ (gs:List (List It)) (at_:Int) (ms:List Int),(Q4 c at_ after gs ms).length=gs.length
 | [],_,_=>rfl
 | g :: r,at_,ms=>by unfold Q4;rw [List.length_cons,yx c after r];rfl
theorem Yt {c:Cf} (after:Int) (hc0:0<=z8 c):∀ (gs:List (List It)) (at_:Int) (ms:List Int) (i:Nat) (g:List It) (m:Int),0<=at_->at_+z8 c * (gs.length:Int)<=4611686018427387904->gs[i]? = some g->ms[i]? = some m ->
  (Q4 c at_ after gs ms)[i]? = some ⟨at_+z8 c * (i:Int),m,(g.length:Int),jv (if i+1=gs.length then after else at_+z8 c * ((i:Int)+1)) false,g⟩
 | [],_,_,i,g,m,_,_,hg,_=>by simp at hg
 | a :: r,at_,ms,i,g,m,h0,hb,hg,hm=>by
  have hlen:z8 c * (((a :: r).length:Nat):Int)=z8 c * (r.length:Int)+z8 c:=by rw [List.length_cons,Int.natCast_add,Int.mul_add];simp
  have hrl:0<=z8 c * (r.length:Int):=Int.mul_nonneg hc0 Ly;rw [hlen] at hb;have hw:wrap64 (at_+z8 c)=at_+z8 c:=w64 Ly Ly;unfold Q4;rw [hw];cases i with
  | zero =>
   obtain rfl:a=g:=by simpa using hg
   have hmm:ms.headD 0=m:=by cases ms <;> simp_all
   rw [List.getElem?_cons_zero,hmm];congr 2
   ·simp
   ·congr 1;by_cases hr:r=[]
    ·subst hr;simp
    ·exact Gj
  | succ i =>
   rw [List.getElem?_cons_succ];have hm':ms.tail[i]? = some m:=by cases ms <;> simp_all
   rw [Yt after hc0 r (at_+z8 c) ms.tail i g m Ly Ly (by simpa using hg) hm'];have e1:at_+z8 c+z8 c * (i:Int)=at_+z8 c * ((i+1:Nat):Int):=by rw [Int.natCast_add,Int.mul_add];simp;omega
   have e2:at_+z8 c+z8 c * ((i:Int)+1)=at_+z8 c * (((i+1:Nat):Int)+1):=by rw [Int.natCast_add,Int.mul_add,Int.mul_add,Int.mul_add];simp;omega
   rw [e1,e2,List.length_cons];exact Gb
def KepAt (w:World) (s:List It) (vs:List Int) (u x:Value) (wr:World):Prop:=∃ i out,i<=s.length/\x = .int .i64 (i:Nat)/\out.length<=i/\wr.ownsRow w.heap.size 144 3 u out.length (out.flatMap fT)/\Fr [] w wr/\out++Xj vs (s.drop i)=Xj vs s
def qax (wr:World) (vs:List Int) (last:Bool) (P:Int->Bool) (u x:Value) (w':World):Prop:=∃ k,k<=vs.length/\x = .int .i64 (k:Nat)/\u = .bool (last || (vs.take k).any P)/\Fr [] wr w'
theorem Um {P:Int->Bool} {vs:List Int} {k:Nat} {z:Int} (hz:vs[k]? = some z):(vs.take (k+1)).any P=((vs.take k).any P || P z):=by rw [List.take_add_one,hz,Option.toList_some,List.any_append];simp
theorem q9k {vs:List Int} {s:List It} {i:Nat} {x:It} (hx:s[i]? = some x):Xj vs (s.drop i)=if Xx x s[i+1]? vs=true then x :: Xj vs (s.drop (i+1)) else Xj vs (s.drop (i+1)):=by obtain ⟨hi,rfl⟩:=List.getElem?_eq_some_iff.1 hx;rw [List.drop_eq_getElem_cons hi];show (if Xx _ (s.drop (i+1)).head? vs=true then _ else _)=_;rw [List.head?_drop]
theorem q9g (l:List It) (vs:List Int) (v u:Value) (w:World) (hl:l.length<=1000) (hvl:vs.length<=1000) (h:Sq fT w v l) (hv:Sq fI w u vs) :
  Calls Tryz.prog 138 #[v,u] w fun e w'=>(∃ r,e = .returned r/\w'.ownsRow w.heap.size 144 3 r (J6 l vs).length ((J6 l vs).flatMap fT))/\Fr [] w w':=by
 unfold J6;obtain ⟨av,cv,rfl,hcv,hmv,-⟩:=id hv;go_enter Tryz.func138,Tryz.ntmps138;go_wp2_with fail;refine (q9z l v w hl h).mono ?_;rintro e w1 ⟨⟨u1,rfl,r1⟩,F1⟩;have hs1:(Ze l).length<=1000:=by rw [Xi];exact hl
 generalize hso:Ze l=s at *;have HSO:=qb hso;clear hso;obtain ⟨asl,csl,rfl,hcs,hms,-⟩:=id (Sq.own (f:=fT) r1);have S1:=Sq.own (f:=fT) r1;have hv1:=hv.up F1;have HF1:=qb F1;clear r1 h hv F1;go_wp2_with fail;go_loopw [6,7] (KepAt w1 s vs) (fun _ x _=>s.length - (intOf x).toNat);case atStart=>exact ⟨0,[],by omega,rfl,by simp,⟨rfl,.inl ⟨rfl,rfl⟩⟩,Fr.refl _ _,by simp⟩
 case round =>
  obtain ⟨i,out,hi,rfl,ho,hr,F,hk⟩:=hrel;by_cases hlt:i<s.length
  ·obtain ⟨x,hx⟩:∃ x,s[i]? = some x:=⟨s[i],List.getElem?_eq_getElem hlt⟩;have hS:=S1.up F;obtain ⟨gs,os,rfl,x0,x1,x2⟩:=xo hS hx;rw [q9k hx] at hk;obtain ⟨ao,co,rfl,hco,hcm,-⟩:=id (Sq.own (f:=fT) hr);have HK:=qb hk;clear hk;by_cases hE:i+1=s.length
   ·have hn:s[i+1]? = none:=List.getElem?_eq_none Ly;have hkb:Xx x s[i+1]? vs=true:=by rw [hn];simp [Xx]
    have HKB:=qb hkb;have g1:(((i:Nat):Int)+1 == ((s.length:Nat):Int))=true:=by simp;omega
    clear hkb hn;go_wp2_with fail;have k0:=qc x0;skip;refine wiq ?_;repeat (go_big_quiet_step (fail))
    refine wpQuiet_nil ?_;intro w5 F5;clear k0;go_wp2_with fail;have HFF:=qb (F.trans F5);have r5:=qb (qp hr F5);have x0:=F5.cell x0 Ma;have x1:=F5.cell x1 Ma;have x2:=F5.cell x2 Ma;skip;exact Ad
   ·obtain ⟨y,hy⟩:∃ y,s[i+1]? = some y:=⟨s[i+1],List.getElem?_eq_getElem Ly⟩;obtain ⟨gs',os',hgs,y0,y1,-⟩:=xo hS hy;simp only [Option.some.injEq,Addr.mk.injEq] at hgs;obtain ⟨rfl,rfl,-⟩:=hgs;by_cases hD:¬ y.k=x.k
    ·have hkb:Xx x s[i+1]? vs=true:=by rw [hy];simp [Xx,hD]
     have g2:(y.k == x.k)=false:=by simpa using hD
     have g3:(y.k != x.k)=true:=by simpa using hD
     have HKB:=qb hkb;have HD:=qb hD;have g1:(((i:Nat):Int)+1 == ((s.length:Nat):Int))=false:=by simp;omega
     clear hkb hD;go_wp2_with fail;have k0:=qc x0;have j0:=qc y0;refine wiq ?_;repeat (go_big_quiet_step (fail))
     refine wpQuiet_nil ?_;intro w5 F5;clear k0 j0;go_wp2_with fail;have HFF:=qb (F.trans F5);have r5:=qb (qp hr F5);have x0:=F5.cell x0 Ma;have x1:=F5.cell x1 Ma;have x2:=F5.cell x2 Ma;have y1:=F5.cell y1 Ma;exact Ad
    ·have hkb:Xx x s[i+1]? vs=vs.any (fun z=>decide (x.v<=z) && decide (z<y.v)):=by rw [hy];have hD:=Classical.not_not.1 hD;simp [Xx,hD]
     have g2:(y.k == x.k)=true:=by simpa using Classical.not_not.1 hD
     have g3:(y.k != x.k)=false:=by simpa using Classical.not_not.1 hD
     have HKB:=qb hkb;have HD:=qb hD;have g1:(((i:Nat):Int)+1 == ((s.length:Nat):Int))=false:=by simp;omega
     clear hkb hD;go_wp2_with fail;have k0:=qc x0;have j0:=qc y0;refine wiq ?_;repeat (go_big_quiet_step (fail))
     refine wpQuiet_nil ?_;intro w5 F5;clear k0 j0;go_wp2_with fail;have HFF:=qb (F.trans F5);have r5:=qb (qp hr F5);have x0:=F5.cell x0 Ma;have x1:=F5.cell x1 Ma;have x2:=F5.cell x2 Ma;have y1:=F5.cell y1 Ma;have HV5:=qb (hv1.up HFF.out);go_loopw [9,10] (qax w5 vs false (fun z=>decide (x.v<=z) && decide (z<y.v))) (fun _ x _=>vs.length - (intOf x).toNat);case atStart=>exact ⟨0,Nat.zero_le _,rfl,by simp,Fr.refl _ _⟩
     case round =>
      obtain ⟨k,hk,rfl,hu,F6⟩:=hrel;by_cases hkl:k<vs.length
      ·obtain ⟨z,hz⟩:∃ z,vs[k]? = some z:=⟨vs[k],List.getElem?_eq_getElem hkl⟩;have hmore:=Um (P:=(fun z=>decide (x.v<=z) && decide (z<y.v))) hz;have HM:=qb hmore;clear hmore;have HF6:=qb F6;by_cases hP:(vs.take k).any (fun z=>decide (x.v<=z) && decide (z<y.v))=true
       ·have hu':=hu.trans (show _=Value.bool true by rw [hP];rfl);subst hu';clear hu;have HP:=qb hP;clear hP F6;go_wp2_with fail;refine wiq ?_;repeat (go_big_quiet_step (fail))
        refine wpQuiet_nil ?_;intro w7 F7;go_wp2_with fail;go_roundw;case rel=>exact ⟨k+1,by omega,by go_num,by rw [HM.out,HP.out];rfl,HF6.out.trans F7⟩
        case measure=>simp [intOf];omega
       ·rw [Bool.not_eq_true] at hP;have hu':=hu.trans (show _=Value.bool false by rw [hP];rfl);subst hu';clear hu;have HP:=qb hP;clear hP;have y1:=qc (F6.cell y1 Ma);have x1:=qc (F6.cell x1 Ma);obtain ⟨gv,ov,rfl,z0⟩:=Zv (HV5.out.up F6) hz;have z0:=qc z0;clear F6;by_cases ha:x.v<=z
        ·have g5:decide (x.v<=z)=true:=by simpa using ha
         have HA:=qb ha;clear ha;by_cases hb:z<y.v
         ·have g6:decide (y.v>z)=true:=by simpa using hb
          have HB:=qb hb;clear hb;go_wp2_with fail;refine wiq ?_;repeat (go_big_quiet_step (fail))
          refine wpQuiet_nil ?_;intro w7 F7;go_wp2_with fail;go_roundw;case rel=>exact ⟨k+1,by omega,by go_num,by rw [HM.out,HP.out];simp [HA.out,HB.out],HF6.out.trans F7⟩
          case measure=>simp [intOf];omega
         ·have g6:decide (y.v>z)=false:=by simpa using hb
          have HB:=qb hb;clear hb;go_wp2_with fail;refine wiq ?_;repeat (go_big_quiet_step (fail))
          refine wpQuiet_nil ?_;intro w7 F7;go_wp2_with fail;go_roundw;case rel=>exact ⟨k+1,by omega,by go_num,by rw [HM.out,HP.out];simp only [decide_eq_false (Int.not_lt.2 HB.out),Bool.and_false];rfl,HF6.out.trans F7⟩
          case measure=>simp [intOf];omega
        ·have g5:decide (x.v<=z)=false:=by simpa using ha
         have HA:=qb ha;clear ha;go_wp2_with fail;refine wiq ?_;repeat (go_big_quiet_step (fail))
         refine wpQuiet_nil ?_;intro w7 F7;go_wp2_with fail;go_roundw;case rel=>exact ⟨k+1,by omega,by go_num,by rw [HM.out,HP.out];simp only [decide_eq_false (Int.not_le.2 HA.out),Bool.false_and];rfl,HF6.out.trans F7⟩
         case measure=>simp [intOf];omega
      ·obtain rfl:k=vs.length:=by omega
       rw [List.take_length] at hu;by_cases hq:vs.any (fun z=>decide (x.v<=z) && decide (z<y.v))=true
       ·have hu':=hu.trans (show _=Value.bool true by rw [hq];rfl);subst hu';clear hu;have HQ:=qb hq;clear hq;have x0:=F6.cell x0 Ma;have x1:=F6.cell x1 Ma;have x2:=F6.cell x2 Ma;have HFG:=qb (HFF.out.trans F6);have r6:=qp r5.out F6;have F12:=(Fr.refl [] wr).alloc (.cells #[.int .i64 x.k,.int .i64 x.v,.int .i64 x.d] 144);have B12:=Go.heap_alloc_new wr (.cells #[.int .i64 x.k,.int .i64 x.v,.int .i64 x.d] 144);have r12:=qp r6 F12;have HG:=qb (HFG.out.trans F12);clear r6 F12 F6;go_wp2_with (at_builtin;refine qw zk rfl _ _ 125 rfl Tryz.underlying125 itI rfl (B:=w1.heap.size) _ out rfl r12 _ [x] rfl (Sq.block B12 rfl rfl (Nat.le_refl _) Mm) Ml Mg HG.out.size ?_;intro a21 c21 w21 r21 f21);have HR:=qb (show w21.ownsRow w1.heap.size 144 3 (.slice a21 (out.length+1) c21) (out++[x]).length ((out++[x]).flatMap fT) by rw [show (Value.slice a21 (out++[x]).length c21)=Value.slice a21 (out.length+1) c21 by simp] at r21;exact r21);have HG2:=qb (HG.out.own f21 (zh r12));clear r21 f21 r12 B12;go_wp2_with fail;go_roundw;case rel=>exact ⟨i+1,out++[x],by omega,by go_num,by simp;omega,HR.out,HG2.out,by rw [<- HK.out,HKB.out,HQ.out];simp⟩
        case measure=>simp [intOf];omega
       ·rw [Bool.not_eq_true] at hq;have hu':=hu.trans (show _=Value.bool false by rw [hq];rfl);subst hu';clear hu;have HQ:=qb hq;clear hq;have HR:=qb (qp r5.out F6);have HG2:=qb (HFF.out.trans F6);clear F6;go_wp2_with fail;go_roundw;case rel=>exact ⟨i+1,out,by omega,by go_num,by omega,HR.out,HG2.out,by rw [<- HK.out,HKB.out,HQ.out];simp⟩
        case measure=>simp [intOf];omega
  ·obtain rfl:i=s.length:=by omega
   rw [List.drop_length] at hk;have hk':out=Xj vs s:=by rw [<- hk];simp [Xj]
   rw [hk'] at hr;have HR:=qb (wu hr HF1.out.size);have HG:=qb (HF1.out.trans F);obtain ⟨ao,co,rfl,-,-⟩:=kg hr;clear hk' hk hr F;go_wp2_with fail;go_ret;rw [HSO.out];exact ⟨⟨_,rfl,HR.out⟩,HG.out⟩
structure Sv where
 a:Option Addr
 n:Nat
 c:Nat
def Sv.v (s:Sv):Value:=.slice s.a s.n s.c
def fS (s:Sv):List Value:=[s.v]
theorem Td:Lays fS 1:=⟨fun _=>rfl,fun x u hu=>by rw [List.mem_singleton.1 hu];rfl,by decide⟩
theorem svI:(Tryz.prog.info? 125).map (fun i=>(i.zero,i.size,i.bytes))=some (some (.slice none 0 0),1,24):=by kernel_rfl
def Gs (w:World) (ss:List Sv) (gs:List (List It)):Prop:=ss.length=gs.length/\∀ (i:Nat) (s:Sv) (g:List It),ss[i]? = some s->gs[i]? = some g->Sq fT w s.v g
theorem Gs.kept {S:List Nat} {w w':World} {ss:List Sv} {gs:List (List It)} (h:Gs w ss gs) (k:Fr S w w') (hS:∀ s,s∈ss->∀ g,g∈s.v.ownBlock.toList->g∉S):Gs w' ss gs :=
 ⟨h.1,fun i s g e1 e2=>(h.2 i s g e1 e2).kept k (hS s (List.mem_of_getElem? e1))⟩
theorem Gs.up {w w':World} {ss:List Sv} {gs:List (List It)} (h:Gs w ss gs) (k:Fr [] w w'):Gs w' ss gs:=h.kept k Ma
theorem Gs.one {w:World} {ss:List Sv} {gs:List (List It)} (h:Gs w ss gs) {i:Nat} {g:List It} (hi:gs[i]? = some g):∃ s,ss[i]? = some s/\s.n=g.length/\Sq fT w s.v g:=by have hlt:=(List.getElem?_eq_some_iff.1 hi).1;have e1:ss[i]? = some (ss[i]'(by rw [h.1];exact hlt)):=List.getElem?_eq_getElem _;have hs:=h.2 i _ g e1 hi;refine ⟨_,e1,?_,hs⟩;obtain ⟨a',c',e,-⟩:=hs;unfold Sv.v at e;simp only [Value.slice.injEq] at e;exact e.2.1
theorem Ji {w:World} {a:Option Addr} {n cap i:Nat} {xs:List Sv} {x:Sv} (h:Sq fS w (.slice a n cap) xs) (hi:xs[i]? = some x) :
  ∃ g off,a=some ⟨g,off,none⟩/\w.cell? ⟨g,off+i,none⟩=some (.slice x.a x.n x.c):=by
 obtain ⟨-,g,off,rfl,hc⟩:=Sq.cell Td h hi;exact ⟨g,off,rfl,by have:=hc 0 x.v rfl;rw [Nat.mul_one,Nat.add_zero] at this;exact this⟩
theorem J2 (least:Int) (gs:List (List It)):(xx least gs).length=gs.length:=by cases gs <;> simp [xx]
theorem q1t (least:Int) {gs:List (List It)} {i:Nat} {g:List It} (hi:gs[i]? = some g):(xx least gs)[i]? = some (if i=0 then least else (g.head?.map It.k).getD 0):=by
 cases gs with
 | nil=>simp at hi
 | cons y r =>
  cases i with
  | zero=>rfl
  | succ i =>
   rw [List.getElem?_cons_succ] at hi;show (least :: r.map _)[i+1]? = _;rw [List.getElem?_cons_succ,List.getElem?_map,hi];rfl
def MinAt (w:World) (ms:List Int) (u x:Value) (wr:World):Prop:=∃ i,i<=ms.length/\x = .int .i64 (i:Nat)/\wr.ownsRow w.heap.size 3 1 u (ms.take i).length ((ms.take i).flatMap fI)/\Fr [] w wr
theorem q8i (least:Int) (gs:List (List It)) (ss:List Sv) (u:Value) (w:World) (hl:gs.length<=1000) (h:Sq fS w u ss) (hg:Gs w ss gs) :
  Calls Tryz.prog 139 #[.int .i64 least,u] w fun e w'=>(∃ r,e = .returned r/\w'.ownsRow w.heap.size 3 1 r (xx least gs).length ((xx least gs).flatMap fI))/\Fr [] w w':=by
 obtain ⟨av,cv,rfl,hcv,hmv,-⟩:=id h;have hml:=J2 least gs;have hsl:=hg.1;rw [hsl] at h hcv ⊢;have HAT:=qb (fun i g=>@q1t least gs i g);generalize hms:xx least gs=ms at *;have HMS:=qb hms;rw [<- hml] at h hcv ⊢;have hmk:ms.length<=1000:=by omega
 have HML:=qb hml;clear hms hml hsl;go_enter Tryz.func139,Tryz.ntmps139;go_wp2_with fail;go_loopw [5,6] (MinAt w ms) (fun _ x _=>ms.length - (intOf x).toNat);case atStart=>exact ⟨0,by omega,rfl,⟨rfl,.inl ⟨rfl,rfl⟩⟩,Fr.refl _ _⟩
 case round =>
  obtain ⟨i,hi,rfl,hr,F⟩:=hrel;by_cases hlt:i<ms.length
  ·obtain ⟨g,hgi⟩:∃ g,gs[i]? = some g:=⟨gs[i]'(by have:=HML.out;omega),List.getElem?_eq_getElem _⟩;have hm:=HAT.out i g hgi;obtain ⟨s,hs1,hs2,hs3⟩:=(hg.up F).one hgi;obtain ⟨gb,ob,rfl,c0⟩:=Ji (h.up F) hs1;rw [hs2] at c0;have hs3':Sq fT wr (.slice s.a g.length s.c) g:=by rw [<- hs2];exact hs3
   obtain ⟨ao,co,rfl,hco,hcm,-⟩:=id (Sq.own (f:=fI) hr);have hlen:(ms.take i).length=i:=by rw [List.length_take];omega
   have hnx:∀ m,ms[i]? = some m->ms.take (i+1)=ms.take i++[m]:=fun m hm=>by rw [List.take_add_one,hm];rfl
   generalize ms.take i=out at *;have HL:=qb hlen;clear hlen hs3;by_cases h0:i=0
   ·subst h0;rw [qg rfl] at hm;have hm:ms[0]? = some (least):=hm;have HNX:=qb (hnx _ hm);have F12:=(Fr.refl [] wr).alloc (.cells #[.int .i64 (least)] 3);have B12:=Go.heap_alloc_new wr (.cells #[.int .i64 (least)] 3);have r12:=qp hr F12;have HG:=qb (F.trans F12);clear F12 hnx hm;go_wp2_with (at_builtin;refine qw yh rfl _ _ 25 rfl Tryz.underlying25 q7k rfl (B:=w.heap.size) _ out rfl r12 _ [least] rfl (Sq.block B12 rfl rfl (Nat.le_refl _) Mm) Oa Mg HG.out.size ?_;intro a21 c21 w21 r21 f21);have HR:=qb (show w21.ownsRow w.heap.size 3 1 (.slice a21 (out.length+1) c21) (out++[least]).length ((out++[least]).flatMap fI) by rw [show (Value.slice a21 (out++[least]).length c21)=Value.slice a21 (out.length+1) c21 by simp] at r21;exact r21);have HG2:=qb (HG.out.own f21 (zh r12));clear r21 f21 r12 B12;go_wp2_with fail;go_roundw;case rel=>exact ⟨0+1,by omega,by go_num,by rw [HNX.out];exact HR.out,HG2.out⟩
    case measure=>simp [intOf];omega
   ·rw [qf h0] at hm;cases g with
    | nil =>
     have g1:(((i:Nat):Int) == 0)=false:=by simp;omega
     have hm:ms[i]? = some ((0:Int)):=hm;have HNX:=qb (hnx _ hm);have F12:=(Fr.refl [] wr).alloc (.cells #[.int .i64 ((0:Int))] 3);have B12:=Go.heap_alloc_new wr (.cells #[.int .i64 ((0:Int))] 3);have r12:=qp hr F12;have HG:=qb (F.trans F12);clear F12 hnx hm;go_wp2_with (at_builtin;refine qw yh rfl _ _ 25 rfl Tryz.underlying25 q7k rfl (B:=w.heap.size) _ out rfl r12 _ [(0:Int)] rfl (Sq.block B12 rfl rfl (Nat.le_refl _) Mm) Oa Mg HG.out.size ?_;intro a21 c21 w21 r21 f21);have HR:=qb (show w21.ownsRow w.heap.size 3 1 (.slice a21 (out.length+1) c21) (out++[(0:Int)]).length ((out++[(0:Int)]).flatMap fI) by rw [show (Value.slice a21 (out++[(0:Int)]).length c21)=Value.slice a21 (out.length+1) c21 by simp] at r21;exact r21);exact C0
    | cons z r =>
     have g1:(((i:Nat):Int) == 0)=false:=by simp;omega
     obtain ⟨gz,oz,ez,z0,-,-⟩:=xo hs3' (i:=0) (x:=z) rfl;rw [ez] at c0;simp only [Nat.zero_mul,Nat.add_zero] at z0;have hm:ms[i]? = some (z.k):=hm;have HNX:=qb (hnx _ hm);have F12:=(Fr.refl [] wr).alloc (.cells #[.int .i64 (z.k)] 3);have B12:=Go.heap_alloc_new wr (.cells #[.int .i64 (z.k)] 3);have r12:=qp hr F12;have HG:=qb (F.trans F12);clear F12 hnx hm;go_wp2_with (at_builtin;refine qw yh rfl _ _ 25 rfl Tryz.underlying25 q7k rfl (B:=w.heap.size) _ out rfl r12 _ [z.k] rfl (Sq.block B12 rfl rfl (Nat.le_refl _) Mm) Oa Mg HG.out.size ?_;intro a21 c21 w21 r21 f21);have HR:=qb (show w21.ownsRow w.heap.size 3 1 (.slice a21 (out.length+1) c21) (out++[z.k]).length ((out++[z.k]).flatMap fI) by rw [show (Value.slice a21 (out++[z.k]).length c21)=Value.slice a21 (out.length+1) c21 by simp] at r21;exact r21);exact C0
  ·obtain rfl:i=ms.length:=by omega
   rw [List.take_length] at hr;have HR:=qb hr;obtain ⟨ao,co,rfl,-,-⟩:=kg hr;clear hr;exact Hw
end Go.Proofs.YtbddhncgemeohaaGreatDoor.Mx
namespace Go.Proofs.YtbddhncgemeohaaGreatDoor.Mx
open Go.RowKit Ar Vw
structure Chs where
 h:Hd
 s:Sv
def fH (x:Chs):List Value:=[.int .i64 x.h.at_,.int .i64 x.h.mn,.int .i64 x.h.ct,.int .i64 x.h.nx,.int .i64 x.h.ld,.int .i64 x.h.mt,.int .i64 x.h.rp,.int .i64 x.h.st,x.s.v]
theorem Qj:Lays fH 9:=⟨fun _=>rfl,fun x u hu=>by simp [fH] at hu;rcases hu with rfl | rfl | rfl | rfl | rfl | rfl | rfl | rfl | rfl <;> rfl,by decide⟩
theorem chI:(Tryz.prog.info? 191).map (fun i=>(i.zero,i.size,i.bytes))=some (some (.agg #[.int .i64 0,.int .i64 0,.int .i64 0,.int .i64 0,.int .i64 0,.int .i64 0,.int .i64 0,.int .i64 0,.slice none 0 0]),9,88):=by kernel_rfl
def ceO (o:Option It):Ce:=match o with
 | some x=>⟨yg x.v,x.k,x.d⟩
 | none=>⟨0,0,0⟩
def Yg (cap:Nat) (g:List It):List Ce:=(List.range cap).map fun j=>ceO g[j]?
theorem Qq (cap:Nat) (g:List It):(Yg cap g).length=cap:=by simp [Yg]
theorem q5t {cap:Nat} {g:List It} {j:Nat} (h:j<cap):(Yg cap g)[j]? = some (ceO g[j]?):=by simp [Yg,h]
def qe5 (n:Nk):Hd:=⟨n.at_,n.mn,n.ct,n.nx,0,0,0,0⟩
def q37 (w:World) (xs:List Chs) (ns:List Nk) (cap:Nat):Prop:=xs.length=ns.length/\∀ (i:Nat) (x:Chs) (n:Nk),xs[i]? = some x->ns[i]? = some n->x.h=qe5 n/\Sq fC w x.s.v (Yg cap n.its)
theorem q37.up {w w':World} {xs:List Chs} {ns:List Nk} {cap:Nat} (h:q37 w xs ns cap) (f:Fr [] w w'):q37 w' xs ns cap :=
 ⟨h.1,fun i x n e1 e2=>⟨(h.2 i x n e1 e2).1,(h.2 i x n e1 e2).2.up f⟩⟩
def zCh:Chs:=⟨⟨0,0,0,0,0,0,0,0⟩,⟨none,0,0⟩⟩
def zCe:Ce:=⟨0,0,0⟩
theorem qb2 {w:World} {b:Nat} {T:TypeId} {xs:List Chs} (o:Ob w b T (xs.flatMap fH).toArray) {i:Nat} {x:Chs} (hi:xs[i]? = some x) (y:Chs) :
  Ob (((((((((w.setCell ⟨b,i * 9,none⟩ (.int .i64 y.h.at_)).setCell ⟨b,i * 9+1,none⟩ (.int .i64 y.h.mn)).setCell ⟨b,i * 9+2,none⟩ (.int .i64 y.h.ct)).setCell ⟨b,i * 9+3,none⟩ (.int .i64 y.h.nx)).setCell ⟨b,i * 9+4,none⟩ (.int .i64 y.h.ld)).setCell ⟨b,i * 9+5,none⟩ (.int .i64 y.h.mt)).setCell ⟨b,i * 9+6,none⟩ (.int .i64 y.h.rp)).setCell ⟨b,i * 9+7,none⟩ (.int .i64 y.h.st)).setCell ⟨b,i * 9+8,none⟩ y.s.v) b T ((xs.set i y).flatMap fH).toArray:=by
 obtain ⟨⟨a0,a1,a2,a3,a4,a5,a6,a7⟩,s⟩:=x;obtain ⟨⟨b0,b1,b2,b3,b4,b5,b6,b7⟩,r⟩:=y;have hl:=(List.getElem?_eq_some_iff.1 hi).1;have nx:∀ z:Chs,(xs.set i z)[i]? = some z:=fun z=>by rw [List.getElem?_set_self hl]
 have s0:=o.seg Qj (i:=i) (j:=0) (x':=⟨⟨b0,a1,a2,a3,a4,a5,a6,a7⟩,s⟩) (u:=.int .i64 b0) hi Mg rfl;have s1:=s0.seg Qj (i:=i) (j:=1) (x':=⟨⟨b0,b1,a2,a3,a4,a5,a6,a7⟩,s⟩) (u:=.int .i64 b1) (nx _) Mg rfl;rw [List.set_set] at s1;have s2:=s1.seg Qj (i:=i) (j:=2) (x':=⟨⟨b0,b1,b2,a3,a4,a5,a6,a7⟩,s⟩) (u:=.int .i64 b2) (nx _) Mg rfl;rw [List.set_set] at s2;have s3:=s2.seg Qj (i:=i) (j:=3) (x':=⟨⟨b0,b1,b2,b3,a4,a5,a6,a7⟩,s⟩) (u:=.int .i64 b3) (nx _) Mg rfl;rw [List.set_set] at s3;have s4:=s3.seg Qj (i:=i) (j:=4) (x':=⟨⟨b0,b1,b2,b3,b4,a5,a6,a7⟩,s⟩) (u:=.int .i64 b4) (nx _) Mg rfl;rw [List.set_set] at s4;have s5:=s4.seg Qj (i:=i) (j:=5) (x':=⟨⟨b0,b1,b2,b3,b4,b5,a6,a7⟩,s⟩) (u:=.int .i64 b5) (nx _) Mg rfl;rw [List.set_set] at s5;have s6:=s5.seg Qj (i:=i) (j:=6) (x':=⟨⟨b0,b1,b2,b3,b4,b5,b6,a7⟩,s⟩) (u:=.int .i64 b6) (nx _) Mg rfl;rw [List.set_set] at s6;have s7:=s6.seg Qj (i:=i) (j:=7) (x':=⟨⟨b0,b1,b2,b3,b4,b5,b6,b7⟩,s⟩) (u:=.int .i64 b7) (nx _) Mg rfl;rw [List.set_set] at s7;have s8:=s7.seg Qj (i:=i) (j:=8) (x':=⟨⟨b0,b1,b2,b3,b4,b5,b6,b7⟩,r⟩) (u:=r.v) (nx _) Mg rfl;rw [List.set_set] at s8;exact s8
theorem qba {w:World} {b:Nat} {T:TypeId} {xs:List Ce} (o:Ob w b T (xs.flatMap fC).toArray) {i:Nat} {x:Ce} (hi:xs[i]? = some x) (y:Ce) :
  Ob (((w.setCell ⟨b,i * 3,none⟩ (.int .i64 y.s)).setCell ⟨b,i * 3+1,none⟩ (.int .i64 y.k)).setCell ⟨b,i * 3+2,none⟩ (.int .i64 y.d)) b T ((xs.set i y).flatMap fC).toArray:=by
 obtain ⟨a0,a1,a2⟩:=x;obtain ⟨b0,b1,b2⟩:=y;have hl:=(List.getElem?_eq_some_iff.1 hi).1;have nx:∀ z:Ce,(xs.set i z)[i]? = some z:=fun z=>by rw [List.getElem?_set_self hl]
 have s0:=o.seg Zf (i:=i) (j:=0) (x':=⟨b0,a1,a2⟩) (u:=.int .i64 b0) hi Mg rfl;have s1:=s0.seg Zf (i:=i) (j:=1) (x':=⟨b0,b1,a2⟩) (u:=.int .i64 b1) (nx _) Mg rfl;rw [List.set_set] at s1;have s2:=s1.seg Zf (i:=i) (j:=2) (x':=⟨b0,b1,b2⟩) (u:=.int .i64 b2) (nx _) Mg rfl;rw [List.set_set] at s2;exact s2
theorem fr9 {w:World} {b:Nat} (i0 i1 i2 i3 i4 i5 i6 i7 i8:Nat) (v0 v1 v2 v3 v4 v5 v6 v7 v8:Value):Fr [b] w (((((((((w.setCell ⟨b,i0,none⟩ v0).setCell ⟨b,i1,none⟩ v1).setCell ⟨b,i2,none⟩ v2).setCell ⟨b,i3,none⟩ v3).setCell ⟨b,i4,none⟩ v4).setCell ⟨b,i5,none⟩ v5).setCell ⟨b,i6,none⟩ v6).setCell ⟨b,i7,none⟩ v7).setCell ⟨b,i8,none⟩ v8):=by have hb:b∈[b]:=List.mem_singleton.2 rfl;exact ((((((((Fr.setCell v0 hb).setCell' v1 hb).setCell' v2 hb).setCell' v3 hb).setCell' v4 hb).setCell' v5 hb).setCell' v6 hb).setCell' v7 hb).setCell' v8 hb
theorem fr3c {w:World} {b:Nat} (i0 i1 i2:Nat) (v0 v1 v2:Value):Fr [b] w (((w.setCell ⟨b,i0,none⟩ v0).setCell ⟨b,i1,none⟩ v1).setCell ⟨b,i2,none⟩ v2):=by have hb:b∈[b]:=List.mem_singleton.2 rfl;exact ((Fr.setCell v0 hb).setCell' v1 hb).setCell' v2 hb
theorem meas {n j:Nat} {z:Int} (hz:z=(j:Int)+1) (h:n - (j+1)<n - j):n - z.toNat<n - ((j:Int)).toNat:=by subst hz;rw [show ((j:Int)+1).toNat=j+1 by omega,Int.toNat_natCast];exact h
end Go.Proofs.YtbddhncgemeohaaGreatDoor.Mx
namespace Go.Proofs.YtbddhncgemeohaaGreatDoor.Wd
open Go.RowKit Ar Ref Og Mx
def Ka (t c wd v:Int) (rs:List (List O)) (ps ds:List Int) (k:Int):Bool:=decide (k<ps.length) || decide (10<rs.length) || decide (50<ds.length) || decide (8000<wd) || rs.any (fun r=>decide (60<r.length)) || decide (Z0 t c wd v rs ps≠0)
theorem Jq {t c wd v:Int} {rs:List (List O)} {ps ds:List Int} {k:Int} (h:Ka t c wd v rs ps ds k=false):(ps.length:Int)<=k/\rs.length<=10/\ds.length<=50/\wd<=8000/\(∀ r,r∈rs->r.length<=60)/\Z0 t c wd v rs ps=0:=by unfold Ka at h;simp only [Bool.or_eq_false_iff,decide_eq_false_iff_not] at h;obtain ⟨⟨⟨⟨⟨h1,h2⟩,h3⟩,h4⟩,h5⟩,h6⟩:=h;exact ⟨by omega,by omega,by omega,by omega,fun r hr=>by have:=List.any_eq_false.1 h5 r hr;simpa using this,by omega⟩
def WdAt (w:World) (rs:List (List O)) (x:Value) (wr:World):Prop:=∃ n:Nat,n<=rs.length/\x = .int .i64 n/\wr=w/\∀ i,i<n->¬ 60<(J9 rs i).length
theorem q2u (t c wd v:Int) (rs:List (List O)) (ps ds:List Int) (s:Value) (k:Int) (w:World) (h:Scr w s t c wd v rs ps ds) :
  Calls Tryz.prog 6 #[s,.int .i64 k] w fun e w'=>e = .returned (.bool (Ka t c wd v rs ps ds k))/\Fr [] w w':=by
 have H:=qb h;obtain ⟨vo,vp,vd,rfl,hr,hp,hd⟩:=h;obtain ⟨a,cap,x,rfl,hl,hc,hrow⟩:=hr;obtain ⟨a2,cap2,rfl,hl2,-,-⟩:=hp;obtain ⟨a3,cap3,rfl,hl3,-,-⟩:=hd;have HC:=qb hc;have HR:=qb hrow;clear hc hrow;unfold maxLen at hl hl2 hl3;generalize hX:Ka t c wd v rs ps ds k=X;have HX:=qb hX;clear hX;have F0:=(Fr.refl [] w).alloc (.cells #[.int .i64 t,.int .i64 c,.int .i64 wd,.int .i64 v,.slice a rs.length cap,.slice a2 ps.length cap2,.slice a3 ds.length cap3] 27);have hb:=Go.heap_alloc_new w (.cells #[.int .i64 t,.int .i64 c,.int .i64 wd,.int .i64 v,.slice a rs.length cap,.slice a2 ps.length cap2,.slice a3 ds.length cap3] 27);obtain ⟨c0,c1,c2,c3,c4,c5,c6⟩:=q2a hb;by_cases h1:k<ps.length
 ·have g:decide ((ps.length:Int)>k)=true:=by simpa using h1
  have e:X=true:=by rw [<- HX.out];unfold Ka;simp [h1]
  clear h1;exact Df
 have g1:decide ((ps.length:Int)>k)=false:=by simpa using h1
 by_cases h2:10<rs.length
 ·have g:decide ((rs.length:Int)>10)=true:=by simp;omega
  have e:X=true:=by rw [<- HX.out];unfold Ka;simp [h2]
  clear h1 h2;exact Df
 have g2:decide ((rs.length:Int)>10)=false:=by simp;omega
 by_cases h3:50<ds.length
 ·have g:decide ((ds.length:Int)>50)=true:=by simp;omega
  have e:X=true:=by rw [<- HX.out];unfold Ka;simp [h3]
  clear h1 h2 h3;exact Df
 have g3:decide ((ds.length:Int)>50)=false:=by simp;omega
 by_cases h4:8000<wd
 ·have g:decide (wd>8000)=true:=by simpa using h4
  have e:X=true:=by rw [<- HX.out];unfold Ka;simp [h4]
  clear h1 h2 h3 h4;exact Df
 have g4:decide (wd>8000)=false:=by simpa using h4
 have HXX:=qb (show X=(rs.any (fun r=>decide (60<r.length)) || decide (Z0 t c wd v rs ps≠0)) by rw [<- HX.out];unfold Ka;simp [h1,h2,h3,h4]);have hrl:rs.length<=10:=by omega
 have HB:=qb hb;have HF0:=qb F0;clear h1 h2 h3 h4 HX hb F0;go_enter Tryz.func6,Tryz.ntmps6;go_wp2_with fail;generalize hw1:World.alloc w _=w1 at *;generalize w.heap.size=bs at *;go_loopw [5] (fun x wr=>WdAt w1 rs x wr) (fun x _=>rs.length - (intOf x).toNat);case atStart=>exact ⟨0,Nat.zero_le _,rfl,rfl,by omega⟩
 case round =>
  obtain ⟨n,hn,rfl,rfl,hi⟩:=hrel;by_cases hlt:n<rs.length
  ·rcases HC.out with hz | ⟨b,off,rfl,hbb,hcell⟩
   ·omega
   have d0:=Zz HF0.out (hcell n hlt);obtain ⟨ar,capr,hxe,hlr,-,-⟩:=HR.out n hlt;rw [hxe] at d0;have HI2:=qb (show n+1<=rs.length/\rs.length - (n+1)<rs.length - n by omega);have hltz:(n:Int)<(rs.length:Int):=by omega
   clear hcell hxe;unfold maxLen at hlr;by_cases hg:60<(J9 rs n).length
   ·have g5:decide (((J9 rs n).length:Int)>60)=true:=by simp;omega
    have e:X=true:=by rw [HXX.out];simp only [Bool.or_eq_true];exact .inl (List.any_eq_true.2 ⟨_,Un hlt,by simpa using hg⟩)
    clear hg hi;go_wp2;go_ret;exact ⟨by rw [e];rfl,HF0.out⟩
   ·have g5:decide (((J9 rs n).length:Int)>60)=false:=by simp;omega
    have HG:=qb (qd hg hi);clear hg hi;go_wp2_with fail;go_roundw
    case rel =>
     refine ⟨n+1,HI2.out.1,by go_num,rfl,fun i hi'=>?_⟩;by_cases hin:i=n
     ·rw [hin];exact HG.out.1
     ·exact HG.out.2 i Ly
    case measure=>exact meas rfl HI2.out.2
  ·obtain rfl:n=rs.length:=by omega
   have hany:rs.any (fun r=>decide (60<r.length))=false:=by rw [List.any_eq_false];intro y hy;obtain ⟨i,hi',rfl⟩:=List.getElem_of_mem hy;have:=hi i hi';unfold J9 at this;rw [List.getD_eq_getElem?_getD,List.getElem?_eq_getElem hi'] at this;simpa using this
   have HXY:=qb (show X=decide (Z0 t c wd v rs ps≠0) by rw [HXX.out,hany];rfl);clear hi hany;go_wp2_with fail;refine (Ro.J0 t c wd v rs ps ds _ wr (H.out.up HF0.out)).mono ?_;rintro e w2 ⟨rfl,F2⟩;clear c0 c1 c2 c3 c4 c5 c6;by_cases hs:Z0 t c wd v rs ps=0
   ·rw [hs];have HS:=qb hs;clear hs;go_wp2_with fail;go_ret;exact ⟨by rw [HXY.out,HS.out];rfl,HF0.out.trans F2⟩
   ·have g6:(Z0 t c wd v rs ps != 0)=true:=by simpa using hs
    have HS:=qb hs;clear hs;generalize Z0 t c wd v rs ps=sc at *;go_wp2_with fail;go_ret;exact ⟨by rw [HXY.out];simp [HS.out],HF0.out.trans F2⟩
def J8 (l:List Int) (s:St):Nat->St
 | 0=>s
 | n+1=>(J8 l s n).vg n (nth l n)
theorem Vl (l:List Int) (s:St):∀ n,(J8 l s n).l.length=s.l.length
 | 0=>rfl
 | n+1=>by unfold J8 St.vg;simp only [xd];exact Vl l s n
theorem W9 (l:List Int) (s:St):∀ n,(J8 l s n).n=s.n/\(J8 l s n).a=s.a
 | 0=>⟨rfl,rfl⟩
 | n+1=>W9 l s n
theorem Rq (l:List Int) (s:St):∀ n,n<=s.l.length->∀ i,nth (J8 l s n).l i=if i<n then nth l i else nth s.l i
 | 0,_,i=>by simp [J8]
 | n+1,h,i=>by
  unfold J8 St.vg;simp only;rw [Tc _ (by rw [Vl];omega)];have ih:=Rq l s n Ly i;unfold nth at ih ⊢;rw [List.getD_eq_getElem?_getD];by_cases hi:i=n
  ·subst hi;rw [List.getElem?_set_self (by rw [Vl];omega),qg Ly];rfl
  ·rw [List.getElem?_set_ne (fun e=>hi e.symm),<- List.getD_eq_getElem?_getD,ih];by_cases h2:i<n
   ·rw [qg h2,qg Ly]
   ·rw [qf h2,qf Ly]
def R5 (l:List Int):St:=⟨l,0,⟨0,0,0,0,false⟩⟩
theorem q6f (l:List Int):J8 l (St.fresh l.length) l.length=R5 l:=by
 have h1:=Vl l (St.fresh l.length) l.length;have h2:=W9 l (St.fresh l.length) l.length;have h3:=Rq l (St.fresh l.length) l.length (by unfold St.fresh;simp);have hl:(St.fresh l.length).l.length=l.length:=by unfold St.fresh;simp
 have e:(J8 l (St.fresh l.length) l.length).l=l:=by
  apply List.ext_getElem?;intro i;by_cases hi:i<l.length
  ·have:=h3 i;rw [qg hi] at this;unfold nth at this;rw [List.getD_eq_getElem?_getD,List.getD_eq_getElem?_getD,List.getElem?_eq_getElem Ly,List.getElem?_eq_getElem hi] at this;rw [List.getElem?_eq_getElem Ly,List.getElem?_eq_getElem hi];simpa using this
  ·rw [List.getElem?_eq_none Ly,List.getElem?_eq_none Ly]
 generalize J8 l (St.fresh l.length) l.length=u at *;obtain ⟨ul,un,ua⟩:=u;unfold St.fresh at h2;simp only at e h2;rw [e,h2.1,h2.2];rfl
def AnAt (w:World) (s:St) (p q:Nat) (u:Value) (wr:World):Prop:=∃ i,i<=s.l.length/\u = .int .i64 (i:Nat)/\Ar wr p q (J8 s.l (St.fresh s.l.length) i)
theorem Tu (p q:Nat) (s:St) (w:World) (h:Rar w p q s) :
  Calls Tryz.prog 8 #[.pointer (some ⟨p,0,none⟩)] w (Made w (R5 s.l)):=by
 obtain ⟨cap,hcap,r0,-,-,-,-,-,-,rq⟩:=Zy h;have hlen:1<=s.l.length/\s.l.length<=20000:=⟨h.lo,h.hi⟩;go_enter Tryz.func8,Tryz.ntmps8;go_wp2_with fail;refine (Ar.q2f s.l.length s.l.length hlen.1 hlen.2 Ly w).mono ?_;rintro e w1 ⟨pa,qa,rfl,hpa,hqa,A,F⟩;have HP:=qb (qd hpa hqa);have HH:=qb (h.kept F Ma Ma);have HA:=qb A;have HF:=qb F;have hpl:=h.lt;clear h A F hpa hqa r0 rq;go_wp2_with fail;go_loopw [4] (fun u wr=>AnAt w1 s pa qa u wr/\Rar wr p q s/\Fr [] w wr) (fun u _=>s.l.length - (intOf u).toNat);case atStart=>exact ⟨⟨0,Nat.zero_le _,rfl,HA.out⟩,HH.out,HF.out⟩
 case round =>
  obtain ⟨⟨i,hi,rfl,A⟩,R,G⟩:=hrel;obtain ⟨cap2,hcap2,r0,-,-,-,-,-,-,rq⟩:=Zy R;by_cases hlt:i<s.l.length
  ·have d0:=rq i hlt;have HI2:=qb (show i+1<=s.l.length/\s.l.length - (i+1)<s.l.length - i by omega);have hltz:(i:Int)<(s.l.length:Int):=by omega
   have HG:=qb (qd R G);clear rq R G hlt;go_wp2_with fail;refine (Ar.Q3 wr pa qa _ i (nth s.l i) A).mono ?_;rintro e w3 ⟨rfl,A3,F3⟩;have h1:=HP.out;have HA3:=qb (qd A3 (qd (HG.out.1.kept F3 Ml Ml) (HG.out.2.own F3 Ml)));clear A A3 F3 r0 d0;go_wp2_with fail;go_roundw;case rel=>exact ⟨⟨i+1,HI2.out.1,by simp,HA3.out.1⟩,HA3.out.2.1,HA3.out.2.2⟩
   case measure=>exact meas rfl HI2.out.2
  ·obtain rfl:i=s.l.length:=by omega
   have HA2:=qb (qd A G);clear rq A G R;go_wp2_with fail;go_ret;have hA:=HA2.out.1;rw [q6f] at hA;exact ⟨pa,qa,rfl,HP.out.1,HP.out.2,hA,HA2.out.2⟩
end Go.Proofs.YtbddhncgemeohaaGreatDoor.Wd
namespace Go.Proofs.YtbddhncgemeohaaGreatDoor.Mp
open Go.RowKit Ar
structure An where
 code:Int
 found:Bool
 val:Int
 writer:Int
 version:Int
 pairs:List (Int×Int)
def Yo (a:An) (pv:Value):Value:=.agg #[.int .i64 a.code,.bool a.found,.int .i64 a.val,.int .i64 a.writer,.int .i64 a.version,pv]
end Go.Proofs.YtbddhncgemeohaaGreatDoor.Mp
namespace Go.Proofs.YtbddhncgemeohaaGreatDoor.Vw
open Go.RowKit Ar Mx
def Zh (n:Nat) (c at_:Int):Bool:=decide (0<=at_) && decide (at_<=n - (7+3 * c))
end Go.Proofs.YtbddhncgemeohaaGreatDoor.Vw
