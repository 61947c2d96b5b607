/- Parts. -/
import Derived.Test.YtbddhncgemeohaaGreatDoorYad
import Derived.Test.YtbddhncgemeohaaGreatDoorYae
import Derived.Test.YtbddhncgemeohaaGreatDoorYag
import Derived.Test.YtbddhncgemeohaaGreatDoorYah
import Derived.Test.YtbddhncgemeohaaGreatDoorYaj
set_option linter.unusedVariables false
set_option linter.unusedSimpArgs false
set_option maxRecDepth 100000
set_option maxHeartbeats 12800000
namespace Go.Proofs.YtbddhncgemeohaaGreatDoor.Mx
open Go.RowKit Ar Vw
def fQ (x:Int×Int):List Value:=[.int .i64 x.1,.int .i64 x.2]
theorem Ui:Lays fQ 2:=⟨fun _=>rfl,fun x u hu=>by simp [fQ] at hu;rcases hu with rfl | rfl <;> rfl,by decide⟩
theorem woI:(Tryz.prog.info? 180).map (fun i=>(i.zero,i.size,i.bytes))=some (some (.agg #[.int .i64 0,.int .i64 0]),2,16):=by kernel_rfl
theorem q0d (n:Nk) {cap:Nat} (h:n.its.length<=cap):(Zg n).length<=3+3 * cap:=by unfold Zg;simp only [List.length_cons,Vf];omega
theorem Yp {cap:Nat}:∀ ns:List Nk,(∀ n,n∈ns->n.its.length<=cap)->(je ns).length<=(3+3 * cap) * ns.length
 | [],_=>by simp [je]
 | n :: r,h=>by
  have h1:=Yp r (fun m hm=>h m (by simp [hm]));have h2:=q0d n (h n Ma);unfold je at h1 ⊢;rw [List.flatMap_cons,List.length_append,List.length_cons,Nat.mul_add];omega
theorem q97 {w:World} {a:Option Addr} {n cap i:Nat} {xs:List Chs} {x:Chs} (h:Sq fH w (.slice a n cap) xs) (hi:xs[i]? = some x) :
  ∃ g off,a=some ⟨g,off,none⟩/\w.cell? ⟨g,off+i * 9,none⟩=some (.int .i64 x.h.at_)/\w.cell? ⟨g,off+i * 9+1,none⟩=some (.int .i64 x.h.mn)/\w.cell? ⟨g,off+i * 9+2,none⟩=some (.int .i64 x.h.ct)/\w.cell? ⟨g,off+i * 9+3,none⟩=some (.int .i64 x.h.nx)/\w.cell? ⟨g,off+i * 9+4,none⟩=some (.int .i64 x.h.ld)/\w.cell? ⟨g,off+i * 9+5,none⟩=some (.int .i64 x.h.mt)/\w.cell? ⟨g,off+i * 9+6,none⟩=some (.int .i64 x.h.rp)/\w.cell? ⟨g,off+i * 9+7,none⟩=some (.int .i64 x.h.st)/\w.cell? ⟨g,off+i * 9+8,none⟩=some x.s.v:=by
 obtain ⟨-,g,off,rfl,hc⟩:=Sq.cell Qj h hi;exact ⟨g,off,rfl,hc 0 _ rfl,hc 1 _ rfl,hc 2 _ rfl,hc 3 _ rfl,hc 4 _ rfl,hc 5 _ rfl,hc 6 _ rfl,hc 7 _ rfl,hc 8 _ rfl⟩
theorem q6v {α:Type} {l:List α} {k:Nat} {y:α} (h:l[k]? = some y):l.take (k+1)=l.take k++[y]:=by rw [List.take_add_one,h];rfl
def RwO (w:World) (ns:List Nk) (u x:Value) (wr:World):Prop:=∃ i,i<=ns.length/\x = .int .i64 (i:Nat)/\wr.ownsRow w.heap.size 180 2 u (je (ns.take i)).length ((je (ns.take i)).flatMap fQ)/\Fr [] w wr
def RwI (w:World) (cap:Nat) (q:Nat) (cs:Array Value) (pre:List (Int×Int)) (at_:Int) (its:List It) (u x:Value) (wr:World):Prop:=∃ k,k<=cap/\x = .int .i64 (k:Nat)/\wr.ownsRow w.heap.size 180 2 u (pre++yp at_ 0 (its.take k)).length ((pre++yp at_ 0 (its.take k)).flatMap fQ)/\Ob wr q 191 cs/\Fr [] w wr
theorem q6w (cap:Nat) (ns:List Nk) (xs:List Chs) (v:Value) (w:World) (hcap:cap<=16) (hl:ns.length<=1000) (hits:∀ n,n∈ns->n.its.length<=cap) (h:Sq fH w v xs) (hx:q37 w xs ns cap) :
  Calls Tryz.prog 129 #[v] w fun e w'=>(∃ u,e = .returned u/\w'.ownsRow w.heap.size 180 2 u (je ns).length ((je ns).flatMap fQ))/\Fr [] w w':=by
 obtain ⟨a,cp,rfl,hcp,hmax,-⟩:=id h;rw [hx.1] at h hcp ⊢;have HS:=qb (qd h (qd hx hits));clear h hx hits;go_enter Tryz.func129,Tryz.ntmps129;go_wp2_with fail;go_loopw [3,4] (RwO w ns) (fun _ x _=>ns.length - (intOf x).toNat);case atStart=>exact ⟨0,by omega,rfl,⟨rfl,.inl ⟨rfl,rfl⟩⟩,Fr.refl _ _⟩
 case round =>
  obtain ⟨i,hi,rfl,hr,F⟩:=hrel;by_cases hlt:i<ns.length
  ·have HI2:=qb (show i+1<=ns.length/\ns.length - (i+1)<ns.length - i by omega);have hltz:(i:Int)<(ns.length:Int):=by omega
   have hi0:(0:Int)<=(i:Int):=by omega
   obtain ⟨n,hn⟩:∃ n,ns[i]? = some n:=⟨ns[i],List.getElem?_eq_getElem _⟩;obtain ⟨x,hxi⟩:∃ x,xs[i]? = some x:=⟨xs[i]'(by rw [HS.out.2.1.1];exact hlt),List.getElem?_eq_getElem _⟩;obtain ⟨e1,hsq⟩:=HS.out.2.1.2 i x n hxi hn;have HIT:=qb (HS.out.2.2 n (List.mem_of_getElem? hn));have HSQ0:=hsq;obtain ⟨g,off,rfl,c0,c1,c2,c3,c4,c5,c6,c7,c8⟩:=q97 (HS.out.1.up F) hxi;obtain ⟨⟨at_,mn,ct,nx,ld,mt,rp,st⟩,⟨sa,sn,sc⟩⟩:=x;obtain ⟨nat,nmn,nct,nnx,its⟩:=n;unfold qe5 at e1;simp only [Hd.mk.injEq] at e1;simp only at hsq c0 c1 c2 c3 c4 c5 c6 c7 c8 HIT;obtain ⟨rfl,rfl,rfl,rfl,rfl,rfl,rfl,rfl⟩:=e1;unfold Sv.v at c8 hsq;simp only at c8 hsq;obtain ⟨sa',sc',e2,hsc,hsm,-⟩:=id hsq;rw [Qq] at e2 hsc;simp only [Value.slice.injEq] at e2;obtain ⟨rfl,rfl,rfl⟩:=e2;have HWT:=qb (q0f hn);have HSQ:=qb HSQ0;clear HSQ0;have F1:=(Fr.refl [] wr).alloc (.cells #[.int .i64 at_,.int .i64 mn,.int .i64 ct,.int .i64 nx,.int .i64 0,.int .i64 0,.int .i64 0,.int .i64 0,.slice sa sn sc] 191);have o1:=Ob.new wr 191 #[.int .i64 at_,.int .i64 mn,.int .i64 ct,.int .i64 nx,.int .i64 0,.int .i64 0,.int .i64 0,.int .i64 0,.slice sa sn sc];have r1:=qp hr F1;have hs1:=(hsq.up F).up F1;have FW:=F.trans F1
   have HLN:=qb (show (je (ns.take i)).length<=60000 by
    have h1:=Yp (ns.take i) (fun m hm=>HS.out.2.2 m (List.mem_of_mem_take hm))
    have h2:(ns.take i).length<=1000:=by rw [List.length_take];omega
    have h3:(3+3 * sn) * (ns.take i).length<=51 * 1000:=Nat.mul_le_mul Ly h2
    omega)
   generalize je (ns.take i)=pre at *;clear F hn hxi hsq;have hz9:(wr.alloc (.cells #[.int .i64 at_,.int .i64 mn,.int .i64 ct,.int .i64 nx,.int .i64 0,.int .i64 0,.int .i64 0,.int .i64 0,.slice sa sn sc] 191)).heap.size=wr.heap.size+1:=Vz _ _;have F2:=(Fr.refl [] (wr.alloc (.cells #[.int .i64 at_,.int .i64 mn,.int .i64 ct,.int .i64 nx,.int .i64 0,.int .i64 0,.int .i64 0,.int .i64 0,.slice sa sn sc] 191))).alloc (.cells #[.int .i64 (wrap64 at_),.int .i64 mn,.int .i64 (wrap64 (at_+1)),.int .i64 ct,.int .i64 (wrap64 (at_+2)),.int .i64 nx] 180);have B2:=Go.heap_alloc_new (wr.alloc (.cells #[.int .i64 at_,.int .i64 mn,.int .i64 ct,.int .i64 nx,.int .i64 0,.int .i64 0,.int .i64 0,.int .i64 0,.slice sa sn sc] 191)) (.cells #[.int .i64 (wrap64 at_),.int .i64 mn,.int .i64 (wrap64 (at_+1)),.int .i64 ct,.int .i64 (wrap64 (at_+2)),.int .i64 nx] 180);rw [hz9] at B2;have HR2:=qb (qd (qp r1 F2) (qd (o1.up F2) (qd (hs1.up F2) (FW.trans F2))));have HB2:=qb B2;obtain ⟨ap,cp2,rfl,hcp2,hmp2,-⟩:=id (Sq.own (f:=fQ) hr);clear r1 o1 hs1 FW F1 F2 B2 hz9 hr;go_wp2_with (at_builtin;go_loud (refine qw Ui rfl _ _ 164 rfl Tryz.underlying164 woI rfl (B:=w.heap.size) _ pre rfl HR2.out.1 _ [(wrap64 at_,mn),(wrap64 (at_+1),ct),(wrap64 (at_+2),nx)] rfl (Sq.block HB2.out rfl rfl (Nat.le_refl _) Mm) (by have:=HLN.out;simp <;> omega) Mg HR2.out.2.2.2.size ?_);intro a7 k7 w7 r7 F7;generalize hT:pre++[(wrap64 at_,mn),(wrap64 (at_+1),ct),(wrap64 (at_+2),nx)]=T at r7 ⊢);have G7:Fr [] w w7:=HR2.out.2.2.2.own F7 (zh HR2.out.1);have o7:=Ob.kept HR2.out.2.1 F7 (jl HR2.out.1 HR2.out.2.1 Mg);have HLT:=qb (show T.length<=60003 by rw [<- hT];simp;exact HLN.out);have HT:=qb hT;generalize wr.heap.size=q at *;have H7:=qb (qd o7 (qd G7 (HSQ.out.up G7)));clear HR2 HB2 F7 G7 o7 hT c0 c1 c2 c3 c4 c5 c6 c7 c8;generalize wr=wo at *;go_loopw [3,6] (RwI w sn q #[.int .i64 at_,.int .i64 mn,.int .i64 ct,.int .i64 nx,.int .i64 0,.int .i64 0,.int .i64 0,.int .i64 0,.slice sa sn sc] T at_ its) (fun _ x _=>sn - (intOf x).toNat);case atStart=>exact ⟨0,by omega,rfl,by rw [List.take_zero];unfold yp;rw [List.append_nil];exact r7,H7.out.1,H7.out.2.1⟩
   case round =>
    clear r7;obtain ⟨k,hk,rfl,hr,ok,Fk⟩:=hrel;have b8:wr.cell? ⟨q,8,none⟩=some (.slice sa sn sc):=ok.cell rfl;have b0:wr.cell? ⟨q,0,none⟩=some (.int .i64 at_):=ok.cell rfl;have hqn:q<wr.heap.size:=Ob.lt ok;have hqe:¬ q=wr.heap.size:=by omega
    by_cases hkl:k<sn
    ·have HK2:=qb (show k+1<=sn/\sn - (k+1)<sn - k by omega);have hklz:(k:Int)<(sn:Int):=by omega
     have hk0:(0:Int)<=(k:Int):=by omega
     have hx9:=q5t (cap:=sn) (g:=its) hkl;have hs9:=HSQ.out.up Fk;by_cases hil:k<its.length
     ·obtain ⟨y,hy⟩:∃ y,its[k]? = some y:=⟨its[k],List.getElem?_eq_getElem _⟩;rw [hy] at hx9;obtain ⟨g2,off2,rfl,d0,d1,d2⟩:=q2e hs9 hx9;unfold ceO at d0 d1 d2;simp only at d0 d1 d2
      have hne:∀ W,(binOp .neq 193 (.agg #[.int .i64 (yg y.v),.int .i64 y.k,.int .i64 y.d]) (.agg #[.int .i64 0,.int .i64 0,.int .i64 0])).run Tryz.prog W = .ok (.bool true) W:=fun W=>by have h:=qac ⟨yg y.v,y.k,y.d⟩ ⟨0,0,0⟩ W;rw [show (decide ((⟨yg y.v,y.k,y.d⟩:Ce)≠⟨0,0,0⟩))=true from decide_eq_true (by intro h;have h1:=congrArg Ce.s h;simp only at h1;have:=Y9 y.v;omega)] at h;exact h
      have HY:=qb (show yp at_ 0 (its.take (k+1))=yp at_ 0 (its.take k)++[(Qo at_ (k:Int),yg y.v),(wrap64 (Qo at_ (k:Int)+1),y.k),(wrap64 (Qo at_ (k:Int)+2),y.d)] by
       rw [q6v hy,J1,Nat.zero_add,show (its.take k).length=k by rw [List.length_take];omega])
      have HLI:=qb (show (T++yp at_ 0 (its.take k)).length<=60100 by
       have h1:=Vf at_ (its.take k) 0
       have h2:(its.take k).length<=16:=by rw [List.length_take];omega
       have:=HLT.out
       rw [List.length_append];omega)
      generalize hT2:T++yp at_ 0 (its.take k)=T2 at *;have HT2:=qb hT2;generalize yg y.v=sw at *;have F1:=(Fr.refl [] wr).alloc (.cells #[.int .i64 sw,.int .i64 y.k,.int .i64 y.d] 193);have F2:=(Fr.refl [] (wr.alloc (.cells #[.int .i64 sw,.int .i64 y.k,.int .i64 y.d] 193))).alloc (.cells #[.int .i64 (Qo at_ (k:Int)),.int .i64 sw,.int .i64 (wrap64 (Qo at_ (k:Int)+1)),.int .i64 y.k,.int .i64 (wrap64 (Qo at_ (k:Int)+2)),.int .i64 y.d] 180);have B2:=Go.heap_alloc_new (wr.alloc (.cells #[.int .i64 sw,.int .i64 y.k,.int .i64 y.d] 193)) (.cells #[.int .i64 (Qo at_ (k:Int)),.int .i64 sw,.int .i64 (wrap64 (Qo at_ (k:Int)+1)),.int .i64 y.k,.int .i64 (wrap64 (Qo at_ (k:Int)+2)),.int .i64 y.d] 180);rw [Vz] at B2;have HR9:=qb (qd (qp (qp hr F1) F2) (qd (Fk.trans (F1.trans F2)) (qd B2 (ok.up (F1.trans F2)))));obtain ⟨ap2,cp3,rfl,hcp3,hmp3,-⟩:=id (Sq.own (f:=fQ) hr);clear hr F1 F2 B2 hs9 hx9 hT2 Fk hy ok;go_wp2_with (first | (go_at_call 105;refine (vq _ _ _).mono ?_;rintro e _ ⟨rfl,rfl⟩) | (at_builtin;go_loud (refine qw Ui rfl _ _ 164 rfl Tryz.underlying164 woI rfl (B:=w.heap.size) _ T2 rfl HR9.out.1 _ [(Qo at_ (k:Int),sw),(wrap64 (Qo at_ (k:Int)+1),y.k),(wrap64 (Qo at_ (k:Int)+2),y.d)] rfl (Sq.block HR9.out.2.2.1 rfl rfl (Nat.le_refl _) Mm) (by have:=HLI.out;simp <;> omega) Mg HR9.out.2.1.size ?_);intro a8 k8 w8 r8 F8;generalize hT3:T2++[(Qo at_ (k:Int),sw),(wrap64 (Qo at_ (k:Int)+1),y.k),(wrap64 (Qo at_ (k:Int)+2),y.d)]=T3 at r8 ⊢));have HR8:=qb (qd r8 (qd (qd (Ob.kept HR9.out.2.2.2 F8 (jl HR9.out.1 HR9.out.2.2.2 Mg)) (HR9.out.2.1.own F8 (zh HR9.out.1))) (show T++yp at_ 0 (its.take (k+1))=T3 by rw [<- hT3,<- HT2.out,HY.out,List.append_assoc])));exact Db
     ·rw [List.getElem?_eq_none (by omega:its.length<=k)] at hx9;obtain ⟨g2,off2,rfl,d0,d1,d2⟩:=q2e hs9 hx9;unfold ceO at d0 d1 d2;simp only at d0 d1 d2;have hne:∀ W,(binOp .neq 193 (.agg #[.int .i64 0,.int .i64 0,.int .i64 0]) (.agg #[.int .i64 0,.int .i64 0,.int .i64 0])).run Tryz.prog W = .ok (.bool false) W:=fun W=>by have h:=qac ⟨0,0,0⟩ ⟨0,0,0⟩ W;simpa using h
      have F1:=(Fr.refl [] wr).alloc (.cells #[.int .i64 0,.int .i64 0,.int .i64 0] 193);have HR8:=qb (qd (qp hr F1) (qd (qd (ok.up F1) (Fk.trans F1)) (show its.take (k+1)=its.take k by rw [List.take_of_length_le Ly,List.take_of_length_le Ly])));clear hr F1 hs9 hx9 Fk ok;go_wp2_with fail;exact Db
    ·obtain rfl:k=sn:=by omega
     have HR8:=qb (qd hr (qd Fk (show T++yp at_ 0 (its.take k)=je (ns.take (i+1)) by rw [HWT.out,<- HT.out,List.append_assoc,List.take_of_length_le HIT.out];rfl)));clear hr Fk ok;go_wp2_with fail;go_roundw;case rel=>exact ⟨i+1,HI2.out.1,by simp,by rw [<- HR8.out.2.2];exact HR8.out.1,HR8.out.2.1⟩
     case measure=>exact meas rfl HI2.out.2
  ·obtain rfl:i=ns.length:=by omega
   rw [List.take_length] at hr;have HR:=qb (qd hr F);clear hr F;go_wp2_with fail;go_ret;exact ⟨⟨_,rfl,HR.out.1⟩,HR.out.2⟩
end Go.Proofs.YtbddhncgemeohaaGreatDoor.Mx
namespace Go.Proofs.YtbddhncgemeohaaGreatDoor.Mx
open Go.RowKit Ar Ref
structure Lok where
 c:Cf
 chunk:Int
 lo:Int
 hi:Int
 most:Int
 line:Int
 i:Int
 count:Int
 s:Int
 k:Int
 g:Int
 lv:Value
 l:List It
def Lok.cells (x:Lok):Array Value:=#[.int .i64 x.c.t,.int .i64 x.c.c,.int .i64 x.c.wd,.int .i64 x.c.v,.int .i64 x.chunk,.int .i64 x.lo,.int .i64 x.hi,.int .i64 x.most,.int .i64 x.line,.int .i64 x.i,.int .i64 x.count,.int .i64 x.s,.int .i64 x.k,.int .i64 x.g,x.lv]
def vn (w:World) (b:Nat) (x:Lok):Prop:=Ob w b 140 x.cells
theorem z6 {w:World} {b:Nat} {x:Lok} (h:vn w b x):w.cell? ⟨b,0,none⟩=some (.int .i64 x.c.t)/\w.cell? ⟨b,1,none⟩=some (.int .i64 x.c.c)/\w.cell? ⟨b,2,none⟩=some (.int .i64 x.c.wd)/\w.cell? ⟨b,3,none⟩=some (.int .i64 x.c.v)/\w.cell? ⟨b,4,none⟩=some (.int .i64 x.chunk)/\w.cell? ⟨b,5,none⟩=some (.int .i64 x.lo)/\w.cell? ⟨b,6,none⟩=some (.int .i64 x.hi)/\w.cell? ⟨b,7,none⟩=some (.int .i64 x.most)/\w.cell? ⟨b,8,none⟩=some (.int .i64 x.line)/\w.cell? ⟨b,9,none⟩=some (.int .i64 x.i)/\w.cell? ⟨b,10,none⟩=some (.int .i64 x.count)/\w.cell? ⟨b,11,none⟩=some (.int .i64 x.s)/\w.cell? ⟨b,12,none⟩=some (.int .i64 x.k)/\w.cell? ⟨b,13,none⟩=some (.int .i64 x.g)/\w.cell? ⟨b,14,none⟩=some (x.lv) :=
 ⟨h.cell rfl,h.cell rfl,h.cell rfl,h.cell rfl,h.cell rfl,h.cell rfl,h.cell rfl,h.cell rfl,h.cell rfl,h.cell rfl,h.cell rfl,h.cell rfl,h.cell rfl,h.cell rfl,h.cell rfl⟩
theorem qc3 {w:World} {b:Nat} {t:TypeId} {x0 x1 x2 x3:Value} (h:w.heap[b]? = some (.cells #[x0,x1,x2,x3] t (0,0))) :
  w.cell? ⟨b,0,none⟩=some x0/\w.cell? ⟨b,1,none⟩=some x1/\w.cell? ⟨b,2,none⟩=some x2/\w.cell? ⟨b,3,none⟩=some x3 :=
 ⟨by rw [cell_of_row _ _ _ _ _ _ h];rfl,by rw [cell_of_row _ _ _ _ _ _ h];rfl,by rw [cell_of_row _ _ _ _ _ _ h];rfl,by rw [cell_of_row _ _ _ _ _ _ h];rfl⟩
def Lok.new (c:Cf) (chunk lo hi most:Int):Lok:=⟨c,chunk,lo,hi,most,1,0,0,0,0,0,.slice none 0 0,[]⟩
def Lok.on (x:Lok):Lok:=if x.count<=x.i+1 then { x with i:=x.i+1,line:=0 } else { x with i:=x.i+1,line:=2 }
def V5 (l:List It) (key:Int):Option Nat:=l.findIdx? (fun y=>y.k == key)
def J5 (l:List It) (key:Int):Int:=match V5 l key with | some i=>(i:Int) | none=>-1
def q1f:List It->It->List It
 | [],x=>[x]
 | y :: r,x=>if y.k<x.k then y :: q1f r x else x :: y :: r
def q0k (l:List It) (x:It):List It:=match V5 l x.k with | some i=>l.set i x | none=>q1f l x
theorem q5i {l:List It} {x:It} {k:Nat} (hk:k<=l.length) (h1:∀ i y,i<k->l[i]? = some y->y.k<x.k) (h2:∀ y,l[k]? = some y->¬ y.k<x.k):q1f l x=l.take k++[x]++l.drop k:=by
 induction l generalizing k with
 | nil=>simp at hk;subst hk;rfl
 | cons y r ih =>
  unfold q1f;cases k with
  | zero=>rw [qf (h2 y rfl)];rfl
  | succ k =>
   exact Di
theorem q31 {l:List It} {key:Int} {i:Nat} {y:It} (hy:l[i]? = some y) (hk:y.k=key) (h:∀ j z,j<i->l[j]? = some z->z.k≠key):V5 l key=some i:=by
 unfold V5;have hlt:=(List.getElem?_eq_some_iff.1 hy).1;rw [List.findIdx?_eq_some_iff_getElem];refine ⟨hlt,?_,fun j hj=>?_⟩
 ·have:l[i]=y:=(List.getElem?_eq_some_iff.1 hy).2;rw [this];simpa using hk
 ·exact Gz
theorem q4k {l:List It} {key:Int} (h:∀ (j:Nat) (z:It),l[j]? = some z->z.k≠key):V5 l key=none:=by unfold V5;rw [List.findIdx?_eq_none_iff];exact Gv
theorem Kh (c:Cf) (chunk lo hi most:Int) (w:World):Calls Tryz.prog 87 #[c.val,.int .i64 chunk,.int .i64 lo,.int .i64 hi,.int .i64 most] w fun e w'=>∃ b,e = .returned (.pointer (some ⟨b,0,none⟩))/\w.heap.size<=b/\vn w' b (Lok.new c chunk lo hi most)/\Fr [] w w':=by unfold Cf.val;have F0:=(Fr.refl [] w).alloc (.cells #[.int .i64 c.t,.int .i64 c.c,.int .i64 c.wd,.int .i64 c.v] 23);obtain ⟨c0,c1,c2,c3⟩:=qc3 (Go.heap_alloc_new w (.cells #[.int .i64 c.t,.int .i64 c.c,.int .i64 c.wd,.int .i64 c.v] 23));go_enter Tryz.func87,Tryz.ntmps87;exact Bh
theorem Qv (x:Lok) (hi:-1<=x.i/\x.i<=100) (b:Nat) (w:World) (h:vn w b x):Calls Tryz.prog 112 #[.pointer (some ⟨b,0,none⟩)] w fun e w'=>e = .returned (.tuple #[])/\vn w' b x.on/\Fr [b] w w':=by
 generalize hy:x.on=y;have HY:=qb hy;clear hy;obtain ⟨c0,c1,c2,c3,c4,c5,c6,c7,c8,c9,c10,c11,c12,c13,c14⟩:=z6 h;have z:=h.frozen;go_enter Tryz.func112,Tryz.ntmps112;go_wp2_with fail;have h1:vn _ b { x with i:=x.i+1,line:=2 }:=Ob.set (Ob.set h (i:=9) (.int .i64 (x.i+1))) (i:=8) (.int .i64 2);have D1:Fr [b] w ((w.setCell ⟨b,9,none⟩ (.int .i64 (x.i+1))).setCell ⟨b,8,none⟩ (.int .i64 2)):=(Fr.setCell _ Ma).setCell' _ Ma;clear c0 c1 c2 c3 c4 c5 c6 c7 c8 c9 c10 c11 c12 c13 c14 z;generalize ((w.setCell ⟨b,9,none⟩ (.int .i64 (x.i+1))).setCell ⟨b,8,none⟩ (.int .i64 2))=w1 at *;obtain ⟨-,-,-,-,-,-,-,-,-,c9,c10,-,-,-,-⟩:=z6 h1;have k9:=qc c9;have k10:=qc c10;clear c9 c10;refine wiq ?_;repeat (go_big_quiet_step (fail))
 refine wpQuiet_nil ?_;intro w2 F2;have h2:=Ob.up h1 F2;have D2:=D1.then F2;clear h1 D1 F2 k9 k10;obtain ⟨c0,c1,c2,c3,c4,c5,c6,c7,c8,c9,c10,c11,c12,c13,c14⟩:=z6 h2;have z:=h2.frozen;by_cases hv:x.count<=x.i+1
 ·have hn:y = { x with i:=x.i+1,line:=0 }:=by rw [<- HY.out];unfold Lok.on;simp [hv]
  subst hn;have g:decide (x.i+1≥x.count)=true:=by simpa using hv
  exact Fw
 ·have hn:y = { x with i:=x.i+1,line:=2 }:=by rw [<- HY.out];unfold Lok.on;simp [hv]
  subst hn;have g:decide (x.i+1≥x.count)=false:=by simpa using hv
  exact Ig
def ItAtK (l:List It) (key:Int) (u:Value) (w wr:World):Prop:=∃ k,k<=l.length/\u = .int .i64 (k:Nat)/\wr=w/\∀ j z,j<k->l[j]? = some z->z.k≠key
theorem Tk (x:Lok) (key:Int) (b:Nat) (w:World) (hl:x.l.length<=1000) (h:vn w b x) (hs:Sq fT w x.lv x.l) :
  Calls Tryz.prog 132 #[.pointer (some ⟨b,0,none⟩),.int .i64 key] w fun e w'=>e = .returned (.int .i64 (J5 x.l key))/\w=w':=by
 obtain ⟨a,cap,hv,hcap,hmax,-⟩:=id hs;obtain ⟨-,-,-,-,-,-,-,-,-,-,-,-,-,-,c14⟩:=z6 h;rw [hv] at c14 hs;clear hv;go_enter Tryz.func132,Tryz.ntmps132;go_wp2_with fail;go_loopw [5] (fun u wr=>ItAtK x.l key u w wr) (fun u _=>x.l.length - (intOf u).toNat);case atStart=>exact ⟨0,Nat.zero_le _,rfl,rfl,by omega⟩
 case round =>
  obtain ⟨k,hk,rfl,rfl,h1⟩:=hrel;by_cases hlt:k<x.l.length
  ·obtain ⟨y,hy⟩:∃ y,x.l[k]? = some y:=⟨x.l[k],List.getElem?_eq_getElem hlt⟩;obtain ⟨g,off,rfl,d0,-,-⟩:=xo hs hy;by_cases hyk:y.k=key
   ·have HR:=qb (q31 hy hyk h1);have g1:(y.k == key)=true:=by simpa using hyk
    clear hyk hy h1;exact Hk
   ·have g1:(y.k == key)=false:=by simpa using hyk
    have HY:=qb (qd hy hyk);clear hyk hy;go_wp2_with fail;go_roundw
    case rel=>exact ⟨k+1,by omega,by go_num,rfl,fun j z hj hz=>by
     by_cases e:j=k
     ·subst e;rw [HY.out.1] at hz;cases hz;exact HY.out.2
     ·exact h1 j z Ly hz⟩
    case measure=>simp [intOf];omega
  ·obtain rfl:k=x.l.length:=by omega
   have HR:=qb (q4k (fun j z hz=>h1 j z (List.getElem?_eq_some_iff.1 hz).1 hz));clear h1;exact Hk
def InsAt (l:List It) (key:Int) (u:Value) (w wr:World):Prop:=∃ k,k<=l.length/\u = .int .i64 (k:Nat)/\Fr [] w wr/\∀ i y,i<k->l[i]? = some y->y.k<key
theorem q5j {l:List It} {x:It} (h:V5 l x.k=none):q0k l x=q1f l x:=by unfold q0k;rw [h]
theorem q5f {l:List It} {x:It} {i:Nat} (h:V5 l x.k=some i):q0k l x=l.set i x:=by unfold q0k;rw [h]
theorem q8a (x:Lok) (it:It) (b:Nat) (w:World) (hN:V5 x.l it.k=none) (hl:x.l.length<=1000) (h:vn w b x) (hs:Sq fT w x.lv x.l) (hb:b∉x.lv.ownBlock.toList) :
  Calls Tryz.prog 114 #[.pointer (some ⟨b,0,none⟩),.agg #[.int .i64 it.k,.int .i64 it.v,.int .i64 it.d]] w fun e w'=>e = .returned (.tuple #[])/\(∃ lv',vn w' b { x with l:=q1f x.l it,lv:=lv' } /\ Sq fT w' lv' (q1f x.l it)/\∀ g,g∈lv'.ownBlock.toList->w.heap.size<=g)/\Fr [b] w w':=by
 obtain ⟨a,cap,hlv,hcap,hmax,-⟩:=id hs;have F0:=(Fr.refl [] w).alloc (.cells #[.int .i64 it.k,.int .i64 it.v,.int .i64 it.d] 144);have ob:=Ob.new w 144 #[.int .i64 it.k,.int .i64 it.v,.int .i64 it.d];have hi:=Tk x it.k b _ hl (h.up F0) (hs.up F0);rw [show J5 x.l it.k = -1 by unfold J5;rw [hN]] at hi;have HI:=qb hi;clear hi;go_enter Tryz.func114,Tryz.ntmps114;go_wp2_with fail;refine HI.out.mono ?_;rintro e _ ⟨rfl,rfl⟩;clear HI;replace h:=h.up F0;replace hs:=hs.up F0;have hbl:=h.lt;generalize (w.alloc (.cells #[.int .i64 it.k,.int .i64 it.v,.int .i64 it.d] 144))=w1 at *;have hc14:=(z6 h).2.2.2.2.2.2.2.2.2.2.2.2.2.2;rw [hlv] at hs hb hc14;go_wp2_with fail;go_loopw [5] (fun u wr=>InsAt x.l it.k u w1 wr) (fun u _=>x.l.length - (intOf u).toNat);case atStart=>exact ⟨0,Nat.zero_le _,rfl,Fr.refl _ _,by omega⟩
 case round =>
  obtain ⟨k,hk,rfl,FL,h1⟩:=hrel;have ob:=ob.up FL;have h:=h.up FL;have hs:=hs.up FL;have F0:=F0.trans FL;have hbl:=h.lt;have hc14:=FL.cell hc14 Ma;by_cases hlt:k<x.l.length
  ·obtain ⟨y,hy⟩:∃ y,x.l[k]? = some y:=⟨x.l[k],List.getElem?_eq_getElem hlt⟩;obtain ⟨g,off,rfl,d0,d1,d2⟩:=xo hs hy;have HYY:=qb hy;clear hy;have k14:=qc hc14;have q0:=qc (ob.cell (i:=0) rfl);have dd0:=qc d0;clear d0 d1 d2;by_cases hyk:y.k<it.k
   ·have g1:decide (y.k<it.k)=true:=by simpa using hyk
    have gk:decide ((k:Int)<x.l.length)=true:=by simp;omega
    clear hc14;go_wp2_with fail;refine wiq ?_;repeat (go_big_quiet_step (fail))
    refine wpQuiet_nil ?_;intro w5 F5;clear k14 q0 dd0;go_wp2_with fail
    exact ⟨⟨k+1,by omega,by go_num,FL.trans F5,fun i z hi hz=>by
     by_cases e:i=k
     ·subst e;rw [HYY.out] at hz;cases hz;exact hyk
     ·exact h1 i z Ly hz⟩,by simp [intOf];omega⟩
   have g1:decide (y.k<it.k)=false:=by simpa using hyk
   have gk:decide ((k:Int)<x.l.length)=true:=by simp;omega
   have hn:=qb (q5i (x:=it) Ly h1 (fun z hz=>by rw [HYY.out] at hz;cases hz;exact hyk));clear hc14;go_wp2_with fail;refine wiq ?_;repeat (go_big_quiet_step (fail))
   refine wpQuiet_nil ?_;intro w5 F5;clear k14 q0 dd0 g1 gk;replace h:=h.up F5;replace hs:=hs.up F5;replace ob:=ob.up F5;replace F0:=F0.trans F5;have hbl:=h.lt;have hc14:=(z6 h).2.2.2.2.2.2.2.2.2.2.2.2.2.2;rw [hlv] at hc14;have c14:=hc14;clear hc14;go_wp2_with fail;have HS:=qb hs;clear c14 hs;refine qq Me ?_;refine za [] w5 #[true,true,true,true,true,true,true,true,true,true,true,true,true,true,true,true,true,true,false,false,false] 18 3 rfl ?_;refine lpq [true,true,true,true,true,true,true,false,true,false,false,true,true,true,true,true,true,false,false,false,false] 4 ((Fr.refl _ w5).drew) ?_;apply qh;refine ⟨fun wf Ff=>?_,?_⟩
   ·exact Iu
   have HS1:=qb (Sq.take zk HS.out k Ly);have HS2:=qb (Sq.drop zk HS.out k Ly);have HT:=qb (show (x.l.take k).length<=1000/\(x.l.drop k).length<=1000/\q1f x.l it=x.l.take k++[it]++x.l.drop k from ⟨by simp;omega,by simp;omega,hn.out⟩);generalize x.l.take k=T1 at HS1 HT;generalize x.l.drop k=T2 at HS2 HT;refine jc [7,9] Me Ma (fun w10 F10 i hi o ho=>?_);have G:=(Fr.refl [] w5).drew.trans F10;clear F10;simp only [List.mem_cons,List.not_mem_nil,or_false] at hi;rcases hi with rfl | rfl
   focus
    obtain rfl:=qj ho
    go_wp2_with (at_builtin;refine qw zk rfl _ _ 125 rfl Tryz.underlying125 itI rfl (B:=w5.heap.size) (.slice none 0 0) [] rfl ⟨rfl,.inl ⟨rfl,rfl⟩⟩ _ T1 rfl (HS1.out.up G) Mh Mg G.size ?_;intro a21 c21 w21 r21 f21)
    rw [List.nil_append] at r21
    replace G:=G.trans f21
    clear f21
    refine qo ⟨G,?_⟩
    refine loq 9 (fun w11 F11=>?_)
    have r11:=qp r21 F11
    replace G:=G.trans F11
    clear r21 F11
    go_wp2_with fail
    have F12:=(Fr.refl [] w11).alloc (.cells #[.int .i64 it.k,.int .i64 it.v,.int .i64 it.d] 144)
    have B12:=Go.heap_alloc_new w11 (.cells #[.int .i64 it.k,.int .i64 it.v,.int .i64 it.d] 144)
    have r12:=qp r11 F12
    replace G:=G.trans F12
    clear r11 F12 ho
    refine qo ⟨G,?_⟩
    refine loq 10 (fun w13 F13=>?_)
    have r22:=qp r12 F13
    have B22:=F13.heap B12 Ma
    replace G:=G.trans F13
    clear r12 B12 F13
   rotate_left
   focus
    obtain rfl:=qj ho
    go_wp2_with fail
    have F12:=(Fr.refl [] w10).alloc (.cells #[.int .i64 it.k,.int .i64 it.v,.int .i64 it.d] 144)
    have B12:=Go.heap_alloc_new w10 (.cells #[.int .i64 it.k,.int .i64 it.v,.int .i64 it.d] 144)
    replace G:=G.trans F12
    clear F12 ho
    refine qo ⟨G,?_⟩
    refine loq 7 (fun w11 F11=>?_)
    have B13:=F11.heap B12 Ma
    replace G:=G.trans F11
    clear B12 F11
    go_wp2_with (at_builtin;refine qw zk rfl _ _ 125 rfl Tryz.underlying125 itI rfl (B:=w5.heap.size) (.slice none 0 0) [] rfl ⟨rfl,.inl ⟨rfl,rfl⟩⟩ _ T1 rfl (HS1.out.up G) Mh Mg G.size ?_;intro a21 c21 w21 r21 f21)
    rw [List.nil_append] at r21
    have B21:=Fr.heap f21 B13 Mo
    replace G:=G.trans f21
    clear f21 B13
    refine qo ⟨G,?_⟩
    refine loq 10 (fun w13 F13=>?_)
    have r22:=qp r21 F13
    have B22:=F13.heap B21 Ma
    replace G:=G.trans F13
    clear r21 B21 F13
   rotate_left
   all_goals
    go_wp2_with (at_builtin;refine qw zk rfl _ _ 125 rfl Tryz.underlying125 itI rfl (B:=w5.heap.size) _ T1 rfl r22 _ [it] rfl (Sq.block B22 rfl rfl (Nat.le_refl _) Mm) Mh Mg G.size ?_;intro a23 c23 w23 r23 f23;generalize hT3:T1++[it]=T3 at r23 ⊢)
    replace G:=G.own f23 (zh r22)
    clear f23 r22 B22
    refine qo ⟨G,?_⟩
    refine loq 17 (fun w14 F14=>?_)
    have r24:=qp r23 F14
    replace G:=G.trans F14
    clear r23 F14
    go_wp2_with (at_builtin;refine qw zk rfl _ _ 125 rfl Tryz.underlying125 itI rfl (B:=w5.heap.size) _ T3 rfl r24 _ T2 rfl (HS2.out.up G) Na Mg G.size ?_;intro a25 c25 w25 r25 f25;generalize hT4:T3++T2=T4 at r25 ⊢)
    replace G:=G.own f25 (zh r24)
    clear f25 r24
    refine qo ⟨G,?_⟩
    refine qy (k:=18) rfl Me (fun w15 F15=>?_)
    have r26:=qp r25 F15
    replace G:=G.trans F15
    clear r25 F15
    have h26:=h.up G
    have z26:=h26.frozen
    obtain ⟨-,-,-,-,-,-,-,-,-,-,-,-,-,-,c14⟩:=z6 h26
    go_wp2_with fail
    go_end0
    have hlt26:b<w5.heap.size:=h.lt
    have e26:q1f x.l it=T4:=by rw [HT.out.2.2,hT3,hT4]
    rw [<- e26] at r26 ⊢
    refine ⟨rfl,⟨_,Ob.set h26 (i:=14) _,(Sq.own r26).kept (Fr.setCell (S:=[b]) _ Ma) (fun g hg hi=>?_),fun g hg=>qi F0.size (zh r26 g hg)⟩,(F0.mono).trans ((G.mono).trans (Fr.setCell _ Ma))⟩
    have:=zh r26 g hg
    simp at hi
    omega
  ·obtain rfl:k=x.l.length:=by omega
   have gk:decide (((x.l.length:Nat):Int)<x.l.length)=false:=by simp
   have hn:=qb (q5i (x:=it) (Nat.le_refl _) h1 (fun z hz=>by simp at hz));have k14:=qc hc14;clear hc14;go_wp2_with fail;refine wiq ?_;repeat (go_big_quiet_step (fail))
   refine wpQuiet_nil ?_;intro w5 F5;clear k14 gk;replace h:=h.up F5;replace hs:=hs.up F5;replace ob:=ob.up F5;replace F0:=F0.trans F5;have hbl:=h.lt;have hc14:=(z6 h).2.2.2.2.2.2.2.2.2.2.2.2.2.2;rw [hlv] at hc14;have c14:=hc14;clear hc14;go_wp2_with fail;have HS:=qb hs;clear c14 hs;refine qq Me ?_;refine za [] w5 #[true,true,true,true,true,true,true,true,true,true,true,true,true,true,true,true,true,true,false,false,false] 18 3 rfl ?_;refine lpq [true,true,true,true,true,true,true,false,true,false,false,true,true,true,true,true,true,false,false,false,false] 4 ((Fr.refl _ w5).drew) ?_;apply qh;refine ⟨fun wf Ff=>?_,?_⟩
   ·exact Iu
   have HS1:=HS;rw [List.take_length,List.drop_length] at hn;have HT:=qb (show x.l.length<=1000/\([]:List It).length<=1000/\q1f x.l it=x.l++[it]++[] from ⟨hl,by simp,hn.out⟩);have hcm:cap - x.l.length<=maxLen:=by omega
   generalize (if cap=x.l.length then a else Option.map (fun y=>y.add (x.l.length * 3)) a)=a2;generalize cap - x.l.length=c2 at hcm ⊢;have HS2:=qb (Sq.empty (f:=fT) w5 a2 hcm);refine jc [7,9] Me Ma (fun w10 F10 i hi o ho=>?_);have G:=(Fr.refl [] w5).drew.trans F10;clear F10;simp only [List.mem_cons,List.not_mem_nil,or_false] at hi;rcases hi with rfl | rfl
   focus
    obtain rfl:=qj ho
    go_wp2_with (at_builtin;refine qw zk rfl _ _ 125 rfl Tryz.underlying125 itI rfl (B:=w5.heap.size) (.slice none 0 0) [] rfl ⟨rfl,.inl ⟨rfl,rfl⟩⟩ _ x.l rfl (HS1.out.up G) Mh Mg G.size ?_;intro a21 c21 w21 r21 f21)
    rw [List.nil_append] at r21
    replace G:=G.trans f21
    clear f21
    refine qo ⟨G,?_⟩
    refine loq 9 (fun w11 F11=>?_)
    have r11:=qp r21 F11
    replace G:=G.trans F11
    clear r21 F11
    go_wp2_with fail
    have F12:=(Fr.refl [] w11).alloc (.cells #[.int .i64 it.k,.int .i64 it.v,.int .i64 it.d] 144)
    have B12:=Go.heap_alloc_new w11 (.cells #[.int .i64 it.k,.int .i64 it.v,.int .i64 it.d] 144)
    have r12:=qp r11 F12
    replace G:=G.trans F12
    clear r11 F12 ho
    refine qo ⟨G,?_⟩
    refine loq 10 (fun w13 F13=>?_)
    have r22:=qp r12 F13
    have B22:=F13.heap B12 Ma
    replace G:=G.trans F13
    clear r12 B12 F13
   rotate_left
   focus
    obtain rfl:=qj ho
    go_wp2_with fail
    have F12:=(Fr.refl [] w10).alloc (.cells #[.int .i64 it.k,.int .i64 it.v,.int .i64 it.d] 144)
    have B12:=Go.heap_alloc_new w10 (.cells #[.int .i64 it.k,.int .i64 it.v,.int .i64 it.d] 144)
    replace G:=G.trans F12
    clear F12 ho
    refine qo ⟨G,?_⟩
    refine loq 7 (fun w11 F11=>?_)
    have B13:=F11.heap B12 Ma
    replace G:=G.trans F11
    clear B12 F11
    go_wp2_with (at_builtin;refine qw zk rfl _ _ 125 rfl Tryz.underlying125 itI rfl (B:=w5.heap.size) (.slice none 0 0) [] rfl ⟨rfl,.inl ⟨rfl,rfl⟩⟩ _ x.l rfl (HS1.out.up G) Mh Mg G.size ?_;intro a21 c21 w21 r21 f21)
    rw [List.nil_append] at r21
    have B21:=Fr.heap f21 B13 Mo
    replace G:=G.trans f21
    clear f21 B13
    refine qo ⟨G,?_⟩
    refine loq 10 (fun w13 F13=>?_)
    have r22:=qp r21 F13
    have B22:=F13.heap B21 Ma
    replace G:=G.trans F13
    clear r21 B21 F13
   rotate_left
   all_goals
    go_wp2_with (at_builtin;refine qw zk rfl _ _ 125 rfl Tryz.underlying125 itI rfl (B:=w5.heap.size) _ x.l rfl r22 _ [it] rfl (Sq.block B22 rfl rfl (Nat.le_refl _) Mm) Mh Mg G.size ?_;intro a23 c23 w23 r23 f23;generalize hT3:x.l++[it]=T3 at r23 ⊢)
    replace G:=G.own f23 (zh r22)
    clear f23 r22 B22
    refine qo ⟨G,?_⟩
    refine loq 17 (fun w14 F14=>?_)
    have r24:=qp r23 F14
    replace G:=G.trans F14
    clear r23 F14
    go_wp2_with (at_builtin;refine qw zk rfl _ _ 125 rfl Tryz.underlying125 itI rfl (B:=w5.heap.size) _ T3 rfl r24 _ [] rfl (HS2.out.up G) Na Mg G.size ?_;intro a25 c25 w25 r25 f25;generalize hT4:T3++([]:List It)=T4 at r25 ⊢)
    replace G:=G.own f25 (zh r24)
    clear f25 r24
    refine qo ⟨G,?_⟩
    refine qy (k:=18) rfl Me (fun w15 F15=>?_)
    have r26:=qp r25 F15
    replace G:=G.trans F15
    clear r25 F15
    have h26:=h.up G
    have z26:=h26.frozen
    obtain ⟨-,-,-,-,-,-,-,-,-,-,-,-,-,-,c14⟩:=z6 h26
    go_wp2_with fail
    go_end0
    have hlt26:b<w5.heap.size:=h.lt
    have e26:q1f x.l it=T4:=by rw [HT.out.2.2,hT3,hT4]
    rw [<- e26] at r26 ⊢
    refine ⟨rfl,⟨_,Ob.set h26 (i:=14) _,(Sq.own r26).kept (Fr.setCell (S:=[b]) _ Ma) (fun g hg hi=>?_),fun g hg=>qi F0.size (zh r26 g hg)⟩,(F0.mono).trans ((G.mono).trans (Fr.setCell _ Ma))⟩
    have:=zh r26 g hg
    simp at hi
    omega
theorem q81 (cs:List It) {j:Nat} {u:Value} (h:(cs.flatMap fT)[j]? = some u):∃ c,cs[j / 3]? = some c/\(fT c)[j % 3]? = some u:=by
 have hj:=(List.getElem?_eq_some_iff.1 h).1;rw [zk.flat] at hj;have hi:j / 3<cs.length:=by omega
 refine ⟨cs[j / 3],List.getElem?_eq_getElem hi,?_⟩;have e:=zk.at (xs:=cs) (i:=j / 3) (j:=j % 3) (List.getElem?_eq_getElem hi) Ly;rw [show j / 3 * 3+j % 3=j by omega] at e;rw [<- e];exact h
theorem qbc {w:World} {g n cap m:Nat} {cs:List It} {x:It} {cur:Array Value} {T:TypeId} (h:Sq fT w (.slice (some ⟨g,0,none⟩) n cap) cs) (hh:w.heap[g]? = some (.cells cur T (0,0))) (hx:cs[m]? = some x) (y:It) :
  Sq fT (((w.setCell ⟨g,m * 3,none⟩ (.int .i64 y.k)).setCell ⟨g,m * 3+1,none⟩ (.int .i64 y.v)).setCell ⟨g,m * 3+2,none⟩ (.int .i64 y.d)) (.slice (some ⟨g,0,none⟩) n cap) (cs.set m y):=by
 obtain ⟨-,g',off',e',d2⟩:=Sq.cell zk h hx;obtain ⟨a',cap',e,h1,h2,h3⟩:=h;simp only [Value.slice.injEq] at e;obtain ⟨rfl,rfl,rfl⟩:=e;have hm:=(List.getElem?_eq_some_iff.1 hx).1;simp only [Option.some.injEq,Addr.mk.injEq] at e';obtain ⟨rfl,rfl,-⟩:=e';have hc2:=d2 2 (.int .i64 x.d) rfl;rw [cell_of_row _ _ _ _ _ _ hh,Nat.zero_add] at hc2;have hlt:m * 3+2<cur.size:=(Array.getElem?_eq_some_iff.1 hc2).1;have hh':=heap_setCell_same _ g (m * 3+2) _ T (.int .i64 y.d) (heap_setCell_same _ g (m * 3+1) _ T (.int .i64 y.v) (heap_setCell_same w g (m * 3) cur T (.int .i64 y.k) hh));refine ⟨_,cap,by simp,by simpa using h1,h2,.inr ⟨g,0,rfl,(Array.getElem?_eq_some_iff.1 hh').1,fun j u hu=>?_⟩⟩;rw [cell_of_row _ _ _ _ _ _ hh',Nat.zero_add];obtain ⟨c,hc,hu⟩:=q81 _ hu;rcases h3 with h0 | ⟨g2,o2,e2,-,hall⟩
 ·omega
 simp only [Option.some.injEq,Addr.mk.injEq] at e2;obtain ⟨rfl,rfl,-⟩:=e2;have ej:j=j / 3 * 3+j % 3:=by omega
 have h3:j % 3<3:=Nat.mod_lt _ Mg;by_cases hjm:j / 3=m
 ·rw [hjm,List.getElem?_set_self hm] at hc;obtain rfl:=qj hc;have h4:j % 3=0\/j % 3=1\/j % 3=2:=by omega
  rw [hjm] at ej;rcases h4 with h4 | h4 | h4
  ·rw [h4] at hu ej;rw [Nat.add_zero] at ej;rw [Array.getElem?_setIfInBounds_ne Ly,Array.getElem?_setIfInBounds_ne Ly,ej,Array.getElem?_setIfInBounds_self_of_lt Ly];exact hu
  ·rw [h4] at hu ej;rw [Array.getElem?_setIfInBounds_ne Ly,ej,Array.getElem?_setIfInBounds_self_of_lt Ml];exact hu
  ·rw [h4] at hu ej;rw [ej,Array.getElem?_setIfInBounds_self_of_lt Ml];exact hu
 ·rw [List.getElem?_set_ne (fun e=>hjm e.symm)] at hc;rw [Array.getElem?_setIfInBounds_ne Ly,Array.getElem?_setIfInBounds_ne Ly,Array.getElem?_setIfInBounds_ne Ly];have:=hall j u (by rw [ej];exact (zk.at hc h3).trans hu);rwa [cell_of_row _ _ _ _ _ _ hh,Nat.zero_add] at this
theorem Te {l:List It} {key:Int} {i:Nat} (h:V5 l key=some i):i<l.length:=by unfold V5 at h;rw [List.findIdx?_eq_some_iff_getElem] at h;exact h.1
theorem qa4 (x:Lok) (it:It) (i b:Nat) (w:World) (hN:V5 x.l it.k=some i) (hl:x.l.length<=1000) (h:vn w b x) (hs:Sq fT w x.lv x.l) (hb:b∉x.lv.ownBlock.toList) :
  Calls Tryz.prog 114 #[.pointer (some ⟨b,0,none⟩),.agg #[.int .i64 it.k,.int .i64 it.v,.int .i64 it.d]] w fun e w'=>e = .returned (.tuple #[])/\(∃ lv',vn w' b { x with l:=x.l.set i it,lv:=lv' } /\ Sq fT w' lv' (x.l.set i it)/\∀ g,g∈lv'.ownBlock.toList->w.heap.size<=g)/\Fr [b] w w':=by
 obtain ⟨a,cap,hlv,hcap,hmax,-⟩:=id hs;have hil:=Te hN;have F0:=(Fr.refl [] w).alloc (.cells #[.int .i64 it.k,.int .i64 it.v,.int .i64 it.d] 144);have ob:=Ob.new w 144 #[.int .i64 it.k,.int .i64 it.v,.int .i64 it.d];have hi:=Tk x it.k b _ hl (h.up F0) (hs.up F0);rw [show J5 x.l it.k=(i:Int) by unfold J5;rw [hN]] at hi;have HI:=qb hi;clear hi;have hbw:=h.lt;go_enter Tryz.func114,Tryz.ntmps114;go_wp2_with fail;refine HI.out.mono ?_;rintro e _ ⟨rfl,rfl⟩;clear HI;replace h:=h.up F0;replace hs:=hs.up F0;have hwl:w.heap.size<(w.alloc (.cells #[.int .i64 it.k,.int .i64 it.v,.int .i64 it.d] 144)).heap.size:=by simp
 generalize (w.alloc (.cells #[.int .i64 it.k,.int .i64 it.v,.int .i64 it.d] 144))=w1 at *;have hc14:=(z6 h).2.2.2.2.2.2.2.2.2.2.2.2.2.2;rw [hlv] at hs hb hc14;have gi:decide ((i:Int)≥0)=true:=by simp
 go_wp2_with (at_builtin;refine qw zk rfl _ _ 125 rfl Tryz.underlying125 itI rfl (B:=w1.heap.size) (.slice none 0 0) [] rfl ⟨rfl,.inl ⟨rfl,rfl⟩⟩ _ x.l rfl hs (by simp only [List.length_nil];omega) Mg (Nat.le_refl _) ?_;intro a7 c7 w7 r7 F7;rw [List.nil_append] at r7;have h7:=Ob.kept h F7 Mo;have ob7:=Ob.kept ob F7 Mo;have z:=h7.frozen;have c14:=(z6 h7).2.2.2.2.2.2.2.2.2.2.2.2.2.2);have hn7:=jl r7 h7 Mg;have F8:Fr [b] w7 (w7.setCell ⟨b,14,none⟩ (.slice a7 x.l.length c7)):=Fr.setCell (b:=b) (i:=14) _ Ma;have h8:vn (w7.setCell ⟨b,14,none⟩ (.slice a7 x.l.length c7)) b { x with lv:=(.slice a7 x.l.length c7) }:=Ob.set h7 (i:=14) (.slice a7 x.l.length c7);have r8:=Q7 r7 F8 (fun g hg hi=>by rw [List.mem_singleton.1 hi] at hg;exact hn7 (by simp [hg]));have hbne:w.heap.size≠b:=by omega
 have ob8:=ob7.kept F8 (by simpa using hbne);have G8:Fr [b] w (w7.setCell ⟨b,14,none⟩ (.slice a7 x.l.length c7)):=((F0.mono).trans (F7.mono Mo)).trans F8;generalize (w7.setCell ⟨b,14,none⟩ (.slice a7 x.l.length c7))=w8 at *;have sr8:=Sq.own r8;have hrb:=zh r8;rcases r8.2 with ⟨e1,-⟩ | ⟨g,cap2,cur,e1,hg1,hh,hc1,hc2,hsz,-⟩
 ·simp only [Value.slice.injEq] at e1;omega
 simp only [Value.slice.injEq] at e1;obtain ⟨rfl,-,rfl⟩:=e1;have hgb:g≠b:=by intro e;exact hn7 (by simp [Value.ownBlock,e])
 have hx:x.l[i]? = some x.l[i]:=List.getElem?_eq_getElem hil;have HX:=qb hx;clear h7 ob7 z c14 hc14 F7 r7 hn7 F8 r8 hx hs ob h gi;refine qq Me ?_;refine za [] w8 #[true,true,true,true,true,true,false,false] 6 2 rfl ?_;refine lpq [true,true,true,true,true,true,false,false] 0 ((Fr.refl _ w8).drew) ?_;apply qh;refine ⟨fun wf Ff=>?_,?_⟩
 ·have c14:=(z6 (h8.up Ff)).2.2.2.2.2.2.2.2.2.2.2.2.2.2;have k14:=qc c14;have q0:=qc ((ob8.up Ff).cell (i:=0) rfl);have q1:=qc ((ob8.up Ff).cell (i:=1) rfl);have q2:=qc ((ob8.up Ff).cell (i:=2) rfl);clear c14;exact Ac
 refine qy (k:=6) rfl Me (fun w9 F9=>?_);have E9:=(Fr.refl [] w8).drew.trans F9;have h9:=h8.up E9;have hh9:=E9.heap hh Ma;have sr9:=sr8.up E9;have G9:=G8.then E9;clear F9 E9 h8 hh sr8 G8 ob8;have zg:∀ j,w9.frozen? ⟨g,j,none⟩=false:=fun j=>frozen_of_row _ _ _ _ _ hh9
 obtain ⟨g',off',e',d0,d1,d2⟩:=xo sr9 HX.out;simp only [Option.some.injEq,Addr.mk.injEq] at e';obtain ⟨rfl,rfl,-⟩:=e';rw [Nat.zero_add] at d0 d1 d2;have hS:=qbc sr9 hh9 HX.out it;have FS:Fr [g] w9 (((w9.setCell ⟨g,i * 3,none⟩ (.int .i64 it.k)).setCell ⟨g,i * 3+1,none⟩ (.int .i64 it.v)).setCell ⟨g,i * 3+2,none⟩ (.int .i64 it.d)):=Fr.setCell' (Fr.setCell' (Fr.setCell (b:=g) (i:=i * 3) _ Ma) (b:=g) (i:=i * 3+1) _ Ma) (b:=g) (i:=i * 3+2) _ Ma;have hSG:=qb (qd hS FS);clear hS FS;go_wp2_with fail;refine bodyPost_ret (v:=.tuple #[]) (by simp [results,Tryz.results114,go_sem]) rfl ?_;refine ⟨rfl,⟨_,h9.kept hSG.out.2 (by simpa using hgb.symm),hSG.out.1,fun k hk=>qi F0.size (hrb k hk)⟩,?_⟩;exact ⟨hSG.out.2.os.trans G9.os,hSG.out.2.tape.trans G9.tape,hSG.out.2.output.trans G9.output,qi G9.size hSG.out.2.size,fun k hk hn=>(hSG.out.2.block k (ql hk G9.size) Ml).trans (G9.block k hk hn)⟩
end Go.Proofs.YtbddhncgemeohaaGreatDoor.Mx
namespace Go.Proofs.YtbddhncgemeohaaGreatDoor.Vw
open Go.RowKit Ar Mx
theorem qdy {n:Nat} {c a:Int} (h:Zh n c a=true):0<=a/\a<=n - (7+3 * c):=by unfold Zh at h;simpa using h
end Go.Proofs.YtbddhncgemeohaaGreatDoor.Vw
