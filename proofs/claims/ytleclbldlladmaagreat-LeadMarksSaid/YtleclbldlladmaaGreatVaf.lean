/- Parts. -/
import Derived.Test.YtleclbldlladmaaGreatVad
import Derived.Test.YtleclbldlladmaaGreatVae
set_option linter.unusedVariables false
set_option linter.unusedSimpArgs false
set_option maxRecDepth 100000
set_option maxHeartbeats 12800000
namespace Go.Proofs.YtleclbldlladmaaGreat.Mx
open Go.RowKit Ar Vw
def fQ (x:Int×Int):List Value:=[.int .i64 x.1,.int .i64 x.2]
theorem Td:Lays fQ 2:=⟨fun _=>rfl,fun x u hu=>by simp [fQ] at hu;rcases hu with rfl | rfl <;> rfl,by decide⟩
theorem woI:(Tryz.prog.info? 182).map (fun i=>(i.zero,i.size,i.bytes))=some (some (.agg #[.int .i64 0,.int .i64 0]),2,16):=by kernel_rfl
theorem q1i (n:Nk) {cap:Nat} (h:n.its.length<=cap):(Qy n).length<=3+3 * cap:=by unfold Qy;simp only [List.length_cons,V3];omega
theorem Yn {cap:Nat}:∀ ns:List Nk,(∀ n,n∈ns->n.its.length<=cap)->(yg ns).length<=(3+3 * cap) * ns.length
 | [],_=>by simp [yg]
 | n :: r,h=>by
  have h1:=Yn r (fun m hm=>h m (by simp [hm]));have h2:=q1i n (h n Lc);unfold yg at h1 ⊢;rw [List.flatMap_cons,List.length_append,List.length_cons,Nat.mul_add];omega
theorem q9m {w:World} {a:Option Addr} {n cap i:Nat} {xs:List Chs} {x:Chs} (h:Sq fH w (.slice a n cap) xs) (hi:xs[i]? = some x) :
  ∃ g off,a=some ⟨g,off,none⟩/\w.cell? ⟨g,off+i * 9,none⟩=some (.int .i64 x.h.at_)/\w.cell? ⟨g,off+i * 9+1,none⟩=some (.int .i64 x.h.mn)/\w.cell? ⟨g,off+i * 9+2,none⟩=some (.int .i64 x.h.ct)/\w.cell? ⟨g,off+i * 9+3,none⟩=some (.int .i64 x.h.nx)/\w.cell? ⟨g,off+i * 9+4,none⟩=some (.int .i64 x.h.ld)/\w.cell? ⟨g,off+i * 9+5,none⟩=some (.int .i64 x.h.mt)/\w.cell? ⟨g,off+i * 9+6,none⟩=some (.int .i64 x.h.rp)/\w.cell? ⟨g,off+i * 9+7,none⟩=some (.int .i64 x.h.st)/\w.cell? ⟨g,off+i * 9+8,none⟩=some x.s.v:=by
 obtain ⟨-,g,off,rfl,hc⟩:=Sq.cell Qg h hi;exact ⟨g,off,rfl,hc 0 _ rfl,hc 1 _ rfl,hc 2 _ rfl,hc 3 _ rfl,hc 4 _ rfl,hc 5 _ rfl,hc 6 _ rfl,hc 7 _ rfl,hc 8 _ rfl⟩
theorem q5a {α:Type} {l:List α} {k:Nat} {y:α} (h:l[k]? = some y):l.take (k+1)=l.take k++[y]:=by rw [List.take_add_one,h];rfl
def RwO (w:World) (ns:List Nk) (u x:Value) (wr:World):Prop:=∃ i,i<=ns.length/\x = .int .i64 (i:Nat)/\wr.ownsRow w.heap.size 182 2 u (yg (ns.take i)).length ((yg (ns.take i)).flatMap fQ)/\Fr [] w wr
def RwI (w:World) (cap:Nat) (q:Nat) (cs:Array Value) (pre:List (Int×Int)) (at_:Int) (its:List It) (u x:Value) (wr:World):Prop:=∃ k,k<=cap/\x = .int .i64 (k:Nat)/\wr.ownsRow w.heap.size 182 2 u (pre++yc at_ 0 (its.take k)).length ((pre++yc at_ 0 (its.take k)).flatMap fQ)/\Ob wr q 193 cs/\Fr [] w wr
theorem q7c (cap:Nat) (ns:List Nk) (xs:List Chs) (v:Value) (w:World) (hcap:cap<=16) (hl:ns.length<=1000) (hits:∀ n,n∈ns->n.its.length<=cap) (h:Sq fH w v xs) (hx:q40 w xs ns cap) :
  Calls Tryz.prog 135 #[v] w fun e w'=>(∃ u,e = .returned u/\w'.ownsRow w.heap.size 182 2 u (yg ns).length ((yg ns).flatMap fQ))/\Fr [] w w':=by
 obtain ⟨a,cp,rfl,hcp,hmax,-⟩:=id h;rw [hx.1] at h hcp ⊢;have HS:=q9 (qc h (qc hx hits));clear h hx hits;go_enter Tryz.func135,Tryz.ntmps135;go_wp2_with fail;go_loopw [3,4] (RwO w ns) (fun _ x _=>ns.length - (intOf x).toNat);case atStart=>exact ⟨0,by omega,rfl,⟨rfl,.inl ⟨rfl,rfl⟩⟩,Fr.refl _ _⟩
 case round =>
  obtain ⟨i,hi,rfl,hr,F⟩:=hrel;by_cases hlt:i<ns.length
  ·have HI2:=q9 (show i+1<=ns.length/\ns.length - (i+1)<ns.length - i by omega);have hltz:(i:Int)<(ns.length:Int):=by omega
   have hi0:(0:Int)<=(i:Int):=by omega
   obtain ⟨n,hn⟩:∃ n,ns[i]? = some n:=⟨ns[i],List.getElem?_eq_getElem _⟩;obtain ⟨x,hxi⟩:∃ x,xs[i]? = some x:=⟨xs[i]'(by rw [HS.out.2.1.1];exact hlt),List.getElem?_eq_getElem _⟩;obtain ⟨e1,hsq⟩:=HS.out.2.1.2 i x n hxi hn;have HIT:=q9 (HS.out.2.2 n (List.mem_of_getElem? hn));have HSQ0:=hsq;obtain ⟨g,off,rfl,c0,c1,c2,c3,c4,c5,c6,c7,c8⟩:=q9m (HS.out.1.up F) hxi;obtain ⟨⟨at_,mn,ct,nx,ld,mt,rp,st⟩,⟨sa,sn,sc⟩⟩:=x;obtain ⟨nat,nmn,nct,nnx,its⟩:=n;unfold qdq at e1;simp only [Hd.mk.injEq] at e1;simp only at hsq c0 c1 c2 c3 c4 c5 c6 c7 c8 HIT;obtain ⟨rfl,rfl,rfl,rfl,rfl,rfl,rfl,rfl⟩:=e1;unfold Sv.v at c8 hsq;simp only at c8 hsq;obtain ⟨sa',sc',e2,hsc,hsm,-⟩:=id hsq;rw [Qw] at e2 hsc;simp only [Value.slice.injEq] at e2;obtain ⟨rfl,rfl,rfl⟩:=e2;have HWT:=q9 (q18 hn);have HSQ:=q9 HSQ0;clear HSQ0;have F1:=(Fr.refl [] wr).alloc (.cells #[.int .i64 at_,.int .i64 mn,.int .i64 ct,.int .i64 nx,.int .i64 0,.int .i64 0,.int .i64 0,.int .i64 0,.slice sa sn sc] 193);have o1:=Ob.new wr 193 #[.int .i64 at_,.int .i64 mn,.int .i64 ct,.int .i64 nx,.int .i64 0,.int .i64 0,.int .i64 0,.int .i64 0,.slice sa sn sc];have r1:=qo hr F1;have hs1:=(hsq.up F).up F1;have FW:=F.trans F1
   have HLN:=q9 (show (yg (ns.take i)).length<=60000 by
    have h1:=Yn (ns.take i) (fun m hm=>HS.out.2.2 m (List.mem_of_mem_take hm))
    have h2:(ns.take i).length<=1000:=by rw [List.length_take];omega
    have h3:(3+3 * sn) * (ns.take i).length<=51 * 1000:=Nat.mul_le_mul Lb h2
    omega)
   generalize yg (ns.take i)=pre at *;clear F hn hxi hsq;have hz9:(wr.alloc (.cells #[.int .i64 at_,.int .i64 mn,.int .i64 ct,.int .i64 nx,.int .i64 0,.int .i64 0,.int .i64 0,.int .i64 0,.slice sa sn sc] 193)).heap.size=wr.heap.size+1:=Yr _ _;have F2:=(Fr.refl [] (wr.alloc (.cells #[.int .i64 at_,.int .i64 mn,.int .i64 ct,.int .i64 nx,.int .i64 0,.int .i64 0,.int .i64 0,.int .i64 0,.slice sa sn sc] 193))).alloc (.cells #[.int .i64 (wrap64 at_),.int .i64 mn,.int .i64 (wrap64 (at_+1)),.int .i64 ct,.int .i64 (wrap64 (at_+2)),.int .i64 nx] 182);have B2:=Go.heap_alloc_new (wr.alloc (.cells #[.int .i64 at_,.int .i64 mn,.int .i64 ct,.int .i64 nx,.int .i64 0,.int .i64 0,.int .i64 0,.int .i64 0,.slice sa sn sc] 193)) (.cells #[.int .i64 (wrap64 at_),.int .i64 mn,.int .i64 (wrap64 (at_+1)),.int .i64 ct,.int .i64 (wrap64 (at_+2)),.int .i64 nx] 182);rw [hz9] at B2;have HR2:=q9 (qc (qo r1 F2) (qc (o1.up F2) (qc (hs1.up F2) (FW.trans F2))));have HB2:=q9 B2;obtain ⟨ap,cp2,rfl,hcp2,hmp2,-⟩:=id (Sq.own (f:=fQ) hr);clear r1 o1 hs1 FW F1 F2 B2 hz9 hr;go_wp2_with (at_builtin;go_loud (refine qq Td rfl _ _ 165 rfl Tryz.underlying165 woI rfl (B:=w.heap.size) _ pre rfl HR2.out.1 _ [(wrap64 at_,mn),(wrap64 (at_+1),ct),(wrap64 (at_+2),nx)] rfl (Sq.block HB2.out rfl rfl (Nat.le_refl _) Lm) (by have:=HLN.out;simp <;> omega) Lg HR2.out.2.2.2.size ?_);intro a7 k7 w7 r7 F7;generalize hT:pre++[(wrap64 at_,mn),(wrap64 (at_+1),ct),(wrap64 (at_+2),nx)]=T at r7 ⊢);have G7:Fr [] w w7:=HR2.out.2.2.2.own F7 (z8 HR2.out.1);have o7:=Ob.kept HR2.out.2.1 F7 (je HR2.out.1 HR2.out.2.1 Lg);have HLT:=q9 (show T.length<=60003 by rw [<- hT];simp;exact HLN.out);have HT:=q9 hT;generalize wr.heap.size=q at *;have H7:=q9 (qc o7 (qc G7 (HSQ.out.up G7)));clear HR2 HB2 F7 G7 o7 hT c0 c1 c2 c3 c4 c5 c6 c7 c8;generalize wr=wo at *;go_loopw [3,6] (RwI w sn q #[.int .i64 at_,.int .i64 mn,.int .i64 ct,.int .i64 nx,.int .i64 0,.int .i64 0,.int .i64 0,.int .i64 0,.slice sa sn sc] T at_ its) (fun _ x _=>sn - (intOf x).toNat);case atStart=>exact ⟨0,by omega,rfl,by rw [List.take_zero];unfold yc;rw [List.append_nil];exact r7,H7.out.1,H7.out.2.1⟩
   case round =>
    clear r7;obtain ⟨k,hk,rfl,hr,ok,Fk⟩:=hrel;have b8:wr.cell? ⟨q,8,none⟩=some (.slice sa sn sc):=ok.cell rfl;have b0:wr.cell? ⟨q,0,none⟩=some (.int .i64 at_):=ok.cell rfl;have hqn:q<wr.heap.size:=Ob.lt ok;have hqe:¬ q=wr.heap.size:=by omega
    by_cases hkl:k<sn
    ·have HK2:=q9 (show k+1<=sn/\sn - (k+1)<sn - k by omega);have hklz:(k:Int)<(sn:Int):=by omega
     have hk0:(0:Int)<=(k:Int):=by omega
     have hx9:=q65 (cap:=sn) (g:=its) hkl;have hs9:=HSQ.out.up Fk;by_cases hil:k<its.length
     ·obtain ⟨y,hy⟩:∃ y,its[k]? = some y:=⟨its[k],List.getElem?_eq_getElem _⟩;rw [hy] at hx9;obtain ⟨g2,off2,rfl,d0,d1,d2⟩:=q2k hs9 hx9;unfold ceO at d0 d1 d2;simp only at d0 d1 d2
      have hne:∀ W,(binOp .neq 195 (.agg #[.int .i64 (vu y.v),.int .i64 y.k,.int .i64 y.d]) (.agg #[.int .i64 0,.int .i64 0,.int .i64 0])).run Tryz.prog W = .ok (.bool true) W:=fun W=>by have h:=qa8 ⟨vu y.v,y.k,y.d⟩ ⟨0,0,0⟩ W;rw [show (decide ((⟨vu y.v,y.k,y.d⟩:Ce)≠⟨0,0,0⟩))=true from decide_eq_true (by intro h;have h1:=congrArg Ce.s h;simp only at h1;have:=Y6 y.v;omega)] at h;exact h
      have HY:=q9 (show yc at_ 0 (its.take (k+1))=yc at_ 0 (its.take k)++[(Qo at_ (k:Int),vu y.v),(wrap64 (Qo at_ (k:Int)+1),y.k),(wrap64 (Qo at_ (k:Int)+2),y.d)] by
       rw [q5a hy,J3,Nat.zero_add,show (its.take k).length=k by rw [List.length_take];omega])
      have HLI:=q9 (show (T++yc at_ 0 (its.take k)).length<=60100 by
       have h1:=V3 at_ (its.take k) 0
       have h2:(its.take k).length<=16:=by rw [List.length_take];omega
       have:=HLT.out
       rw [List.length_append];omega)
      generalize hT2:T++yc at_ 0 (its.take k)=T2 at *;have HT2:=q9 hT2;generalize vu y.v=sw at *;have F1:=(Fr.refl [] wr).alloc (.cells #[.int .i64 sw,.int .i64 y.k,.int .i64 y.d] 195);have F2:=(Fr.refl [] (wr.alloc (.cells #[.int .i64 sw,.int .i64 y.k,.int .i64 y.d] 195))).alloc (.cells #[.int .i64 (Qo at_ (k:Int)),.int .i64 sw,.int .i64 (wrap64 (Qo at_ (k:Int)+1)),.int .i64 y.k,.int .i64 (wrap64 (Qo at_ (k:Int)+2)),.int .i64 y.d] 182);have B2:=Go.heap_alloc_new (wr.alloc (.cells #[.int .i64 sw,.int .i64 y.k,.int .i64 y.d] 195)) (.cells #[.int .i64 (Qo at_ (k:Int)),.int .i64 sw,.int .i64 (wrap64 (Qo at_ (k:Int)+1)),.int .i64 y.k,.int .i64 (wrap64 (Qo at_ (k:Int)+2)),.int .i64 y.d] 182);rw [Yr] at B2;have HR9:=q9 (qc (qo (qo hr F1) F2) (qc (Fk.trans (F1.trans F2)) (qc B2 (ok.up (F1.trans F2)))));obtain ⟨ap2,cp3,rfl,hcp3,hmp3,-⟩:=id (Sq.own (f:=fQ) hr);clear hr F1 F2 B2 hs9 hx9 hT2 Fk hy ok;go_wp2_with (first | (go_at_call 111;refine (vk _ _ _).mono ?_;rintro e _ ⟨rfl,rfl⟩) | (at_builtin;go_loud (refine qq Td rfl _ _ 165 rfl Tryz.underlying165 woI rfl (B:=w.heap.size) _ T2 rfl HR9.out.1 _ [(Qo at_ (k:Int),sw),(wrap64 (Qo at_ (k:Int)+1),y.k),(wrap64 (Qo at_ (k:Int)+2),y.d)] rfl (Sq.block HR9.out.2.2.1 rfl rfl (Nat.le_refl _) Lm) (by have:=HLI.out;simp <;> omega) Lg HR9.out.2.1.size ?_);intro a8 k8 w8 r8 F8;generalize hT3:T2++[(Qo at_ (k:Int),sw),(wrap64 (Qo at_ (k:Int)+1),y.k),(wrap64 (Qo at_ (k:Int)+2),y.d)]=T3 at r8 ⊢));have HR8:=q9 (qc r8 (qc (qc (Ob.kept HR9.out.2.2.2 F8 (je HR9.out.1 HR9.out.2.2.2 Lg)) (HR9.out.2.1.own F8 (z8 HR9.out.1))) (show T++yc at_ 0 (its.take (k+1))=T3 by rw [<- hT3,<- HT2.out,HY.out,List.append_assoc])));exact Db
     ·rw [List.getElem?_eq_none (by omega:its.length<=k)] at hx9;obtain ⟨g2,off2,rfl,d0,d1,d2⟩:=q2k hs9 hx9;unfold ceO at d0 d1 d2;simp only at d0 d1 d2;have hne:∀ W,(binOp .neq 195 (.agg #[.int .i64 0,.int .i64 0,.int .i64 0]) (.agg #[.int .i64 0,.int .i64 0,.int .i64 0])).run Tryz.prog W = .ok (.bool false) W:=fun W=>by have h:=qa8 ⟨0,0,0⟩ ⟨0,0,0⟩ W;simpa using h
      have F1:=(Fr.refl [] wr).alloc (.cells #[.int .i64 0,.int .i64 0,.int .i64 0] 195);have HR8:=q9 (qc (qo hr F1) (qc (qc (ok.up F1) (Fk.trans F1)) (show its.take (k+1)=its.take k by rw [List.take_of_length_le Lb,List.take_of_length_le Lb])));clear hr F1 hs9 hx9 Fk ok;go_wp2_with fail;exact Db
    ·obtain rfl:k=sn:=by omega
     have HR8:=q9 (qc hr (qc Fk (show T++yc at_ 0 (its.take k)=yg (ns.take (i+1)) by rw [HWT.out,<- HT.out,List.append_assoc,List.take_of_length_le HIT.out];rfl)));clear hr Fk ok;go_wp2_with fail;go_roundw;case rel=>exact ⟨i+1,HI2.out.1,by simp,by rw [<- HR8.out.2.2];exact HR8.out.1,HR8.out.2.1⟩
     case measure=>exact meas rfl HI2.out.2
  ·obtain rfl:i=ns.length:=by omega
   rw [List.take_length] at hr;have HR:=q9 (qc hr F);clear hr F;go_wp2_with fail;go_ret;exact ⟨⟨_,rfl,HR.out.1⟩,HR.out.2⟩
end Go.Proofs.YtleclbldlladmaaGreat.Mx
namespace Go.Proofs.YtleclbldlladmaaGreat.Mx
open Go.RowKit Ar Ref
structure Sp where
 c:Cf
 chunk:Int
 mate:Int
 repl:Int
 line:Int
 m:Int
 cur:Int
 w:Int
 n:Int
 stuck:Int
def Sp.cells (x:Sp):Array Value:=#[.int .i64 x.c.t,.int .i64 x.c.c,.int .i64 x.c.wd,.int .i64 x.c.v,.int .i64 x.chunk,.int .i64 x.mate,.int .i64 x.repl,.int .i64 x.line,.int .i64 x.m,.int .i64 x.cur,.int .i64 x.w,.int .i64 x.n,.int .i64 x.stuck]
def Zm (w:World) (b:Nat) (x:Sp):Prop:=Ob w b 184 x.cells
theorem xe {w:World} {b:Nat} {x:Sp} (h:Zm w b x):w.cell? ⟨b,0,none⟩=some (.int .i64 x.c.t)/\w.cell? ⟨b,1,none⟩=some (.int .i64 x.c.c)/\w.cell? ⟨b,2,none⟩=some (.int .i64 x.c.wd)/\w.cell? ⟨b,3,none⟩=some (.int .i64 x.c.v)/\w.cell? ⟨b,4,none⟩=some (.int .i64 x.chunk)/\w.cell? ⟨b,5,none⟩=some (.int .i64 x.mate)/\w.cell? ⟨b,6,none⟩=some (.int .i64 x.repl)/\w.cell? ⟨b,7,none⟩=some (.int .i64 x.line)/\w.cell? ⟨b,8,none⟩=some (.int .i64 x.m)/\w.cell? ⟨b,9,none⟩=some (.int .i64 x.cur)/\w.cell? ⟨b,10,none⟩=some (.int .i64 x.w)/\w.cell? ⟨b,11,none⟩=some (.int .i64 x.n)/\w.cell? ⟨b,12,none⟩=some (.int .i64 x.stuck) :=
 ⟨h.cell rfl,h.cell rfl,h.cell rfl,h.cell rfl,h.cell rfl,h.cell rfl,h.cell rfl,h.cell rfl,h.cell rfl,h.cell rfl,h.cell rfl,h.cell rfl,h.cell rfl⟩
def Sp.new (c:Cf) (chunk mate repl:Int):Sp:=⟨c,chunk,mate,repl,1,0,0,0,0,0⟩
def Sp.head (x:Sp):Sp:={ x with cur:=xn x.c,line:=3 }
def Sp.live (x:Sp):Bool:=decide (x.line=1) || (decide (3<=x.line) && decide (x.line<=8))
def Sp.hint (x:Sp):Int:=Vr x.c (hd x.m 0 63)
def Sp.act (x:Sp) (s:St):St :=
 if x.line=1 then s.load (wrap64 x.chunk) else if x.line=3 then s.load (wrap64 (x.cur+2)) else if x.line=4 then s.swap (wrap64 (x.cur+2)) x.w (jh x.repl false) else if x.line=5 then s.load (wrap64 x.n)
 else if x.line=6 then s.store (wrap64 (x.chunk+6)) 2 else if x.line=7 then s.store (wrap64 (x.mate+6)) 2 else s.store x.hint x.repl
def Sp.told (x:Sp) (s:St):Int :=
 if x.line=1 then qw s.l (wrap64 x.chunk) else if x.line=3 then qw s.l (wrap64 (x.cur+2)) else if x.line=4 then (if s.can (wrap64 (x.cur+2)) x.w then 1 else 0) else qw s.l (wrap64 x.n)
def Sp.next (x:Sp) (v:Int):Sp :=
 if x.line=1 then Sp.head { x with m:=v }
 else if x.line=3 then (if Jw v=true then { x with w:=v,n:=atW v,stuck:=x.cur,line:=0 } else if atW v=0 then { x with w:=v,n:=0,line:=6 } else if atW v=x.chunk then { x with w:=v,n:=atW v,line:=4 } else { x with w:=v,n:=atW v,line:=5 })
 else if x.line=4 then (if v=1 then { x with line:=6 } else x.head)
 else if x.line=5 then (if x.m<=v then { x with line:=6 } else { x with cur:=x.n,line:=3 })
 else if x.line=6 then (if x.mate=0 then { x with line:=8 } else { x with line:=7 })
 else if x.line=7 then { x with line:=8 } else { x with line:=0 }
theorem qcc (m:Int):(if (0:Int)<(if (63:Int)<m then 63 else m) then (if (63:Int)<m then 63 else m) else 0)=hd m 0 63:=by unfold hd;(repeat' split) <;> omega
def Sp.step (x:Sp) (s:St):Sp×St:=if x.live=true then (x.next (x.told s),x.act s) else (x,s)
theorem Ud (c:Cf) (chunk mate repl:Int) (w:World):Calls Tryz.prog 128 #[c.val,.int .i64 chunk,.int .i64 mate,.int .i64 repl] w fun e w'=>∃ b,e = .returned (.pointer (some ⟨b,0,none⟩))/\w.heap.size<=b/\Zm w' b (Sp.new c chunk mate repl)/\Fr [] w w':=by unfold Cf.val;have F0:=(Fr.refl [] w).alloc (.cells #[.int .i64 c.t,.int .i64 c.c,.int .i64 c.wd,.int .i64 c.v] 23);obtain ⟨c0,c1,c2,c3⟩:=Pl.yu (Go.heap_alloc_new w (.cells #[.int .i64 c.t,.int .i64 c.c,.int .i64 c.wd,.int .i64 c.v] 23));go_enter Tryz.func128,Tryz.ntmps128;exact Bj
theorem Js (x:Sp) (hc:x.c.Ok) (b:Nat) (w:World) (h:Zm w b x):Calls Tryz.prog 146 #[.pointer (some ⟨b,0,none⟩)] w fun e w'=>e = .returned (.tuple #[])/\Zm w' b x.head/\Fr [b] w w':=by
 obtain ⟨c0,c1,c2,c3,c4,c5,c6,c7,c8,c9,c10,c11,c12⟩:=xe h;go_enter Tryz.func146,Tryz.ntmps146;go_wp2_with fail;refine (Ref.Qm x.c.t x.c.c x.c.wd x.c.v hc.t1 hc.t8 _).mono ?_;rintro e w1 ⟨rfl,F1⟩;have h1:Zm w1 b x:=Ob.up h F1;have z1:=h1.frozen;clear c0 c1 c2 c3 c4 c5 c6 c7 c8 c9 c10 c11 c12;obtain ⟨-,-,-,-,-,-,-,c7,-,c9,-,-,-⟩:=xe h1;go_wp2;go_end0
 exact ⟨rfl,by
  have e:3+x.c.t+4=xn x.c:=by unfold xn;omega
  rw [e];exact (Ob.set h1 _).set _,(F1.mono).trans ((Fr.setCell _ Lc).setCell' _ Lc)⟩
theorem Sy (x:Sp) (hl:x.line=1) (hc:x.c.Ok) (b p q:Nat) (s:St) (w:World) (h:Zm w b x) (hA:Rar w p q s) (hp:b≠p) (hq:b≠q) :
  Calls Tryz.prog 136 #[.pointer (some ⟨b,0,none⟩),.pointer (some ⟨p,0,none⟩)] w fun e w'=>e = .returned (.bool (decide ((x.next (qw s.l (wrap64 x.chunk))).line=0)))/\Zm w' b (x.next (qw s.l (wrap64 x.chunk)))/\Rar w' p q (s.load (wrap64 x.chunk))/\Fr [b,p,q] w w':=by
 generalize hy:x.next (qw s.l (wrap64 x.chunk))=y;have HY:=q9 hy;clear hy;obtain ⟨c0,c1,c2,c3,c4,c5,c6,c7,c8,c9,c10,c11,c12⟩:=xe h;have z:=h.frozen;go_enter Tryz.func136,Tryz.ntmps136;go_wp2_with fail;have h0:=h;have A0:=hA;have D0:=Fr.refl [b,p,q] w;clear h hA;have hw0:=q9 (Eq.refl w);have A1:=A0;have h1:=h0;have D1:=D0;clear c0 c1 c2 c3 c4 c5 c6 c7 c8 c9 c10 c11 c12 z;refine (Ref.zl _ p q s _ A1).mono ?_;rintro e w5 ⟨rfl,A5,F5⟩;have h5:=Ob.kept h1 F5 Lf;have D5:=zm D1 F5 Lc;clear A1 h1 D1 F5 A0 h0 D0;obtain ⟨c0,c1,c2,c3,c4,c5,c6,c7,c8,c9,c10,c11,c12⟩:=xe h5;have z:=h5.frozen;generalize hv:qw s.l (wrap64 x.chunk)=v at *;have hn:y=Sp.head { x with m:=v }:=by rw [<- HY.out];unfold Sp.next;simp [hl]
 subst hn;go_wp2_with fail;have h6:Zm _ b { x with m:=v }:=(Ob.set h5 (i:=8) (.int .i64 v));have A6:=(Rar.set A5 hp hq (i:=8) (.int .i64 v));have D6:=(Fr.setCell' D5 (b:=b) (i:=8) (.int .i64 v) Lc);generalize (w5.setCell ⟨b,8,none⟩ (.int .i64 v))=w6 at *;clear c0 c1 c2 c3 c4 c5 c6 c7 c8 c9 c10 c11 c12 z;clear h5 A5 D5;refine (Js { x with m:=v } hc b _ h6).mono ?_;rintro e w7 ⟨rfl,h7,F7⟩;exact Cb
theorem q03 (x:Sp) (hl:x.line=3) (hc:x.c.Ok) (b p q:Nat) (s:St) (w:World) (h:Zm w b x) (hA:Rar w p q s) (hp:b≠p) (hq:b≠q) :
  Calls Tryz.prog 136 #[.pointer (some ⟨b,0,none⟩),.pointer (some ⟨p,0,none⟩)] w fun e w'=>e = .returned (.bool (decide ((x.next (qw s.l (wrap64 (x.cur+2)))).line=0)))/\Zm w' b (x.next (qw s.l (wrap64 (x.cur+2))))/\Rar w' p q (s.load (wrap64 (x.cur+2)))/\Fr [b,p,q] w w':=by
 generalize hy:x.next (qw s.l (wrap64 (x.cur+2)))=y;have HY:=q9 hy;clear hy;obtain ⟨c0,c1,c2,c3,c4,c5,c6,c7,c8,c9,c10,c11,c12⟩:=xe h;have z:=h.frozen;go_enter Tryz.func136,Tryz.ntmps136;go_wp2_with fail;have h0:=h;have A0:=hA;have D0:=Fr.refl [b,p,q] w;clear h hA;have hw0:=q9 (Eq.refl w);have A1:=A0;have h1:=h0;have D1:=D0;clear c0 c1 c2 c3 c4 c5 c6 c7 c8 c9 c10 c11 c12 z;refine (Ref.zl _ p q s _ A1).mono ?_;rintro e w5 ⟨rfl,A5,F5⟩;have h5:=Ob.kept h1 F5 Lf;have D5:=zm D1 F5 Lc;clear A1 h1 D1 F5 A0 h0 D0;obtain ⟨c0,c1,c2,c3,c4,c5,c6,c7,c8,c9,c10,c11,c12⟩:=xe h5;have z:=h5.frozen;generalize hv:qw s.l (wrap64 (x.cur+2))=v at *;go_wp2_with fail;refine (Xt _ _).mono ?_;rintro e _ ⟨rfl,rfl⟩;go_wp2_with fail;have h6:Zm _ b { x with w:=v,n:=atW v }:=(Ob.set (Ob.set h5 (i:=10) (.int .i64 v)) (i:=11) (.int .i64 (atW v)));have A6:=(Rar.set (Rar.set A5 hp hq (i:=10) (.int .i64 v)) hp hq (i:=11) (.int .i64 (atW v)));have D6:=(Fr.setCell' (Fr.setCell' D5 (b:=b) (i:=10) (.int .i64 v) Lc) (b:=b) (i:=11) (.int .i64 (atW v)) Lc);generalize ((w5.setCell ⟨b,10,none⟩ (.int .i64 v)).setCell ⟨b,11,none⟩ (.int .i64 (atW v)))=w6 at *;clear c0 c1 c2 c3 c4 c5 c6 c7 c8 c9 c10 c11 c12 z;clear h5 A5 D5;refine (Yh _ _).mono ?_;rintro e _ ⟨rfl,rfl⟩;obtain ⟨c0,c1,c2,c3,c4,c5,c6,c7,c8,c9,c10,c11,c12⟩:=xe h6;have z:=h6.frozen;generalize ha:atW v=av at *;cases hm:Jw v
 ·by_cases hz0:av=0
  ·have hn:y = { x with w:=v,n:=0,line:=6 }:=by rw [<- HY.out];unfold Sp.next;simp [hl,hm,ha,hz0]
   subst hn;go_wp2_with fail;go_ret;rw [show ({ x with w:=v,n:=0,line:=6 }:Sp) = { x with w:=v,n:=av,line:=6 } by rw [<- hz0]];exact ⟨rfl,(Ob.set h6 _),(Rar.set A6 hp hq _),(Fr.setCell' D6 _ Lc)⟩
  ·have b0:(av == 0)=false:=by simpa using hz0
   go_wp2_with fail;have k4:=qb c4;have k11:=qb c11;clear c0 c1 c2 c3 c4 c5 c6 c7 c8 c9 c10 c11 c12 z;refine wiq ?_;repeat (go_big_quiet_step (fail))
   refine wpQuiet_nil ?_;intro w7 F7;have h7:=Ob.up h6 F7;have A7:=A6.kept F7;have D7:=D6.then F7;clear h6 A6 D6 F7 k4 k11;obtain ⟨c0,c1,c2,c3,c4,c5,c6,c7,c8,c9,c10,c11,c12⟩:=xe h7;have z:=h7.frozen;by_cases hc0:av=x.chunk
   ·have hn:y = { x with w:=v,n:=av,line:=4 }:=by rw [<- HY.out];unfold Sp.next;simp [hl,hm,ha,hz0,hc0];exact fun h=>hz0 (hc0.trans h)
    subst hn;have b1:(av == x.chunk)=true:=by simpa using hc0
    clear hc0;exact En
   ·have hn:y = { x with w:=v,n:=av,line:=5 }:=by rw [<- HY.out];unfold Sp.next;simp [hl,hm,ha,hz0,hc0]
    subst hn;have b1:(av == x.chunk)=false:=by simpa using hc0
    exact En
 ·have hn:y = { x with w:=v,n:=av,stuck:=x.cur,line:=0 }:=by rw [<- HY.out];unfold Sp.next;simp [hl,hm,ha]
  subst hn;go_wp2_with fail;go_ret;exact Cs
theorem Sz (x:Sp) (hl:x.line=4) (hc:x.c.Ok) (b p q:Nat) (s:St) (w:World) (h:Zm w b x) (hA:Rar w p q s) (hp:b≠p) (hq:b≠q) :
  Calls Tryz.prog 136 #[.pointer (some ⟨b,0,none⟩),.pointer (some ⟨p,0,none⟩)] w fun e w'=>e = .returned (.bool (decide ((x.next ((if s.can (wrap64 (x.cur+2)) x.w then 1 else 0))).line=0)))/\Zm w' b (x.next ((if s.can (wrap64 (x.cur+2)) x.w then 1 else 0)))/\Rar w' p q (s.swap (wrap64 (x.cur+2)) x.w (jh x.repl false))/\Fr [b,p,q] w w':=by
 generalize hy:x.next ((if s.can (wrap64 (x.cur+2)) x.w then 1 else 0))=y;have HY:=q9 hy;clear hy;obtain ⟨c0,c1,c2,c3,c4,c5,c6,c7,c8,c9,c10,c11,c12⟩:=xe h;have z:=h.frozen;go_enter Tryz.func136,Tryz.ntmps136;go_wp2_with fail;have h0:=h;have A0:=hA;have D0:=Fr.refl [b,p,q] w;clear h hA;have hw0:=q9 (Eq.refl w);have A1:=A0;have h1:=h0;have D1:=D0;clear c0 c1 c2 c3 c4 c5 c6 c7 c8 c9 c10 c11 c12 z;refine z7 Le [p,q] (fun w2 F2=>?_);refine epq [true,true,true,true,true,true,true,true,true,true,true,true,true,true,true,false] 1 (F2.mono) ?_;apply qg;refine ⟨fun wf Ff=>?_,?_⟩
 ·have hf:Zm wf b x:=Ob.kept h1 Ff Lf;obtain ⟨-,-,-,-,-,-,c6,-,-,c9,c10,-,-⟩:=xe hf;have k6:=qb c6;have k9:=qb c9;have k10:=qb c10;clear hf c6 c9 c10;simp only [sel];repeat (go_big_quiet_step ((first | (go_at_call 66;exact Calls.in_same (Y7 _ _ _)))))
  exact wpQuiet_nil rfl
 refine eoq 15 (fun w3 F3=>?_);have E3:=F2.trans F3;have A3:=A1.kept E3;have h3:=Ob.up h1 E3;have G3:=zm D1 E3 Lc;clear F2 F3 A1 h1 D1 A0 h0 D0;go_wp2_with fail;refine (Ref.yn _ p q s _ _ _ A3).mono ?_;rintro e w4 ⟨rfl,A4,F4⟩;have E4:=(E3.mono (T:=[p,q]) Lc).trans F4;have h4:=h3.kept F4 Lf;have G4:=zm G3 F4 Lc;clear A3 h3 F4 G3 E3;go_wp2_with fail;refine ql ⟨E4,?_⟩;refine zr Le (fun w5 F5=>?_);have D5:=G4.then F5;have h5:Zm w5 b x:=h4.up F5;have A5:=A4.kept F5;clear A4 h4 F5 G4 E4;obtain ⟨c0,c1,c2,c3,c4,c5,c6,c7,c8,c9,c10,c11,c12⟩:=xe h5;have z:=h5.frozen;cases hv:s.can (wrap64 (x.cur+2)) x.w
 ·have hn:y=x.head:=by rw [<- HY.out];unfold Sp.next;simp [hl,hv]
  subst hn;go_wp2_with fail;have h6:=h5;have A6:=A5;have D6:=D5;clear c0 c1 c2 c3 c4 c5 c6 c7 c8 c9 c10 c11 c12 z;clear h5 A5 D5;refine (Js x hc b _ h6).mono ?_;rintro e w7 ⟨rfl,h7,F7⟩;exact Cb
 ·have hn:y = { x with line:=6 }:=by rw [<- HY.out];unfold Sp.next;simp [hl,hv]
  exact Ae
theorem Si (x:Sp) (hl:x.line=5) (hc:x.c.Ok) (b p q:Nat) (s:St) (w:World) (h:Zm w b x) (hA:Rar w p q s) (hp:b≠p) (hq:b≠q) :
  Calls Tryz.prog 136 #[.pointer (some ⟨b,0,none⟩),.pointer (some ⟨p,0,none⟩)] w fun e w'=>e = .returned (.bool (decide ((x.next (qw s.l (wrap64 x.n))).line=0)))/\Zm w' b (x.next (qw s.l (wrap64 x.n)))/\Rar w' p q (s.load (wrap64 x.n))/\Fr [b,p,q] w w':=by
 generalize hy:x.next (qw s.l (wrap64 x.n))=y;have HY:=q9 hy;clear hy;obtain ⟨c0,c1,c2,c3,c4,c5,c6,c7,c8,c9,c10,c11,c12⟩:=xe h;have z:=h.frozen;go_enter Tryz.func136,Tryz.ntmps136;go_wp2_with fail;have h0:=h;have A0:=hA;have D0:=Fr.refl [b,p,q] w;clear h hA;have hw0:=q9 (Eq.refl w);have A1:=A0;have h1:=h0;have D1:=D0;clear c0 c1 c2 c3 c4 c5 c6 c7 c8 c9 c10 c11 c12 z;refine z7 Le [p,q] (fun w2 F2=>?_);refine epq [true,true,true,true,true,true,false,true,true,true,true,false] 2 (F2.mono) ?_;apply qg;refine ⟨fun wf Ff=>?_,?_⟩
 ·have hf:Zm wf b x:=Ob.kept h1 Ff Lf;obtain ⟨-,-,-,-,-,-,-,-,c8,-,-,c11,-⟩:=xe hf;have k8:=qb c8;have k11:=qb c11;clear hf c8 c11;exact Ab
 refine eoq 6 (fun w3 F3=>?_);have E3:=F2.trans F3;have A3:=A1.kept E3;have h3:=Ob.up h1 E3;have G3:=zm D1 E3 Lc;clear F2 F3 A1 h1 D1 A0 h0 D0;go_wp2_with fail;refine (Ref.zl _ p q s _ A3).mono ?_;rintro e w4 ⟨rfl,A4,F4⟩;have E4:=(E3.mono (T:=[p,q]) Lc).trans F4;have h4:=h3.kept F4 Lf;have G4:=zm G3 F4 Lc;clear A3 h3 F4 G3 E3;go_wp2_with fail;refine ql ⟨E4,?_⟩;refine eoq 11 (fun wx Fx=>?_);replace E4:=E4.then Fx;replace h4:=h4.up Fx;replace A4:=A4.kept Fx;replace G4:=G4.then Fx;clear Fx;go_wp2_with fail;refine ql ⟨E4,?_⟩;refine zr Le (fun w5 F5=>?_);have D5:=G4.then F5;have h5:Zm w5 b x:=h4.up F5;have A5:=A4.kept F5;clear A4 h4 F5 G4 E4;obtain ⟨c0,c1,c2,c3,c4,c5,c6,c7,c8,c9,c10,c11,c12⟩:=xe h5;have z:=h5.frozen;generalize hv:qw s.l (wrap64 x.n)=v at *;by_cases hv0:x.m<=v
 ·have hn:y = { x with line:=6 }:=by rw [<- HY.out];unfold Sp.next;simp [hl,hv0]
  subst hn;have g:decide (v≥x.m)=true:=by simpa using hv0
  exact Ag
 ·have hn:y = { x with cur:=x.n,line:=3 }:=by rw [<- HY.out];unfold Sp.next;simp [hl,hv0]
  subst hn;have g:decide (v≥x.m)=false:=by simpa using hv0
  go_wp2_with fail;go_ret;exact ⟨rfl,(Ob.set (Ob.set h5 _) (i:=7) (.int .i64 3)),(Rar.set (Rar.set A5 hp hq _) hp hq (i:=7) (.int .i64 3)),(Fr.setCell' (Fr.setCell' D5 _ Lc) (b:=b) (i:=7) (.int .i64 3) Lc)⟩
theorem R8 (x:Sp) (hl:x.line=6) (hc:x.c.Ok) (b p q:Nat) (s:St) (w:World) (h:Zm w b x) (hA:Rar w p q s) (hp:b≠p) (hq:b≠q) :
  Calls Tryz.prog 136 #[.pointer (some ⟨b,0,none⟩),.pointer (some ⟨p,0,none⟩)] w fun e w'=>e = .returned (.bool (decide ((x.next (x.told s)).line=0)))/\Zm w' b (x.next (x.told s))/\Rar w' p q (s.store (wrap64 (x.chunk+6)) 2)/\Fr [b,p,q] w w':=by
 generalize hy:x.next (x.told s)=y;have HY:=q9 hy;clear hy;obtain ⟨c0,c1,c2,c3,c4,c5,c6,c7,c8,c9,c10,c11,c12⟩:=xe h;have z:=h.frozen;go_enter Tryz.func136,Tryz.ntmps136;go_wp2_with fail;have h0:=h;have A0:=hA;have D0:=Fr.refl [b,p,q] w;clear h hA;have hw0:=q9 (Eq.refl w);have A1:=A0;have h1:=h0;have D1:=D0;clear c0 c1 c2 c3 c4 c5 c6 c7 c8 c9 c10 c11 c12 z;refine (Ref.jr _ p q s _ 2 A1).mono ?_;rintro e w5 ⟨rfl,A5,F5⟩;have h5:=Ob.kept h1 F5 Lf;have D5:=zm D1 F5 Lc;clear A1 h1 D1 F5 A0 h0 D0;obtain ⟨c0,c1,c2,c3,c4,c5,c6,c7,c8,c9,c10,c11,c12⟩:=xe h5;have z:=h5.frozen;by_cases hm:x.mate=0
 ·have hn:y = { x with line:=8 }:=by rw [<- HY.out];unfold Sp.next;simp [hl,hm]
  subst hn;go_wp2_with fail;go_ret;rw [show ({ x with mate:=0,line:=8 }:Sp) = { x with line:=8 } by rw [<- hm]];exact Ah
 ·have hn:y = { x with line:=7 }:=by rw [<- HY.out];unfold Sp.next;simp [hl,hm]
  exact Ao
theorem Su (x:Sp) (hl:x.line=7) (hc:x.c.Ok) (b p q:Nat) (s:St) (w:World) (h:Zm w b x) (hA:Rar w p q s) (hp:b≠p) (hq:b≠q) :
  Calls Tryz.prog 136 #[.pointer (some ⟨b,0,none⟩),.pointer (some ⟨p,0,none⟩)] w fun e w'=>e = .returned (.bool (decide ((x.next (x.told s)).line=0)))/\Zm w' b (x.next (x.told s))/\Rar w' p q (s.store (wrap64 (x.mate+6)) 2)/\Fr [b,p,q] w w':=by
 generalize hy:x.next (x.told s)=y;have HY:=q9 hy;clear hy;obtain ⟨c0,c1,c2,c3,c4,c5,c6,c7,c8,c9,c10,c11,c12⟩:=xe h;have z:=h.frozen;go_enter Tryz.func136,Tryz.ntmps136;go_wp2_with fail;have h0:=h;have A0:=hA;have D0:=Fr.refl [b,p,q] w;clear h hA;have hw0:=q9 (Eq.refl w);have A1:=A0;have h1:=h0;have D1:=D0;clear c0 c1 c2 c3 c4 c5 c6 c7 c8 c9 c10 c11 c12 z;refine (Ref.jr _ p q s _ 2 A1).mono ?_;rintro e w5 ⟨rfl,A5,F5⟩;have h5:=Ob.kept h1 F5 Lf;have D5:=zm D1 F5 Lc;clear A1 h1 D1 F5 A0 h0 D0;obtain ⟨c0,c1,c2,c3,c4,c5,c6,c7,c8,c9,c10,c11,c12⟩:=xe h5;have z:=h5.frozen;have hn:y = { x with line:=8 }:=by rw [<- HY.out];unfold Sp.next;simp [hl]
 exact Ae
theorem q05 (x:Sp) (hl:x.line=8) (hc:x.c.Ok) (b p q:Nat) (s:St) (w:World) (h:Zm w b x) (hA:Rar w p q s) (hp:b≠p) (hq:b≠q) :
  Calls Tryz.prog 136 #[.pointer (some ⟨b,0,none⟩),.pointer (some ⟨p,0,none⟩)] w fun e w'=>e = .returned (.bool (decide ((x.next (x.told s)).line=0)))/\Zm w' b (x.next (x.told s))/\Rar w' p q (s.store x.hint x.repl)/\Fr [b,p,q] w w':=by
 generalize hy:x.next (x.told s)=y;have HY:=q9 hy;clear hy;obtain ⟨c0,c1,c2,c3,c4,c5,c6,c7,c8,c9,c10,c11,c12⟩:=xe h;have z:=h.frozen;go_enter Tryz.func136,Tryz.ntmps136;go_wp2_with fail;have h0:=h;have A0:=hA;have D0:=Fr.refl [b,p,q] w;clear h hA;have hw0:=q9 (Eq.refl w);have A1:=A0;have h1:=h0;have D1:=D0;clear c0 c1 c2 c3 c4 c5 c6 c7 c8 c9 c10 c11 c12 z;refine z7 Le [p,q] (fun w2 F2=>?_);refine epq [true,true,true,true,true,true,true,true,true,true,true,true,true,true,true,true,false] 1 (F2.mono) ?_;apply qg;refine ⟨fun wf Ff=>?_,?_⟩
 ·have hf:Zm wf b x:=Ob.kept h1 Ff Lf;obtain ⟨c0,c1,c2,c3,-,-,c6,-,c8,-,-,-,-⟩:=xe hf;have k0:=qb c0;have k1:=qb c1;have k2:=qb c2;have k3:=qb c3;have k6:=qb c6;have k8:=qb c8;clear hf c0 c1 c2 c3 c6 c8;simp only [sel];repeat (go_big_quiet_step ((first | (go_at_call 116;exact Calls.in_ (Ref.q2l x.c.t x.c.c x.c.wd x.c.v _ hc.t1 hc.t8 (by (repeat' split) <;> omega) (by (repeat' split) <;> omega) _)))))
  exact wpQuiet_nil rfl
 rw [qcc x.m];generalize (if (63:Int)<x.m then (63:Int) else x.m)=k63;refine eoq 16 (fun w3 F3=>?_);have E3:=F2.trans F3;have A3:=A1.kept E3;have h3:=Ob.up h1 E3;have G3:=zm D1 E3 Lc;clear F2 F3 A1 h1 D1 A0 h0 D0;go_wp2_with fail;refine (Ref.jr _ p q s _ _ A3).mono ?_;rintro e w4 ⟨rfl,A4,F4⟩;have E4:=(E3.mono (T:=[p,q]) Lc).trans F4;have h4:=h3.kept F4 Lf;have G4:=zm G3 F4 Lc;clear A3 h3 F4 G3 E3;go_wp2_with fail;refine ql ⟨E4,?_⟩;refine zr Le (fun w5 F5=>?_);have D5:=G4.then F5;have h5:Zm w5 b x:=h4.up F5;have A5:=A4.kept F5;clear A4 h4 F5 G4 E4;obtain ⟨c0,c1,c2,c3,c4,c5,c6,c7,c8,c9,c10,c11,c12⟩:=xe h5;have z:=h5.frozen;rw [show (3:Int)+x.c.t+hd x.m 0 63 / 16=x.hint from rfl] at A5;have hn:y = { x with line:=0 }:=by rw [<- HY.out];unfold Sp.next;simp [hl]
 exact Ae
theorem Sk (x:Sp) (hl:x.live=false) (hc:x.c.Ok) (b p q:Nat) (w:World) (h:Zm w b x) :
  Calls Tryz.prog 136 #[.pointer (some ⟨b,0,none⟩),.pointer (some ⟨p,0,none⟩)] w fun e w'=>e = .returned (.bool (decide (x.line=0)))/\Fr [] w w':=by
 obtain ⟨c0,c1,c2,c3,c4,c5,c6,c7,c8,c9,c10,c11,c12⟩:=xe h;unfold Sp.live at hl;have l1:x.line≠1:=by intro h;rw [h] at hl;simp at hl
 have l3:x.line≠3:=by intro h;rw [h] at hl;simp at hl
 have l4:x.line≠4:=by intro h;rw [h] at hl;simp at hl
 have l5:x.line≠5:=by intro h;rw [h] at hl;simp at hl
 have l6:x.line≠6:=by intro h;rw [h] at hl;simp at hl
 have l7:x.line≠7:=by intro h;rw [h] at hl;simp at hl
 have l8:x.line≠8:=by intro h;rw [h] at hl;simp at hl
 clear hl;go_enter Tryz.func136,Tryz.ntmps136;exact Es
theorem q1l (x:Sp) (hc:x.c.Ok) (b p q:Nat) (s:St) (w:World) (h:Zm w b x) (hA:Rar w p q s) (hp:b≠p) (hq:b≠q) :
  Calls Tryz.prog 136 #[.pointer (some ⟨b,0,none⟩),.pointer (some ⟨p,0,none⟩)] w fun e w'=>e = .returned (.bool (decide ((x.step s).1.line=0)))/\Zm w' b (x.step s).1/\Rar w' p q (x.step s).2/\Fr [b,p,q] w w':=by
 unfold Sp.step;cases hl:x.live with
 | false=>exact (Sk x hl hc b p q w h).mono Lu
 | true =>
  unfold Sp.live at hl
  have hl':x.line=1\/x.line=3\/x.line=4\/x.line=5\/x.line=6\/x.line=7\/x.line=8:=Dj
  rw [qf rfl];rcases hl' with l | l | l | l | l | l | l
  ·rw [show x.act s=s.load (wrap64 x.chunk) by unfold Sp.act;simp [l],show x.told s=qw s.l (wrap64 x.chunk) by unfold Sp.told;simp [l]];exact Sy x l hc b p q s w h hA hp hq
  ·rw [show x.act s=s.load (wrap64 (x.cur+2)) by unfold Sp.act;simp [l],show x.told s=qw s.l (wrap64 (x.cur+2)) by unfold Sp.told;simp [l]];exact q03 x l hc b p q s w h hA hp hq
  ·rw [show x.act s=s.swap (wrap64 (x.cur+2)) x.w (jh x.repl false) by unfold Sp.act;simp [l],show x.told s=(if s.can (wrap64 (x.cur+2)) x.w then 1 else 0) by unfold Sp.told;simp [l]];exact Sz x l hc b p q s w h hA hp hq
  ·rw [show x.act s=s.load (wrap64 x.n) by unfold Sp.act;simp [l],show x.told s=qw s.l (wrap64 x.n) by unfold Sp.told;simp [l]];exact Si x l hc b p q s w h hA hp hq
  ·rw [show x.act s=s.store (wrap64 (x.chunk+6)) 2 by unfold Sp.act;simp [l]];exact R8 x l hc b p q s w h hA hp hq
  ·rw [show x.act s=s.store (wrap64 (x.mate+6)) 2 by unfold Sp.act;simp [l]];exact Su x l hc b p q s w h hA hp hq
  ·rw [show x.act s=s.store x.hint x.repl by unfold Sp.act;simp [l]];exact q05 x l hc b p q s w h hA hp hq
end Go.Proofs.YtleclbldlladmaaGreat.Mx
