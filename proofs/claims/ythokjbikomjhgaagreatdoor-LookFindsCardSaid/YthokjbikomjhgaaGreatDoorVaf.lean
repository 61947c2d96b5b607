/- Parts. -/
import Derived.Test.YthokjbikomjhgaaGreatDoorVaa
import Derived.Test.YthokjbikomjhgaaGreatDoorVac
import Derived.Test.YthokjbikomjhgaaGreatDoorVae
set_option linter.unusedVariables false
set_option linter.unusedSimpArgs false
set_option maxRecDepth 100000
set_option maxHeartbeats 12800000
namespace Go.Proofs.YthokjbikomjhgaaGreatDoor.Mx
open Go.RowKit Ar Vw
def fQ (x:Int×Int):List Value:=[.int .i64 x.1,.int .i64 x.2]
theorem Tg:Lays fQ 2:=⟨fun _=>rfl,fun x u hu=>by simp [fQ] at hu;rcases hu with rfl | rfl <;> rfl,by decide⟩
theorem woI:(Tryz.prog.info? 309).map (fun i=>(i.zero,i.size,i.bytes))=some (some (.agg #[.int .i64 0,.int .i64 0]),2,16):=by kernel_rfl
theorem q1t (n:Nk) {cap:Nat} (h:n.its.length<=cap):(Qx n).length<=3+3 * cap:=by unfold Qx;simp only [List.length_cons,Ve];omega
theorem Yi {cap:Nat}:∀ ns:List Nk,(∀ n,n∈ns->n.its.length<=cap)->(yh ns).length<=(3+3 * cap) * ns.length
 | [],_=>by simp [yh]
 | n :: r,h=>by
  have h1:=Yi r (fun m hm=>h m (by simp [hm]));have h2:=q1t n (h n Ll);unfold yh at h1 ⊢;rw [List.flatMap_cons,List.length_append,List.length_cons,Nat.mul_add];omega
theorem q81 {w:World} {a:Option Addr} {n cap i:Nat} {xs:List Chs} {x:Chs} (h:Sq fH w (.slice a n cap) xs) (hi:xs[i]? = some x) :
  ∃ g off,a=some ⟨g,off,none⟩/\w.cell? ⟨g,off+i * 9,none⟩=some (.int .i64 x.h.at_)/\w.cell? ⟨g,off+i * 9+1,none⟩=some (.int .i64 x.h.mn)/\w.cell? ⟨g,off+i * 9+2,none⟩=some (.int .i64 x.h.ct)/\w.cell? ⟨g,off+i * 9+3,none⟩=some (.int .i64 x.h.nx)/\w.cell? ⟨g,off+i * 9+4,none⟩=some (.int .i64 x.h.ld)/\w.cell? ⟨g,off+i * 9+5,none⟩=some (.int .i64 x.h.mt)/\w.cell? ⟨g,off+i * 9+6,none⟩=some (.int .i64 x.h.rp)/\w.cell? ⟨g,off+i * 9+7,none⟩=some (.int .i64 x.h.st)/\w.cell? ⟨g,off+i * 9+8,none⟩=some x.s.v:=by
 obtain ⟨-,g,off,rfl,hc⟩:=Sq.cell Qi h hi;exact ⟨g,off,rfl,hc 0 _ rfl,hc 1 _ rfl,hc 2 _ rfl,hc 3 _ rfl,hc 4 _ rfl,hc 5 _ rfl,hc 6 _ rfl,hc 7 _ rfl,hc 8 _ rfl⟩
theorem q7m {α:Type} {l:List α} {k:Nat} {y:α} (h:l[k]? = some y):l.take (k+1)=l.take k++[y]:=by rw [List.take_add_one,h];rfl
def RwO (w:World) (ns:List Nk) (u x:Value) (wr:World):Prop:=∃ i,i<=ns.length/\x = .int .i64 (i:Nat)/\wr.ownsRow w.heap.size 309 2 u (yh (ns.take i)).length ((yh (ns.take i)).flatMap fQ)/\Fr [] w wr
def RwI (w:World) (cap:Nat) (q:Nat) (cs:Array Value) (pre:List (Int×Int)) (at_:Int) (its:List It) (u x:Value) (wr:World):Prop:=∃ k,k<=cap/\x = .int .i64 (k:Nat)/\wr.ownsRow w.heap.size 309 2 u (pre++yd at_ 0 (its.take k)).length ((pre++yd at_ 0 (its.take k)).flatMap fQ)/\Ob wr q 161 cs/\Fr [] w wr
theorem q6p (cap:Nat) (ns:List Nk) (xs:List Chs) (v:Value) (w:World) (hcap:cap<=16) (hl:ns.length<=1000) (hits:∀ n,n∈ns->n.its.length<=cap) (h:Sq fH w v xs) (hx:q3s w xs ns cap) :
  Calls Tryz.prog 243 #[v] w fun e w'=>(∃ u,e = .returned u/\w'.ownsRow w.heap.size 309 2 u (yh ns).length ((yh ns).flatMap fQ))/\Fr [] w w':=by
 obtain ⟨a,cp,rfl,hcp,hmax,-⟩:=id h;rw [hx.1] at h hcp ⊢;have HS:=q9 (qc h (qc hx hits));clear h hx hits;go_enter Tryz.func243,Tryz.ntmps243;go_wp2_with fail;go_loopw [3,4] (RwO w ns) (fun _ x _=>ns.length - (intOf x).toNat);case atStart=>exact ⟨0,by omega,rfl,⟨rfl,.inl ⟨rfl,rfl⟩⟩,Fr.refl _ _⟩
 case round =>
  obtain ⟨i,hi,rfl,hr,F⟩:=hrel;by_cases hlt:i<ns.length
  ·have HI2:=q9 (show i+1<=ns.length/\ns.length - (i+1)<ns.length - i by omega);have hltz:(i:Int)<(ns.length:Int):=by omega
   have hi0:(0:Int)<=(i:Int):=by omega
   obtain ⟨n,hn⟩:∃ n,ns[i]? = some n:=⟨ns[i],List.getElem?_eq_getElem _⟩;obtain ⟨x,hxi⟩:∃ x,xs[i]? = some x:=⟨xs[i]'(by rw [HS.out.2.1.1];exact hlt),List.getElem?_eq_getElem _⟩;obtain ⟨e1,hsq⟩:=HS.out.2.1.2 i x n hxi hn;have HIT:=q9 (HS.out.2.2 n (List.mem_of_getElem? hn));have HSQ0:=hsq;obtain ⟨g,off,rfl,c0,c1,c2,c3,c4,c5,c6,c7,c8⟩:=q81 (HS.out.1.up F) hxi;obtain ⟨⟨at_,mn,ct,nx,ld,mt,rp,st⟩,⟨sa,sn,sc⟩⟩:=x;obtain ⟨nat,nmn,nct,nnx,its⟩:=n;unfold qef at e1;simp only [Hd.mk.injEq] at e1;simp only at hsq c0 c1 c2 c3 c4 c5 c6 c7 c8 HIT;obtain ⟨rfl,rfl,rfl,rfl,rfl,rfl,rfl,rfl⟩:=e1;unfold Sv.v at c8 hsq;simp only at c8 hsq;obtain ⟨sa',sc',e2,hsc,hsm,-⟩:=id hsq;rw [Qy] at e2 hsc;simp only [Value.slice.injEq] at e2;obtain ⟨rfl,rfl,rfl⟩:=e2;have HWT:=q9 (q1g hn);have HSQ:=q9 HSQ0;clear HSQ0;have F1:=(Fr.refl [] wr).alloc (.cells #[.int .i64 at_,.int .i64 mn,.int .i64 ct,.int .i64 nx,.int .i64 0,.int .i64 0,.int .i64 0,.int .i64 0,.slice sa sn sc] 161);have o1:=Ob.new wr 161 #[.int .i64 at_,.int .i64 mn,.int .i64 ct,.int .i64 nx,.int .i64 0,.int .i64 0,.int .i64 0,.int .i64 0,.slice sa sn sc];have r1:=qo hr F1;have hs1:=(hsq.up F).up F1;have FW:=F.trans F1
   have HLN:=q9 (show (yh (ns.take i)).length<=60000 by
    have h1:=Yi (ns.take i) (fun m hm=>HS.out.2.2 m (List.mem_of_mem_take hm))
    have h2:(ns.take i).length<=1000:=by rw [List.length_take];omega
    have h3:(3+3 * sn) * (ns.take i).length<=51 * 1000:=Nat.mul_le_mul Lj h2
    omega)
   generalize yh (ns.take i)=pre at *;clear F hn hxi hsq;have hz9:(wr.alloc (.cells #[.int .i64 at_,.int .i64 mn,.int .i64 ct,.int .i64 nx,.int .i64 0,.int .i64 0,.int .i64 0,.int .i64 0,.slice sa sn sc] 161)).heap.size=wr.heap.size+1:=Yg _ _;have F2:=(Fr.refl [] (wr.alloc (.cells #[.int .i64 at_,.int .i64 mn,.int .i64 ct,.int .i64 nx,.int .i64 0,.int .i64 0,.int .i64 0,.int .i64 0,.slice sa sn sc] 161))).alloc (.cells #[.int .i64 (wrap64 at_),.int .i64 mn,.int .i64 (wrap64 (at_+1)),.int .i64 ct,.int .i64 (wrap64 (at_+2)),.int .i64 nx] 309);have B2:=Go.heap_alloc_new (wr.alloc (.cells #[.int .i64 at_,.int .i64 mn,.int .i64 ct,.int .i64 nx,.int .i64 0,.int .i64 0,.int .i64 0,.int .i64 0,.slice sa sn sc] 161)) (.cells #[.int .i64 (wrap64 at_),.int .i64 mn,.int .i64 (wrap64 (at_+1)),.int .i64 ct,.int .i64 (wrap64 (at_+2)),.int .i64 nx] 309);rw [hz9] at B2;have HR2:=q9 (qc (qo r1 F2) (qc (o1.up F2) (qc (hs1.up F2) (FW.trans F2))));have HB2:=q9 B2;obtain ⟨ap,cp2,rfl,hcp2,hmp2,-⟩:=id (Sq.own (f:=fQ) hr);clear r1 o1 hs1 FW F1 F2 B2 hz9 hr;go_wp2_with (at_builtin;go_loud (refine qq Tg rfl _ _ 282 rfl Tryz.underlying282 woI rfl (B:=w.heap.size) _ pre rfl HR2.out.1 _ [(wrap64 at_,mn),(wrap64 (at_+1),ct),(wrap64 (at_+2),nx)] rfl (Sq.block HB2.out rfl rfl (Nat.le_refl _) Ly) (by have:=HLN.out;simp <;> omega) Lr HR2.out.2.2.2.size ?_);intro a7 k7 w7 r7 F7;generalize hT:pre++[(wrap64 at_,mn),(wrap64 (at_+1),ct),(wrap64 (at_+2),nx)]=T at r7 ⊢);have G7:Fr [] w w7:=HR2.out.2.2.2.own F7 (z8 HR2.out.1);have o7:=Ob.kept HR2.out.2.1 F7 (ji HR2.out.1 HR2.out.2.1 Lr);have HLT:=q9 (show T.length<=60003 by rw [<- hT];simp;exact HLN.out);have HT:=q9 hT;generalize wr.heap.size=q at *;have H7:=q9 (qc o7 (qc G7 (HSQ.out.up G7)));clear HR2 HB2 F7 G7 o7 hT c0 c1 c2 c3 c4 c5 c6 c7 c8;generalize wr=wo at *;go_loopw [3,6] (RwI w sn q #[.int .i64 at_,.int .i64 mn,.int .i64 ct,.int .i64 nx,.int .i64 0,.int .i64 0,.int .i64 0,.int .i64 0,.slice sa sn sc] T at_ its) (fun _ x _=>sn - (intOf x).toNat);case atStart=>exact ⟨0,by omega,rfl,by rw [List.take_zero];unfold yd;rw [List.append_nil];exact r7,H7.out.1,H7.out.2.1⟩
   case round =>
    clear r7;obtain ⟨k,hk,rfl,hr,ok,Fk⟩:=hrel;have b8:wr.cell? ⟨q,8,none⟩=some (.slice sa sn sc):=ok.cell rfl;have b0:wr.cell? ⟨q,0,none⟩=some (.int .i64 at_):=ok.cell rfl;have hqn:q<wr.heap.size:=Ob.lt ok;have hqe:¬ q=wr.heap.size:=by omega
    by_cases hkl:k<sn
    ·have HK2:=q9 (show k+1<=sn/\sn - (k+1)<sn - k by omega);have hklz:(k:Int)<(sn:Int):=by omega
     have hk0:(0:Int)<=(k:Int):=by omega
     have hx9:=q5v (cap:=sn) (g:=its) hkl;have hs9:=HSQ.out.up Fk;by_cases hil:k<its.length
     ·obtain ⟨y,hy⟩:∃ y,its[k]? = some y:=⟨its[k],List.getElem?_eq_getElem _⟩;rw [hy] at hx9;obtain ⟨g2,off2,rfl,d0,d1,d2⟩:=q2w hs9 hx9;unfold ceO at d0 d1 d2;simp only at d0 d1 d2
      have hne:∀ W,(binOp .neq 213 (.agg #[.int .i64 (vz y.v),.int .i64 y.k,.int .i64 y.d]) (.agg #[.int .i64 0,.int .i64 0,.int .i64 0])).run Tryz.prog W = .ok (.bool true) W:=fun W=>by have h:=qaf ⟨vz y.v,y.k,y.d⟩ ⟨0,0,0⟩ W;rw [show (decide ((⟨vz y.v,y.k,y.d⟩:Ce)≠⟨0,0,0⟩))=true from decide_eq_true (by intro h;have h1:=congrArg Ce.s h;simp only at h1;have:=Vp y.v;omega)] at h;exact h
      have HY:=q9 (show yd at_ 0 (its.take (k+1))=yd at_ 0 (its.take k)++[(Qq at_ (k:Int),vz y.v),(wrap64 (Qq at_ (k:Int)+1),y.k),(wrap64 (Qq at_ (k:Int)+2),y.d)] by
       rw [q7m hy,J1,Nat.zero_add,show (its.take k).length=k by rw [List.length_take];omega])
      have HLI:=q9 (show (T++yd at_ 0 (its.take k)).length<=60100 by
       have h1:=Ve at_ (its.take k) 0
       have h2:(its.take k).length<=16:=by rw [List.length_take];omega
       have:=HLT.out
       rw [List.length_append];omega)
      generalize hT2:T++yd at_ 0 (its.take k)=T2 at *;have HT2:=q9 hT2;generalize vz y.v=sw at *;have F1:=(Fr.refl [] wr).alloc (.cells #[.int .i64 sw,.int .i64 y.k,.int .i64 y.d] 213);have F2:=(Fr.refl [] (wr.alloc (.cells #[.int .i64 sw,.int .i64 y.k,.int .i64 y.d] 213))).alloc (.cells #[.int .i64 (Qq at_ (k:Int)),.int .i64 sw,.int .i64 (wrap64 (Qq at_ (k:Int)+1)),.int .i64 y.k,.int .i64 (wrap64 (Qq at_ (k:Int)+2)),.int .i64 y.d] 309);have B2:=Go.heap_alloc_new (wr.alloc (.cells #[.int .i64 sw,.int .i64 y.k,.int .i64 y.d] 213)) (.cells #[.int .i64 (Qq at_ (k:Int)),.int .i64 sw,.int .i64 (wrap64 (Qq at_ (k:Int)+1)),.int .i64 y.k,.int .i64 (wrap64 (Qq at_ (k:Int)+2)),.int .i64 y.d] 309);rw [Yg] at B2;have HR9:=q9 (qc (qo (qo hr F1) F2) (qc (Fk.trans (F1.trans F2)) (qc B2 (ok.up (F1.trans F2)))));obtain ⟨ap2,cp3,rfl,hcp3,hmp3,-⟩:=id (Sq.own (f:=fQ) hr);clear hr F1 F2 B2 hs9 hx9 hT2 Fk hy ok;go_wp2_with (first | (go_at_call 37;refine (vh _ _ _).mono ?_;rintro e _ ⟨rfl,rfl⟩) | (at_builtin;go_loud (refine qq Tg rfl _ _ 282 rfl Tryz.underlying282 woI rfl (B:=w.heap.size) _ T2 rfl HR9.out.1 _ [(Qq at_ (k:Int),sw),(wrap64 (Qq at_ (k:Int)+1),y.k),(wrap64 (Qq at_ (k:Int)+2),y.d)] rfl (Sq.block HR9.out.2.2.1 rfl rfl (Nat.le_refl _) Ly) (by have:=HLI.out;simp <;> omega) Lr HR9.out.2.1.size ?_);intro a8 k8 w8 r8 F8;generalize hT3:T2++[(Qq at_ (k:Int),sw),(wrap64 (Qq at_ (k:Int)+1),y.k),(wrap64 (Qq at_ (k:Int)+2),y.d)]=T3 at r8 ⊢));have HR8:=q9 (qc r8 (qc (qc (Ob.kept HR9.out.2.2.2 F8 (ji HR9.out.1 HR9.out.2.2.2 Lr)) (HR9.out.2.1.own F8 (z8 HR9.out.1))) (show T++yd at_ 0 (its.take (k+1))=T3 by rw [<- hT3,<- HT2.out,HY.out,List.append_assoc])));exact Di
     ·rw [List.getElem?_eq_none (by omega:its.length<=k)] at hx9;obtain ⟨g2,off2,rfl,d0,d1,d2⟩:=q2w hs9 hx9;unfold ceO at d0 d1 d2;simp only at d0 d1 d2;have hne:∀ W,(binOp .neq 213 (.agg #[.int .i64 0,.int .i64 0,.int .i64 0]) (.agg #[.int .i64 0,.int .i64 0,.int .i64 0])).run Tryz.prog W = .ok (.bool false) W:=fun W=>by have h:=qaf ⟨0,0,0⟩ ⟨0,0,0⟩ W;simpa using h
      have F1:=(Fr.refl [] wr).alloc (.cells #[.int .i64 0,.int .i64 0,.int .i64 0] 213);have HR8:=q9 (qc (qo hr F1) (qc (qc (ok.up F1) (Fk.trans F1)) (show its.take (k+1)=its.take k by rw [List.take_of_length_le Lj,List.take_of_length_le Lj])));clear hr F1 hs9 hx9 Fk ok;go_wp2_with fail;exact Di
    ·obtain rfl:k=sn:=by omega
     have HR8:=q9 (qc hr (qc Fk (show T++yd at_ 0 (its.take k)=yh (ns.take (i+1)) by rw [HWT.out,<- HT.out,List.append_assoc,List.take_of_length_le HIT.out];rfl)));clear hr Fk ok;go_wp2_with fail;go_roundw;case rel=>exact ⟨i+1,HI2.out.1,by simp,by rw [<- HR8.out.2.2];exact HR8.out.1,HR8.out.2.1⟩
     case measure=>exact meas rfl HI2.out.2
  ·obtain rfl:i=ns.length:=by omega
   rw [List.take_length] at hr;have HR:=q9 (qc hr F);clear hr F;go_wp2_with fail;go_ret;exact ⟨⟨_,rfl,HR.out.1⟩,HR.out.2⟩
end Go.Proofs.YthokjbikomjhgaaGreatDoor.Mx
namespace Go.Proofs.YthokjbikomjhgaaGreatDoor.Mx
open Go.RowKit Ar Ref
def InsAt (l:List It) (key:Int) (u:Value) (w wr:World):Prop:=∃ k,k<=l.length/\u = .int .i64 (k:Nat)/\Fr [] w wr/\∀ i y,i<k->l[i]? = some y->y.k<key
theorem q72 {l:List It} {x:It} (h:Vk l x.k=none):q0m l x=q1y l x:=by unfold q0m;rw [h]
theorem q5t {l:List It} {x:It} {i:Nat} (h:Vk l x.k=some i):q0m l x=l.set i x:=by unfold q0m;rw [h]
theorem q92 (x:Lok) (it:It) (b:Nat) (w:World) (hN:Vk x.l it.k=none) (hl:x.l.length<=1000) (h:vg w b x) (hs:Sq fT w x.lv x.l) (hb:b∉x.lv.ownBlock.toList) :
  Calls Tryz.prog 93 #[.pointer (some ⟨b,0,none⟩),.agg #[.int .i64 it.k,.int .i64 it.v,.int .i64 it.d]] w fun e w'=>e = .returned (.tuple #[])/\(∃ lv',vg w' b { x with l:=q1y x.l it,lv:=lv' } /\ Sq fT w' lv' (q1y x.l it)/\∀ g,g∈lv'.ownBlock.toList->w.heap.size<=g)/\Fr [b] w w':=by
 obtain ⟨a,cap,hlv,hcap,hmax,-⟩:=id hs;have F0:=(Fr.refl [] w).alloc (.cells #[.int .i64 it.k,.int .i64 it.v,.int .i64 it.d] 74);have ob:=Ob.new w 74 #[.int .i64 it.k,.int .i64 it.v,.int .i64 it.d];have hi:=Uz x it.k b _ hl (h.up F0) (hs.up F0);rw [show J7 x.l it.k = -1 by unfold J7;rw [hN]] at hi;have HI:=q9 hi;clear hi;go_enter Tryz.func93,Tryz.ntmps93;go_wp2_with fail;refine HI.out.mono ?_;rintro e _ ⟨rfl,rfl⟩;clear HI;replace h:=h.up F0;replace hs:=hs.up F0;have hbl:=h.lt;generalize (w.alloc (.cells #[.int .i64 it.k,.int .i64 it.v,.int .i64 it.d] 74))=w1 at *;have hc14:=(qx h).2.2.2.2.2.2.2.2.2.2.2.2.2.2;rw [hlv] at hs hb hc14;go_wp2_with fail;go_loopw [5] (fun u wr=>InsAt x.l it.k u w1 wr) (fun u _=>x.l.length - (intOf u).toNat);case atStart=>exact ⟨0,Nat.zero_le _,rfl,Fr.refl _ _,by omega⟩
 case round =>
  obtain ⟨k,hk,rfl,FL,h1⟩:=hrel;have ob:=ob.up FL;have h:=h.up FL;have hs:=hs.up FL;have F0:=F0.trans FL;have hbl:=h.lt;have hc14:=FL.cell hc14 Ll;by_cases hlt:k<x.l.length
  ·obtain ⟨y,hy⟩:∃ y,x.l[k]? = some y:=⟨x.l[k],List.getElem?_eq_getElem hlt⟩;obtain ⟨g,off,rfl,d0,d1,d2⟩:=xj hs hy;have HYY:=q9 hy;clear hy;have k14:=qb hc14;have q0:=qb (ob.cell (i:=0) rfl);have dd0:=qb d0;clear d0 d1 d2;by_cases hyk:y.k<it.k
   ·have g1:decide (y.k<it.k)=true:=by simpa using hyk
    have gk:decide ((k:Int)<x.l.length)=true:=by simp;omega
    clear hc14;go_wp2_with fail;refine wiq ?_;repeat (go_big_quiet_step (fail))
    refine wpQuiet_nil ?_;intro w5 F5;clear k14 q0 dd0;go_wp2_with fail
    exact ⟨⟨k+1,by omega,by go_num,FL.trans F5,fun i z hi hz=>by
     by_cases e:i=k
     ·subst e;rw [HYY.out] at hz;cases hz;exact hyk
     ·exact h1 i z Lj hz⟩,by simp [intOf];omega⟩
   have g1:decide (y.k<it.k)=false:=by simpa using hyk
   have gk:decide ((k:Int)<x.l.length)=true:=by simp;omega
   have hn:=q9 (q61 (x:=it) Lj h1 (fun z hz=>by rw [HYY.out] at hz;cases hz;exact hyk));clear hc14;go_wp2_with fail;refine wiq ?_;repeat (go_big_quiet_step (fail))
   refine wpQuiet_nil ?_;intro w5 F5;clear k14 q0 dd0 g1 gk;replace h:=h.up F5;replace hs:=hs.up F5;replace ob:=ob.up F5;replace F0:=F0.trans F5;have hbl:=h.lt;have hc14:=(qx h).2.2.2.2.2.2.2.2.2.2.2.2.2.2;rw [hlv] at hc14;have c14:=hc14;clear hc14;go_wp2_with fail;have HS:=q9 hs;clear c14 hs;refine qp Lm ?_;refine za [] w5 #[true,true,true,true,true,true,true,true,true,true,true,true,true,true,true,true,true,true,false,false,false] 18 3 rfl ?_;refine lpq [true,true,true,true,true,true,true,false,true,false,false,true,true,true,true,true,true,false,false,false,false] 4 ((Fr.refl _ w5).drew) ?_;apply qg;refine ⟨fun wf Ff=>?_,?_⟩
   ·exact Ij
   have HS1:=q9 (Sq.take zh HS.out k Lj);have HS2:=q9 (Sq.drop zh HS.out k Lj);have HT:=q9 (show (x.l.take k).length<=1000/\(x.l.drop k).length<=1000/\q1y x.l it=x.l.take k++[it]++x.l.drop k from ⟨by simp;omega,by simp;omega,hn.out⟩);generalize x.l.take k=T1 at HS1 HT;generalize x.l.drop k=T2 at HS2 HT;refine jv [7,9] Lm Ll (fun w10 F10 i hi o ho=>?_);have G:=(Fr.refl [] w5).drew.trans F10;clear F10;simp only [List.mem_cons,List.not_mem_nil,or_false] at hi;rcases hi with rfl | rfl
   focus
    obtain rfl:=qi ho
    go_wp2_with (at_builtin;refine qq zh rfl _ _ 65 rfl Tryz.underlying65 itI rfl (B:=w5.heap.size) (.slice none 0 0) [] rfl ⟨rfl,.inl ⟨rfl,rfl⟩⟩ _ T1 rfl (HS1.out.up G) Ls Lr G.size ?_;intro a21 c21 w21 r21 f21)
    rw [List.nil_append] at r21
    replace G:=G.trans f21
    clear f21
    refine ql ⟨G,?_⟩
    refine loq 9 (fun w11 F11=>?_)
    have r11:=qo r21 F11
    replace G:=G.trans F11
    clear r21 F11
    go_wp2_with fail
    have F12:=(Fr.refl [] w11).alloc (.cells #[.int .i64 it.k,.int .i64 it.v,.int .i64 it.d] 74)
    have B12:=Go.heap_alloc_new w11 (.cells #[.int .i64 it.k,.int .i64 it.v,.int .i64 it.d] 74)
    have r12:=qo r11 F12
    replace G:=G.trans F12
    clear r11 F12 ho
    refine ql ⟨G,?_⟩
    refine loq 10 (fun w13 F13=>?_)
    have r22:=qo r12 F13
    have B22:=F13.heap B12 Ll
    replace G:=G.trans F13
    clear r12 B12 F13
   rotate_left
   focus
    obtain rfl:=qi ho
    go_wp2_with fail
    have F12:=(Fr.refl [] w10).alloc (.cells #[.int .i64 it.k,.int .i64 it.v,.int .i64 it.d] 74)
    have B12:=Go.heap_alloc_new w10 (.cells #[.int .i64 it.k,.int .i64 it.v,.int .i64 it.d] 74)
    replace G:=G.trans F12
    clear F12 ho
    refine ql ⟨G,?_⟩
    refine loq 7 (fun w11 F11=>?_)
    have B13:=F11.heap B12 Ll
    replace G:=G.trans F11
    clear B12 F11
    go_wp2_with (at_builtin;refine qq zh rfl _ _ 65 rfl Tryz.underlying65 itI rfl (B:=w5.heap.size) (.slice none 0 0) [] rfl ⟨rfl,.inl ⟨rfl,rfl⟩⟩ _ T1 rfl (HS1.out.up G) Ls Lr G.size ?_;intro a21 c21 w21 r21 f21)
    rw [List.nil_append] at r21
    have B21:=Fr.heap f21 B13 Lt
    replace G:=G.trans f21
    clear f21 B13
    refine ql ⟨G,?_⟩
    refine loq 10 (fun w13 F13=>?_)
    have r22:=qo r21 F13
    have B22:=F13.heap B21 Ll
    replace G:=G.trans F13
    clear r21 B21 F13
   rotate_left
   all_goals
    go_wp2_with (at_builtin;refine qq zh rfl _ _ 65 rfl Tryz.underlying65 itI rfl (B:=w5.heap.size) _ T1 rfl r22 _ [it] rfl (Sq.block B22 rfl rfl (Nat.le_refl _) Ly) Ls Lr G.size ?_;intro a23 c23 w23 r23 f23;generalize hT3:T1++[it]=T3 at r23 ⊢)
    replace G:=G.own f23 (z8 r22)
    clear f23 r22 B22
    refine ql ⟨G,?_⟩
    refine loq 17 (fun w14 F14=>?_)
    have r24:=qo r23 F14
    replace G:=G.trans F14
    clear r23 F14
    go_wp2_with (at_builtin;refine qq zh rfl _ _ 65 rfl Tryz.underlying65 itI rfl (B:=w5.heap.size) _ T3 rfl r24 _ T2 rfl (HS2.out.up G) Mm Lr G.size ?_;intro a25 c25 w25 r25 f25;generalize hT4:T3++T2=T4 at r25 ⊢)
    replace G:=G.own f25 (z8 r24)
    clear f25 r24
    refine ql ⟨G,?_⟩
    refine qy (k:=18) rfl Lm (fun w15 F15=>?_)
    have r26:=qo r25 F15
    replace G:=G.trans F15
    clear r25 F15
    have h26:=h.up G
    have z26:=h26.frozen
    obtain ⟨-,-,-,-,-,-,-,-,-,-,-,-,-,-,c14⟩:=qx h26
    go_wp2_with fail
    go_end0
    have hlt26:b<w5.heap.size:=h.lt
    have e26:q1y x.l it=T4:=by rw [HT.out.2.2,hT3,hT4]
    rw [<- e26] at r26 ⊢
    refine ⟨rfl,⟨_,Ob.set h26 (i:=14) _,(Sq.own r26).kept (Fr.setCell (S:=[b]) _ Ll) (fun g hg hi=>?_),fun g hg=>qh F0.size (z8 r26 g hg)⟩,(F0.mono).trans ((G.mono).trans (Fr.setCell _ Ll))⟩
    have:=z8 r26 g hg
    simp at hi
    omega
  ·obtain rfl:k=x.l.length:=by omega
   have gk:decide (((x.l.length:Nat):Int)<x.l.length)=false:=by simp
   have hn:=q9 (q61 (x:=it) (Nat.le_refl _) h1 (fun z hz=>by simp at hz));have k14:=qb hc14;clear hc14;go_wp2_with fail;refine wiq ?_;repeat (go_big_quiet_step (fail))
   refine wpQuiet_nil ?_;intro w5 F5;clear k14 gk;replace h:=h.up F5;replace hs:=hs.up F5;replace ob:=ob.up F5;replace F0:=F0.trans F5;have hbl:=h.lt;have hc14:=(qx h).2.2.2.2.2.2.2.2.2.2.2.2.2.2;rw [hlv] at hc14;have c14:=hc14;clear hc14;go_wp2_with fail;have HS:=q9 hs;clear c14 hs;refine qp Lm ?_;refine za [] w5 #[true,true,true,true,true,true,true,true,true,true,true,true,true,true,true,true,true,true,false,false,false] 18 3 rfl ?_;refine lpq [true,true,true,true,true,true,true,false,true,false,false,true,true,true,true,true,true,false,false,false,false] 4 ((Fr.refl _ w5).drew) ?_;apply qg;refine ⟨fun wf Ff=>?_,?_⟩
   ·exact Ij
   have HS1:=HS;rw [List.take_length,List.drop_length] at hn;have HT:=q9 (show x.l.length<=1000/\([]:List It).length<=1000/\q1y x.l it=x.l++[it]++[] from ⟨hl,by simp,hn.out⟩);have hcm:cap - x.l.length<=maxLen:=by omega
   generalize (if cap=x.l.length then a else Option.map (fun y=>y.add (x.l.length * 3)) a)=a2;generalize cap - x.l.length=c2 at hcm ⊢;have HS2:=q9 (Sq.empty (f:=fT) w5 a2 hcm);refine jv [7,9] Lm Ll (fun w10 F10 i hi o ho=>?_);have G:=(Fr.refl [] w5).drew.trans F10;clear F10;simp only [List.mem_cons,List.not_mem_nil,or_false] at hi;rcases hi with rfl | rfl
   focus
    obtain rfl:=qi ho
    go_wp2_with (at_builtin;refine qq zh rfl _ _ 65 rfl Tryz.underlying65 itI rfl (B:=w5.heap.size) (.slice none 0 0) [] rfl ⟨rfl,.inl ⟨rfl,rfl⟩⟩ _ x.l rfl (HS1.out.up G) Ls Lr G.size ?_;intro a21 c21 w21 r21 f21)
    rw [List.nil_append] at r21
    replace G:=G.trans f21
    clear f21
    refine ql ⟨G,?_⟩
    refine loq 9 (fun w11 F11=>?_)
    have r11:=qo r21 F11
    replace G:=G.trans F11
    clear r21 F11
    go_wp2_with fail
    have F12:=(Fr.refl [] w11).alloc (.cells #[.int .i64 it.k,.int .i64 it.v,.int .i64 it.d] 74)
    have B12:=Go.heap_alloc_new w11 (.cells #[.int .i64 it.k,.int .i64 it.v,.int .i64 it.d] 74)
    have r12:=qo r11 F12
    replace G:=G.trans F12
    clear r11 F12 ho
    refine ql ⟨G,?_⟩
    refine loq 10 (fun w13 F13=>?_)
    have r22:=qo r12 F13
    have B22:=F13.heap B12 Ll
    replace G:=G.trans F13
    clear r12 B12 F13
   rotate_left
   focus
    obtain rfl:=qi ho
    go_wp2_with fail
    have F12:=(Fr.refl [] w10).alloc (.cells #[.int .i64 it.k,.int .i64 it.v,.int .i64 it.d] 74)
    have B12:=Go.heap_alloc_new w10 (.cells #[.int .i64 it.k,.int .i64 it.v,.int .i64 it.d] 74)
    replace G:=G.trans F12
    clear F12 ho
    refine ql ⟨G,?_⟩
    refine loq 7 (fun w11 F11=>?_)
    have B13:=F11.heap B12 Ll
    replace G:=G.trans F11
    clear B12 F11
    go_wp2_with (at_builtin;refine qq zh rfl _ _ 65 rfl Tryz.underlying65 itI rfl (B:=w5.heap.size) (.slice none 0 0) [] rfl ⟨rfl,.inl ⟨rfl,rfl⟩⟩ _ x.l rfl (HS1.out.up G) Ls Lr G.size ?_;intro a21 c21 w21 r21 f21)
    rw [List.nil_append] at r21
    have B21:=Fr.heap f21 B13 Lt
    replace G:=G.trans f21
    clear f21 B13
    refine ql ⟨G,?_⟩
    refine loq 10 (fun w13 F13=>?_)
    have r22:=qo r21 F13
    have B22:=F13.heap B21 Ll
    replace G:=G.trans F13
    clear r21 B21 F13
   rotate_left
   all_goals
    go_wp2_with (at_builtin;refine qq zh rfl _ _ 65 rfl Tryz.underlying65 itI rfl (B:=w5.heap.size) _ x.l rfl r22 _ [it] rfl (Sq.block B22 rfl rfl (Nat.le_refl _) Ly) Ls Lr G.size ?_;intro a23 c23 w23 r23 f23;generalize hT3:x.l++[it]=T3 at r23 ⊢)
    replace G:=G.own f23 (z8 r22)
    clear f23 r22 B22
    refine ql ⟨G,?_⟩
    refine loq 17 (fun w14 F14=>?_)
    have r24:=qo r23 F14
    replace G:=G.trans F14
    clear r23 F14
    go_wp2_with (at_builtin;refine qq zh rfl _ _ 65 rfl Tryz.underlying65 itI rfl (B:=w5.heap.size) _ T3 rfl r24 _ [] rfl (HS2.out.up G) Mm Lr G.size ?_;intro a25 c25 w25 r25 f25;generalize hT4:T3++([]:List It)=T4 at r25 ⊢)
    replace G:=G.own f25 (z8 r24)
    clear f25 r24
    refine ql ⟨G,?_⟩
    refine qy (k:=18) rfl Lm (fun w15 F15=>?_)
    have r26:=qo r25 F15
    replace G:=G.trans F15
    clear r25 F15
    have h26:=h.up G
    have z26:=h26.frozen
    obtain ⟨-,-,-,-,-,-,-,-,-,-,-,-,-,-,c14⟩:=qx h26
    go_wp2_with fail
    go_end0
    have hlt26:b<w5.heap.size:=h.lt
    have e26:q1y x.l it=T4:=by rw [HT.out.2.2,hT3,hT4]
    rw [<- e26] at r26 ⊢
    refine ⟨rfl,⟨_,Ob.set h26 (i:=14) _,(Sq.own r26).kept (Fr.setCell (S:=[b]) _ Ll) (fun g hg hi=>?_),fun g hg=>qh F0.size (z8 r26 g hg)⟩,(F0.mono).trans ((G.mono).trans (Fr.setCell _ Ll))⟩
    have:=z8 r26 g hg
    simp at hi
    omega
theorem q7l (cs:List It) {j:Nat} {u:Value} (h:(cs.flatMap fT)[j]? = some u):∃ c,cs[j / 3]? = some c/\(fT c)[j % 3]? = some u:=by
 have hj:=(List.getElem?_eq_some_iff.1 h).1;rw [zh.flat] at hj;have hi:j / 3<cs.length:=by omega
 refine ⟨cs[j / 3],List.getElem?_eq_getElem hi,?_⟩;have e:=zh.at (xs:=cs) (i:=j / 3) (j:=j % 3) (List.getElem?_eq_getElem hi) Lj;rw [show j / 3 * 3+j % 3=j by omega] at e;rw [<- e];exact h
theorem qb4 {w:World} {g n cap m:Nat} {cs:List It} {x:It} {cur:Array Value} {T:TypeId} (h:Sq fT w (.slice (some ⟨g,0,none⟩) n cap) cs) (hh:w.heap[g]? = some (.cells cur T (0,0))) (hx:cs[m]? = some x) (y:It) :
  Sq fT (((w.setCell ⟨g,m * 3,none⟩ (.int .i64 y.k)).setCell ⟨g,m * 3+1,none⟩ (.int .i64 y.v)).setCell ⟨g,m * 3+2,none⟩ (.int .i64 y.d)) (.slice (some ⟨g,0,none⟩) n cap) (cs.set m y):=by
 obtain ⟨-,g',off',e',d2⟩:=Sq.cell zh h hx;obtain ⟨a',cap',e,h1,h2,h3⟩:=h;simp only [Value.slice.injEq] at e;obtain ⟨rfl,rfl,rfl⟩:=e;have hm:=(List.getElem?_eq_some_iff.1 hx).1;simp only [Option.some.injEq,Addr.mk.injEq] at e';obtain ⟨rfl,rfl,-⟩:=e';have hc2:=d2 2 (.int .i64 x.d) rfl;rw [cell_of_row _ _ _ _ _ _ hh,Nat.zero_add] at hc2;have hlt:m * 3+2<cur.size:=(Array.getElem?_eq_some_iff.1 hc2).1;have hh':=heap_setCell_same _ g (m * 3+2) _ T (.int .i64 y.d) (heap_setCell_same _ g (m * 3+1) _ T (.int .i64 y.v) (heap_setCell_same w g (m * 3) cur T (.int .i64 y.k) hh));refine ⟨_,cap,by simp,by simpa using h1,h2,.inr ⟨g,0,rfl,(Array.getElem?_eq_some_iff.1 hh').1,fun j u hu=>?_⟩⟩;rw [cell_of_row _ _ _ _ _ _ hh',Nat.zero_add];obtain ⟨c,hc,hu⟩:=q7l _ hu;rcases h3 with h0 | ⟨g2,o2,e2,-,hall⟩
 ·omega
 simp only [Option.some.injEq,Addr.mk.injEq] at e2;obtain ⟨rfl,rfl,-⟩:=e2;have ej:j=j / 3 * 3+j % 3:=by omega
 have h3:j % 3<3:=Nat.mod_lt _ Lr;by_cases hjm:j / 3=m
 ·rw [hjm,List.getElem?_set_self hm] at hc;obtain rfl:=qi hc;have h4:j % 3=0\/j % 3=1\/j % 3=2:=by omega
  rw [hjm] at ej;rcases h4 with h4 | h4 | h4
  ·rw [h4] at hu ej;rw [Nat.add_zero] at ej;rw [Array.getElem?_setIfInBounds_ne Lj,Array.getElem?_setIfInBounds_ne Lj,ej,Array.getElem?_setIfInBounds_self_of_lt Lj];exact hu
  ·rw [h4] at hu ej;rw [Array.getElem?_setIfInBounds_ne Lj,ej,Array.getElem?_setIfInBounds_self_of_lt Lu];exact hu
  ·rw [h4] at hu ej;rw [ej,Array.getElem?_setIfInBounds_self_of_lt Lu];exact hu
 ·rw [List.getElem?_set_ne (fun e=>hjm e.symm)] at hc;rw [Array.getElem?_setIfInBounds_ne Lj,Array.getElem?_setIfInBounds_ne Lj,Array.getElem?_setIfInBounds_ne Lj];have:=hall j u (by rw [ej];exact (zh.at hc h3).trans hu);rwa [cell_of_row _ _ _ _ _ _ hh,Nat.zero_add] at this
theorem Ut {l:List It} {key:Int} {i:Nat} (h:Vk l key=some i):i<l.length:=by unfold Vk at h;rw [List.findIdx?_eq_some_iff_getElem] at h;exact h.1
theorem q83 (x:Lok) (it:It) (i b:Nat) (w:World) (hN:Vk x.l it.k=some i) (hl:x.l.length<=1000) (h:vg w b x) (hs:Sq fT w x.lv x.l) (hb:b∉x.lv.ownBlock.toList) :
  Calls Tryz.prog 93 #[.pointer (some ⟨b,0,none⟩),.agg #[.int .i64 it.k,.int .i64 it.v,.int .i64 it.d]] w fun e w'=>e = .returned (.tuple #[])/\(∃ lv',vg w' b { x with l:=x.l.set i it,lv:=lv' } /\ Sq fT w' lv' (x.l.set i it)/\∀ g,g∈lv'.ownBlock.toList->w.heap.size<=g)/\Fr [b] w w':=by
 obtain ⟨a,cap,hlv,hcap,hmax,-⟩:=id hs;have hil:=Ut hN;have F0:=(Fr.refl [] w).alloc (.cells #[.int .i64 it.k,.int .i64 it.v,.int .i64 it.d] 74);have ob:=Ob.new w 74 #[.int .i64 it.k,.int .i64 it.v,.int .i64 it.d];have hi:=Uz x it.k b _ hl (h.up F0) (hs.up F0);rw [show J7 x.l it.k=(i:Int) by unfold J7;rw [hN]] at hi;have HI:=q9 hi;clear hi;have hbw:=h.lt;go_enter Tryz.func93,Tryz.ntmps93;go_wp2_with fail;refine HI.out.mono ?_;rintro e _ ⟨rfl,rfl⟩;clear HI;replace h:=h.up F0;replace hs:=hs.up F0;have hwl:w.heap.size<(w.alloc (.cells #[.int .i64 it.k,.int .i64 it.v,.int .i64 it.d] 74)).heap.size:=by simp
 generalize (w.alloc (.cells #[.int .i64 it.k,.int .i64 it.v,.int .i64 it.d] 74))=w1 at *;have hc14:=(qx h).2.2.2.2.2.2.2.2.2.2.2.2.2.2;rw [hlv] at hs hb hc14;have gi:decide ((i:Int)≥0)=true:=by simp
 go_wp2_with (at_builtin;refine qq zh rfl _ _ 65 rfl Tryz.underlying65 itI rfl (B:=w1.heap.size) (.slice none 0 0) [] rfl ⟨rfl,.inl ⟨rfl,rfl⟩⟩ _ x.l rfl hs (by simp only [List.length_nil];omega) Lr (Nat.le_refl _) ?_;intro a7 c7 w7 r7 F7;rw [List.nil_append] at r7;have h7:=Ob.kept h F7 Lt;have ob7:=Ob.kept ob F7 Lt;have z:=h7.frozen;have c14:=(qx h7).2.2.2.2.2.2.2.2.2.2.2.2.2.2);have hn7:=ji r7 h7 Lr;have F8:Fr [b] w7 (w7.setCell ⟨b,14,none⟩ (.slice a7 x.l.length c7)):=Fr.setCell (b:=b) (i:=14) _ Ll;have h8:vg (w7.setCell ⟨b,14,none⟩ (.slice a7 x.l.length c7)) b { x with lv:=(.slice a7 x.l.length c7) }:=Ob.set h7 (i:=14) (.slice a7 x.l.length c7);have r8:=Q4 r7 F8 (fun g hg hi=>by rw [List.mem_singleton.1 hi] at hg;exact hn7 (by simp [hg]));have hbne:w.heap.size≠b:=by omega
 have ob8:=ob7.kept F8 (by simpa using hbne);have G8:Fr [b] w (w7.setCell ⟨b,14,none⟩ (.slice a7 x.l.length c7)):=((F0.mono).trans (F7.mono Lt)).trans F8;generalize (w7.setCell ⟨b,14,none⟩ (.slice a7 x.l.length c7))=w8 at *;have sr8:=Sq.own r8;have hrb:=z8 r8;rcases r8.2 with ⟨e1,-⟩ | ⟨g,cap2,cur,e1,hg1,hh,hc1,hc2,hsz,-⟩
 ·simp only [Value.slice.injEq] at e1;omega
 simp only [Value.slice.injEq] at e1;obtain ⟨rfl,-,rfl⟩:=e1;have hgb:g≠b:=by intro e;exact hn7 (by simp [Value.ownBlock,e])
 have hx:x.l[i]? = some x.l[i]:=List.getElem?_eq_getElem hil;have HX:=q9 hx;clear h7 ob7 z c14 hc14 F7 r7 hn7 F8 r8 hx hs ob h gi;refine qp Lm ?_;refine za [] w8 #[true,true,true,true,true,true,false,false] 6 2 rfl ?_;refine lpq [true,true,true,true,true,true,false,false] 0 ((Fr.refl _ w8).drew) ?_;apply qg;refine ⟨fun wf Ff=>?_,?_⟩
 ·have c14:=(qx (h8.up Ff)).2.2.2.2.2.2.2.2.2.2.2.2.2.2;have k14:=qb c14;have q0:=qb ((ob8.up Ff).cell (i:=0) rfl);have q1:=qb ((ob8.up Ff).cell (i:=1) rfl);have q2:=qb ((ob8.up Ff).cell (i:=2) rfl);clear c14;exact Ab
 refine qy (k:=6) rfl Lm (fun w9 F9=>?_);have E9:=(Fr.refl [] w8).drew.trans F9;have h9:=h8.up E9;have hh9:=E9.heap hh Ll;have sr9:=sr8.up E9;have G9:=G8.then E9;clear F9 E9 h8 hh sr8 G8 ob8;have zg:∀ j,w9.frozen? ⟨g,j,none⟩=false:=fun j=>frozen_of_row _ _ _ _ _ hh9
 obtain ⟨g',off',e',d0,d1,d2⟩:=xj sr9 HX.out;simp only [Option.some.injEq,Addr.mk.injEq] at e';obtain ⟨rfl,rfl,-⟩:=e';rw [Nat.zero_add] at d0 d1 d2;have hS:=qb4 sr9 hh9 HX.out it;have FS:Fr [g] w9 (((w9.setCell ⟨g,i * 3,none⟩ (.int .i64 it.k)).setCell ⟨g,i * 3+1,none⟩ (.int .i64 it.v)).setCell ⟨g,i * 3+2,none⟩ (.int .i64 it.d)):=Fr.setCell' (Fr.setCell' (Fr.setCell (b:=g) (i:=i * 3) _ Ll) (b:=g) (i:=i * 3+1) _ Ll) (b:=g) (i:=i * 3+2) _ Ll;have hSG:=q9 (qc hS FS);clear hS FS;go_wp2_with fail;refine bodyPost_ret (v:=.tuple #[]) (by simp [results,Tryz.results93,go_sem]) rfl ?_;refine ⟨rfl,⟨_,h9.kept hSG.out.2 (by simpa using hgb.symm),hSG.out.1,fun k hk=>qh F0.size (hrb k hk)⟩,?_⟩;exact ⟨hSG.out.2.os.trans G9.os,hSG.out.2.tape.trans G9.tape,hSG.out.2.output.trans G9.output,qh G9.size hSG.out.2.size,fun k hk hn=>(hSG.out.2.block k (qj hk G9.size) Lu).trans (G9.block k hk hn)⟩
theorem q2n (x:Lok) (it:It) (b:Nat) (w:World) (hl:x.l.length<=1000) (h:vg w b x) (hs:Sq fT w x.lv x.l) (hb:b∉x.lv.ownBlock.toList) :
  Calls Tryz.prog 93 #[.pointer (some ⟨b,0,none⟩),.agg #[.int .i64 it.k,.int .i64 it.v,.int .i64 it.d]] w fun e w'=>e = .returned (.tuple #[])/\(∃ lv',vg w' b { x with l:=q0m x.l it,lv:=lv' } /\ Sq fT w' lv' (q0m x.l it)/\∀ g,g∈lv'.ownBlock.toList->w.heap.size<=g)/\Fr [b] w w':=by
 cases hN:Vk x.l it.k with
 | none=>rw [q72 hN];exact q92 x it b w hN hl h hs hb
 | some i=>rw [q5t hN];exact q83 x it i b w hN hl h hs hb
def Lok.skips (x:Lok):Bool:=decide (x.most<Vb x.s) || (match Vk x.l x.k with | some i=>decide (Vb x.s<(x.l.getD i ⟨0,0,0⟩).v) | none=>false)
def Lok.seven (x:Lok):Lok:=if x.skips=true then ({ x with line:=7 }:Lok).on else { x with line:=7 }
theorem U5 (x:Lok) (hi:-1<=x.i/\x.i<=100) (b:Nat) (w:World) (hl:x.l.length<=1000) (h:vg w b x) (hs:Sq fT w x.lv x.l) (hb:b∉x.lv.ownBlock.toList) :
  Calls Tryz.prog 91 #[.pointer (some ⟨b,0,none⟩)] w fun e w'=>e = .returned (.tuple #[])/\vg w' b x.seven/\Fr [b] w w':=by
 generalize hy:x.seven=y;have HY:=q9 hy;clear hy;obtain ⟨a,cap,hlv,hcap,hmax,-⟩:=id hs;obtain ⟨c0,c1,c2,c3,c4,c5,c6,c7,c8,c9,c10,c11,c12,c13,c14⟩:=qx h;have z:=h.frozen;have hit:=Uz x x.k b w hl h hs;rw [hlv] at c14;go_enter Tryz.func91,Tryz.ntmps91;go_wp2_with fail;refine (Vd _ _).mono ?_;rintro e _ ⟨rfl,rfl⟩;generalize hver:Vb x.s=ver at *;go_wp2_with fail;refine hit.mono ?_;rintro e _ ⟨rfl,rfl⟩;clear hit;have h7:vg (w.setCell ⟨b,8,none⟩ (.int .i64 7)) b { x with line:=7 }:=Ob.set h (i:=8) (.int .i64 7);have F7:Fr [b] w (w.setCell ⟨b,8,none⟩ (.int .i64 7)):=Fr.setCell (b:=b) (i:=8) _ Ll;have hnx:=Z1 { x with line:=7 } hi b _ h7;have HX:=q9 hnx;clear hnx;by_cases e1:x.most<ver
 ·have hn:y=({ x with line:=7 }:Lok).on:=by rw [<- HY.out];unfold Lok.seven Lok.skips;rw [hver];simp [e1]
  subst hn;have g1:decide (ver>x.most)=true:=by simpa using e1
  have HV:=q9 hver;clear hver e1 h hs h7;generalize J7 x.l x.k=ii at *;exact E0
 ·have g1:decide (ver>x.most)=false:=by simpa using e1
  cases hN:Vk x.l x.k with
  | none =>
   have hn:y = { x with line:=7 }:=by rw [<- HY.out];unfold Lok.seven Lok.skips;rw [hver,hN];simp [e1]
   subst hn;rw [show J7 x.l x.k = -1 by unfold J7;rw [hN]];have HV:=q9 (qc hver hN);clear hver hN e1 h hs;exact Hz
  | some i =>
   have hil:=Ut hN;have hgx:x.l[i]? = some x.l[i]:=List.getElem?_eq_getElem hil;have hgd:x.l.getD i ⟨0,0,0⟩=x.l[i]:=by rw [List.getD_eq_getElem?_getD,hgx];rfl
   rw [hlv] at hs;obtain ⟨g,off,rfl,d0,d1,d2⟩:=xj hs hgx;rw [show J7 x.l x.k=(i:Int) by unfold J7;rw [hN]];generalize hxi:x.l[i]=xi at *;have gi:decide ((i:Int)≥0)=true:=by simp
   have hgb:g≠b:=by intro e;rw [hlv] at hb;exact hb (by simp [Value.ownBlock,e])
   by_cases e2:ver<xi.v
   ·have hn:y=({ x with line:=7 }:Lok).on:=by rw [<- HY.out];unfold Lok.seven Lok.skips;rw [hver,hN];simp only [hgd];simp [e2]
    subst hn;have g2:decide (ver<xi.v)=true:=by simpa using e2
    have HV:=q9 (qc hver (qc hN (qc hgx hgd)));have HXI:=q9 hxi;clear hver hN hgx hgd hxi e1 e2 h hs h7;exact E0
   ·have hn:y = { x with line:=7 }:=by rw [<- HY.out];unfold Lok.seven Lok.skips;rw [hver,hN];simp only [hgd];simp [e1,e2]
    subst hn;have g2:decide (ver<xi.v)=false:=by simpa using e2
    have HV:=q9 (qc hver (qc hN (qc hgx hgd)));have HXI:=q9 hxi;clear hver hN hgx hgd hxi e1 e2 h hs;exact Hz
end Go.Proofs.YthokjbikomjhgaaGreatDoor.Mx
namespace Go.Proofs.YthokjbikomjhgaaGreatDoor.Ar
open Go.RowKit
section
variable {P:Program} {ops:Array Oper} {Q:Exit->Act->World->Prop} {md:Region.Mode} {C:World->Prop} {LA:Array Bool} {g:Nat}
def Vu (P:Program) (ops:Array Oper) (C:World->Prop) (o:Oper) (v:Value) (a:Act):Prop :=
 (Region.wanted o (yielded ops a.tmps)=true/\∀ w,C w->∃ u,o.quietAt P a (fun w'=>Fr [] w w') w u/\(o.dst=none\/u=v)) \/
 (Region.wanted o (yielded ops a.tmps)=false/\v=undef)
theorem Vu.wpOp {i:Nat} {o:Oper} {v:Value} {a:Act} (hi:ops[i]? = some o) (hy:Vu P ops C o v a) {K:Act->World->Prop} {w:World} (hw:C w)
  (h:∀ w',Fr [] w w'->K (a.put o.dst v) w'):wpOp P ops Q i K a w:=by
 exact Bu
theorem Vu.of_same {o:Oper} {v:Value} {a a':Act} (hy:Vu P ops C o v a) (he:execOp a'.eval o=execOp a.eval o)
  (hw:Region.wanted o (yielded ops a'.tmps)=Region.wanted o (yielded ops a.tmps)):Vu P ops C o v a':=by
 unfold Vu Oper.quietAt at *;rw [he,hw];exact hy
theorem Vu.other {j:Nat} {oi oj:Oper} {v:Value} (hj:ops[j]? = some oj) (hap:oi.apart ops oj=true)
  (hsi:∀ cs b,oi.op ≠ .select cs b) (hsj:∀ cs b,oj.op ≠ .select cs b)
  (hQ:∀ c a d v w,Q (.panic c) (a.put d v) w->Q (.panic c) a w) {K:Act->World->Prop} {a:Act} {w:World}
  (hy:Vu P ops C oi v a) (h:Go.wpOp P ops Q j K (a.put oi.dst v) w) :
  Go.wpOp P ops Q j (fun a' w'=>Vu P ops C oi v a'/\K (a'.put oi.dst v) w') a w:=by
 obtain ⟨h1,h2,h3⟩:=Oper.apart_spec hap
 have keep:∀ (a:Act),Vu P ops C oi v a->∀ u,Vu P ops C oi v (a.put oj.dst u):=fun a hy u =>
  hy.of_same (execOp_put oi hsi a oj.dst u h3) (wanted_put oi a oj.dst u h3)
 have keepD:∀ d,Vu P ops C oi v { a with defers:=d :: a.defers }:=fun d=>hy.of_same rfl rfl
 exact Ad
def Jo (P:Program) (md:Region.Mode) (ops:Array Oper) (Q:Exit->Act->World->Prop) (C:World->Prop) (LA:Array Bool) (g:Nat):Nat->Array Bool->Act->World->Prop
 | 0,listed,a,w=>∀ w2,Fr [] w w2->listed=LA/\wpAny P md ops Q g LA a w2
 | f+1,listed,a,w=>∀ w2,Fr [] w w2->Region.ready md ops listed≠[] /\
   ∀ i∈Region.ready md ops listed,wpOp P ops Q i (fun a' w'=>C w'/\Jo P md ops Q C LA g f (listed.setIfInBounds i true) a' w') a w2
theorem Jo.more {f:Nat} {listed:Array Bool} {a:Act} {w w':World} (h:Jo P md ops Q C LA g f listed a w) (k:Fr [] w w'):Jo P md ops Q C LA g f listed a w':=Fg
theorem Jo.sound:∀ (f:Nat) (listed:Array Bool) (a:Act) (w:World),Jo P md ops Q C LA g f listed a w->wpAny P md ops Q (f+g) listed a w
 | 0,listed,a,w,h=>by obtain ⟨rfl,h1⟩:=h w (Fr.refl _ _);rw [Nat.zero_add];exact h1
 | f+1,_,_,w,h=>by
  rw [show f+1+g=(f+g)+1 by omega];exact ⟨fun h0=>absurd h0 (h w (Fr.refl _ _)).1,fun i hi=>wpOp_mono (fun a' w' hh=>Jo.sound f _ a' w' hh.2) ((h w (Fr.refl _ _)).2 i hi)⟩
theorem Jo.first (hC:∀ w w2,C w->Fr [] w w2->C w2) {i:Nat} {oi:Oper} {v:Value} (hi:ops[i]? = some oi) (hsel:Region.noSelect ops=true) (hLB:Wj md ops LA i=true)
  (hQ:∀ c a d v w,Q (.panic c) (a.put d v) w->Q (.panic c) a w):∀ (f:Nat) (listed:Array Bool) (a:Act) (w:World),
   (∀ j oj,ops[j]? = some oj->j≠i->listed.getD j true=false->(∀ e∈oj.after,Region.binds md e=true->e.on≠i)->oi.apart ops oj=true) ->
   i∈Region.ready md ops listed->Vu P ops C oi v a->C w ->
   Jo P md ops Q C LA g f (listed.setIfInBounds i true) (a.put oi.dst v) w->Jo P md ops Q C LA g (f+1) listed a w
 | f,listed,a,w,hfree,hr,hy,hw,H=>fun w2 h2=>by
  refine ⟨fun h=>Nw,fun j hj=>?_⟩;by_cases hji:j=i
  ·subst hji;exact hy.wpOp hi (hC _ _ hw h2) fun w' hw'=>⟨hC _ _ (hC _ _ hw h2) hw',H.more (h2.trans hw')⟩
  ·have hj':=ready_mono (i:=i) hj hji;obtain ⟨hjun,oj,hoj,hall⟩:=mem_ready.1 hj
   have hnot:∀ e∈oj.after,Region.binds md e=true->e.on≠i:=fun e he hb heq=>Au
   cases f with
   | zero =>
    have hLA:=(H w2 h2).1;exact Bq
   | succ f =>
    have h1:=(H w2 h2).2 j hj';have g2:=hy.other hoj (hfree j oj hoj hji hjun hnot) (fun cs b=>Region.noSelect_spec hsel i oi cs b hi) (fun cs b=>Region.noSelect_spec hsel j oj cs b hoj) hQ h1
    have hfree':∀ k ok,ops[k]? = some ok->k≠i->(listed.setIfInBounds j true).getD k true=false ->
      (∀ e∈ok.after,Region.binds md e=true->e.on≠i)->oi.apart ops ok=true:=fun k ok hk hki hun hno=>by
     refine hfree k ok hk hki ?_ hno
     by_cases hjk:j=k
     ·subst hjk;exact hjun
     ·rw [getD_set_ne true hjk] at hun;exact hun
    refine wpOp_mono (fun a' w' h3=>⟨h3.2.1,Jo.first hC hi hsel hLB hQ f (listed.setIfInBounds j true) a' w' hfree' (ready_mono hr (Ne.symm hji)) h3.1 h3.2.1 ?_⟩) g2;exact Ea
theorem Qe (hC:∀ w w2,C w->Fr [] w w2->C w2) (hs:Region.noSelect ops=true) (hQ:∀ c a d v w,Q (.panic c) (a.put d v) w->Q (.panic c) a w) {aE:Act} {n f:Nat} :
  ∀ (m:List Bool) (L:List Oper) (k:Nat) (listed:Array Bool) (a:Act) (w:World),(∀ j,L[j]? = ops[k+j]?)->Qn md ops k m listed=true->Y8 md ops LA k m=true->Tz n (sel m L)=true->a.tmps.size=n->C w ->
   (∀ wf,C wf->wpQuiet P ops (fun w'=>∃ s:In wf,w'=s.at_) (fun a'=>a'=aE) (sel m L) a)->Jo P md ops Q C LA g f (V7 k m listed) aE w->Jo P md ops Q C LA g (f+countB m) listed a w
 | [],L,k,listed,a,w,_,_,_,_,_,hw,h,H=>by
  have h0:a=aE:=by have:=h w hw;cases L <;> exact this
  subst h0;exact H
 | false :: m,[],k,listed,a,w,hL,hB,hW,hd,hn,hw,h,H=>Qe hC hs hQ m [] (k+1) listed a w (fun j=>by have:=hL (j+1);simpa [Nat.add_assoc,Nat.add_comm 1 j] using this) hB hW Ml hn hw (fun wf hf=>by have:=h wf hf;cases m with | nil=>exact this | cons b m=>cases b <;> exact this) H
 | false :: m,o :: L,k,listed,a,w,hL,hB,hW,hd,hn,hw,h,H=>Qe hC hs hQ m L (k+1) listed a w (fun j=>by have:=hL (j+1);simpa [Nat.add_assoc,Nat.add_comm 1 j] using this) hB hW hd hn hw h H
 | true :: m,[],k,listed,a,w,hL,hB,_,_,_,_,_,_=>by
  exfalso
  simp only [Qn,Bool.and_eq_true] at hB
  have hr:k∈Region.ready md ops listed:=by simpa using hB.1.1
  obtain ⟨_,o,ho,_⟩:=mem_ready.1 hr
  have:=hL 0
  simp [ho] at this
 | true :: m,o :: L,k,listed,a,w,hL,hB,hW,hd,hn,hw,h,H=>by
  simp only [Y8,Bool.and_eq_true] at hW
  obtain ⟨hW1,hW2⟩:=hW
  have h0:ops[k]? = some o:=by simpa using (hL 0).symm
  simp only [Qn,Bool.and_eq_true] at hB
  obtain ⟨⟨hr,hf⟩,hB'⟩:=hB
  simp only [sel,Tz,Bool.and_eq_true] at hd
  obtain ⟨hd1,hd2⟩:=hd
  -- the value,and what follows
  have key:∃ v,Vu P ops C o v a/\∀ wf,C wf->wpQuiet P ops (fun w'=>∃ s:In wf,w'=s.at_) (fun a'=>a'=aE) (sel m L) (a.put o.dst v):=by
   by_cases hw1:Region.wanted o (yielded ops a.tmps)=true
   ·have h':∀ wf,C wf->o.quiet P a (fun w'=>∃ s:In wf,w'=s.at_) (wpQuiet P ops (fun w'=>∃ s:In wf,w'=s.at_) (fun a'=>a'=aE) (sel m L)):=fun wf hf=>by
     have:=h wf hf
     simp only [sel,wpQuiet] at this
     rwa [qf hw1] at this
    obtain ⟨v,_,hv2⟩:=h' w hw
    have same:∀ wf,C wf->∀ u,wpQuiet P ops (fun w'=>∃ s:In wf,w'=s.at_) (fun a'=>a'=aE) (sel m L) (a.put o.dst u)->o.dst=none\/u=v:=fun wf hf u hu=>by
     cases hod:o.dst with
     | none=>exact .inl rfl
     | some d =>
      rw [hod] at hd1 hu hv2
      simp only [Bool.and_eq_true,decide_eq_true_eq] at hd1
      have e1:=vn (sel m L) _ hd1.2 hu
      have e2:=vn (sel m L) _ hd1.2 hv2
      have hlt:d<a.tmps.size:=by rw [hn];exact hd1.1
      rw [e1] at e2
      simp [Act.put,hlt] at e2
      exact .inr e2
    refine ⟨v,.inl ⟨hw1,fun wf hf=>?_⟩,fun wf hf=>?_⟩
    ·obtain ⟨u,hu1,hu2⟩:=h' wf hf
     refine ⟨u,?_,same wf hf u hu2⟩
     have hq:=hu1 wf ⟨⟨wf,Fr.refl _ _⟩,rfl⟩
     unfold Oper.quietAt at hq ⊢
     generalize (execOp a.eval o).run P wf=r at *
     cases r with
     | ok x w' =>
      cases x <;> simp only [Oper.quietUpon] at hq ⊢
      case value=>exact hq
      case skip=>exact hq
      case enter g args=>exact ⟨hq.1,hq.2.mono fun e w'' ⟨he,s,hs⟩=>⟨he,hs ▸ s.fr⟩⟩
     | halt x w'=>exact hq
    ·obtain ⟨u,_,hu2⟩:=h' wf hf
     rw [<- Zy (same wf hf u hu2)];exact hu2
   ·refine ⟨undef,.inr ⟨by simpa using hw1,rfl⟩,fun wf hf=>?_⟩
    have:=h wf hf
    simp only [sel,wpQuiet] at this
    rwa [qd hw1] at this
  obtain ⟨v,hy,hK⟩:=key
  exact Jo.first hC h0 hs hW1 hQ (f+countB m) listed a w (Region.free_spec h0 hf) O7 hy hw
   (Qe hC hs hQ m L (k+1) _ _ w (fun j=>by have:=hL (j+1);simpa [Nat.add_assoc,Nat.add_comm 1 j] using this) hB' hW2 hd2 Nu hw hK H)
end
section
variable {P:Program} {l:List Oper} {Q:Exit->Act->World->Prop} {C:World->Prop} {LA:Array Bool} {g:Nat}
theorem Sw (hC:∀ w w2,C w->Fr [] w w2->C w2) (m:List Bool) (f:Nat) {g' n:Nat} {listed listed':Array Bool} {a:Act} {w:World} (hf:f+countB m=g') (hs:Region.noSelect l.toArray=true) (hB:Qn .any l.toArray 0 m listed=true) (hW:Y8 .any l.toArray LA 0 m=true)
  (hd:Tz n (sel m l)=true) (hn:a.tmps.size=n) (hl:V7 0 m listed=listed') (hQ:∀ c a d v w,Q (.panic c) (a.put d v) w->Q (.panic c) a w) (hw:C w)
  (h:∃ aE,(∀ wf,C wf->wpQuiet P l.toArray (fun w'=>∃ s:In wf,w'=s.at_) (fun a'=>a'=aE) (sel m l) a)/\Jo P .any l.toArray Q C LA g f listed' aE w):Jo P .any l.toArray Q C LA g g' listed a w:=by
 subst hf;subst hl;obtain ⟨aE,h,H⟩:=h;exact Qe hC hs hQ m l 0 listed a w Ll hB hW hd hn hw h H
theorem ju (i:Nat) {o:Oper} {f:Nat} {listed listed':Array Bool} {a:Act} {w:World} (hr:Region.ready .any l.toArray listed=[i]) (ho:l[i]? = some o) (hl:listed.setIfInBounds i true=listed')
  (h:∀ w2,Fr [] w w2->wpList P l.toArray (Nx Q (fun a' w'=>C w'/\Jo P .any l.toArray Q C LA g f listed' a' w')) [o] a w2):Jo P .any l.toArray Q C LA g (f+1) listed a w:=by
 exact Dg
theorem Rl {k:Nat} {a:Act} {w:World} (hg:(l.drop k).length=g) (hB:Region.seqB .any l.toArray g k LA=true) (h:∀ w2,Fr [] w w2->wpList P l.toArray Q (l.drop k) a w2):Jo P .any l.toArray Q C LA g 0 LA a w:=Dz
theorem q2o {n:Nat} {listed:Array Bool} {a:Act} {w:World} (C:World->Prop) (LA:Array Bool) (f g:Nat) (hl:f+g=n) (h:Jo P .any l.toArray Q C LA g f listed a w):wpAny P .any l.toArray Q n listed a w:=by subst hl;exact Jo.sound _ _ _ _ h
theorem q5u {k:Nat} {a:Act} {w:World} (hd:(l.drop k).length=0) (hB:Region.seqB .any l.toArray 0 k LA=true) (h:∀ w2,Fr [] w w2->Q .normal a w2):Jo P .any l.toArray Q C LA 0 0 LA a w :=
 Rl hd hB (fun w2 h2=>by rw [List.eq_nil_of_length_eq_zero hd];exact h w2 h2)
end
end Go.Proofs.YthokjbikomjhgaaGreatDoor.Ar
namespace Go.Proofs.YthokjbikomjhgaaGreatDoor.Word
open Go.RowKit
def Dr (w w':World):Prop:=∃ m,w'=w.drewN m
theorem Dr.refl (w:World):Dr w w:=⟨0,rfl⟩
theorem Dr.trans {a b c:World} (h:Dr a b) (k:Dr b c):Dr a c:=by obtain ⟨m,rfl⟩:=h;obtain ⟨n,rfl⟩:=k;exact ⟨m+n,by rw [World.drewN_drewN]⟩
def Tab (w:World):Prop :=
 w.cell? ⟨2,0,none⟩=some (.int .i64 0)/\w.cell? ⟨2,1,none⟩=some (.int .i64 1073741824) /\
 w.cell? ⟨2,2,none⟩=some (.int .i64 0)/\w.cell? ⟨2,3,none⟩=some (.int .i64 1073741824) /\
 w.cell? ⟨2,4,none⟩=some (.int .i64 0)/\w.cell? ⟨2,5,none⟩=some (.int .i64 16777212) /\
 w.cell? ⟨2,6,none⟩=some (.int .i64 0)/\w.cell? ⟨2,7,none⟩=some (.int .i64 16777212) /\
 w.cell? ⟨2,8,none⟩=some (.int .i64 0)/\w.cell? ⟨2,9,none⟩=some (.int .i64 1048576) /\
 w.cell? ⟨2,10,none⟩=some (.int .i64 (-1))/\w.cell? ⟨2,11,none⟩=some (.int .i64 1048576)
theorem Tab.drew {w w':World} (h:Tab w) (d:Dr w w'):Tab w':=by obtain ⟨m,rfl⟩:=d;exact h
theorem Tab.drewN {w:World} (h:Tab w) (m:Nat):Tab (w.drewN m):=h
def Qa (lo hi n:Int):Int:=if hi<(if n<lo then lo else n) then hi else (if n<lo then lo else n)
theorem heldI_in {lo hi n:Int} (a:lo<=n) (b:n<=hi):Qa lo hi n=n:=by unfold Qa;rw [qd (by omega:¬ n<lo),qd Lj]
theorem Ye {lo hi:Int} (n:Int) (a:lo<=hi):lo<=Qa lo hi n/\Qa lo hi n<=hi:=by unfold Qa;split <;> split <;> omega
theorem heldI_lo {lo hi n:Int} (c:lo<=hi) (a:n<=lo):Qa lo hi n=lo:=by have h:=Ye n c;unfold Qa at h ⊢;split <;> split <;> omega
theorem heldI_hi {lo hi n:Int} (c:lo<=hi) (a:hi<=n):Qa lo hi n=hi:=by have h:=Ye n c;unfold Qa at h ⊢;split <;> split <;> omega
theorem J4 {k:IntKind} {a b:Int} {w w':World} (h:a=b) (d:Dr w w'):Ending.returned (.int k a) = .returned (.int k b)/\Dr w w':=⟨by rw [h],d⟩
theorem jd {k:IntKind} {a b:Int} {w:World} (h:a=b):Ending.returned (.int k a) = .returned (.int k b)/\w=w:=⟨by rw [h],rfl⟩
theorem ret_bool {a b:Bool} {w:World} (h:a=b):Ending.returned (.bool a) = .returned (.bool b)/\w=w:=⟨by rw [h],rfl⟩
/-! ### held: each row of the table -/
theorem held0 (n:Int) (w:World) (t:Tab w):Calls Tryz.prog 200 #[.int .i64 n,.int .i64 0] w fun e w'=>e = .returned (.int .i64 (Qa 0 1073741824 n))/\Dr w w':=by obtain ⟨h0,h1,-⟩:=t;exact Ap
theorem held1 (n:Int) (w:World) (t:Tab w):Calls Tryz.prog 200 #[.int .i64 n,.int .i64 1] w fun e w'=>e = .returned (.int .i64 (Qa 0 1073741824 n))/\Dr w w':=by obtain ⟨-,-,h0,h1,-⟩:=t;exact Ap
theorem held2 (n:Int) (w:World) (t:Tab w):Calls Tryz.prog 200 #[.int .i64 n,.int .i64 2] w fun e w'=>e = .returned (.int .i64 (Qa 0 16777212 n))/\Dr w w':=by obtain ⟨-,-,-,-,h0,h1,-⟩:=t;exact Ap
theorem held3 (n:Int) (w:World) (t:Tab w):Calls Tryz.prog 200 #[.int .i64 n,.int .i64 3] w fun e w'=>e = .returned (.int .i64 (Qa 0 16777212 n))/\Dr w w':=by obtain ⟨-,-,-,-,-,-,h0,h1,-⟩:=t;exact Ap
theorem held4 (n:Int) (w:World) (t:Tab w):Calls Tryz.prog 200 #[.int .i64 n,.int .i64 4] w fun e w'=>e = .returned (.int .i64 (Qa 0 1048576 n))/\Dr w w':=by obtain ⟨-,-,-,-,-,-,-,-,h0,h1,-⟩:=t;exact Ap
theorem held5 (n:Int) (w:World) (t:Tab w):Calls Tryz.prog 200 #[.int .i64 n,.int .i64 5] w fun e w'=>e = .returned (.int .i64 (Qa (-1) 1048576 n))/\Dr w w':=by obtain ⟨-,-,-,-,-,-,-,-,-,-,h0,h1⟩:=t;exact Ap
/-! ### join,upper,lower -/
theorem R8 (a b:Int) (i:Nat) (hi:i<=24) (h0:0<=a) (h1:a<=1073741824) (h2:0<=b) (h3:b<2 ^ i):wrap64 (bits .or .u64 (a * 2 ^ i) b)=a * 2 ^ i+b:=Av
theorem join1 (a b:Int) (w:World) (h0:0<=a) (h1:a<=1073741824) (h2:0<=b) (h3:b<2) :
  Calls Tryz.prog 230 #[.int .i64 a,.int .i64 b,.int .u64 1] w fun e w'=>e = .returned (.int .i64 (a * 2+b))/\w'=w:=by
 go_enter Tryz.func230,Tryz.ntmps230;go_wp2;go_ret;exact jd (R8 a b 1 Lr h0 h1 h2 h3)
theorem qe8 (a b:Int) (w:World) (h0:0<=a) (h1:a<=1073741824) (h2:0<=b) (h3:b<16777216) :
  Calls Tryz.prog 230 #[.int .i64 a,.int .i64 b,.int .u64 24] w fun e w'=>e = .returned (.int .i64 (a * 16777216+b))/\w'=w:=by
 go_enter Tryz.func230,Tryz.ntmps230;go_wp2;go_ret;exact jd (R8 a b 24 Lr h0 h1 h2 h3)
theorem join21 (a b:Int) (w:World) (h0:0<=a) (h1:a<=1073741824) (h2:0<=b) (h3:b<2097152) :
  Calls Tryz.prog 230 #[.int .i64 a,.int .i64 b,.int .u64 21] w fun e w'=>e = .returned (.int .i64 (a * 2097152+b))/\w'=w:=by
 go_enter Tryz.func230,Tryz.ntmps230;go_wp2;go_ret;exact jd (R8 a b 21 Lr h0 h1 h2 h3)
def un (a:Int):Int:=a % 18446744073709551616
theorem un_in {a:Int} (h0:0<=a) (h1:a<=9223372036854775807):un a=a:=by unfold un;omega
theorem W6 (a:Int):IntKind.u64.wrap a=un a:=IntKind.wrap_u64 a
theorem q9z (a:Int):0<=un a/\un a<18446744073709551616:=by unfold un;omega
theorem q5j (a d:Int) (hd:2<=d):wrap64 (IntKind.u64.wrap a / d)=un a / d:=by have hb:=q9z a;rw [W6];have h2:0<=un a / d:=Int.ediv_nonneg hb.1 Lj;have h1:=Int.ediv_mul_le (un a) (show d≠0 by omega);have h3:=Int.mul_le_mul_of_nonneg_left hd h2;exact IntWalk.wrap64_in _ ⟨by omega,by omega⟩
theorem qdu (a:Int) (w:World):Calls Tryz.prog 198 #[.int .i64 a,.int .u64 1] w fun e w'=>e = .returned (.int .i64 (un a / 2))/\w'=w:=by go_enter Tryz.func198,Tryz.ntmps198;go_wp2;go_ret;exact jd (q5j a 2 Lr)
theorem upper24 (a:Int) (w:World):Calls Tryz.prog 198 #[.int .i64 a,.int .u64 24] w fun e w'=>e = .returned (.int .i64 (un a / 16777216))/\w'=w:=by go_enter Tryz.func198,Tryz.ntmps198;go_wp2;go_ret;exact jd (q5j a 16777216 Lr)
theorem qc4 (a:Int) (w:World):Calls Tryz.prog 198 #[.int .i64 a,.int .u64 21] w fun e w'=>e = .returned (.int .i64 (un a / 2097152))/\w'=w:=by go_enter Tryz.func198,Tryz.ntmps198;go_wp2;go_ret;exact jd (q5j a 2097152 Lr)
theorem Ju (a:Int) (i m:Nat) (hm:m+1=2 ^ i) (hi:i<=24):wrap64 (bits .and .u64 (IntKind.u64.wrap a) (m:Int))=a % ((m+1:Nat):Int):=Am
theorem lower1 (a:Int) (w:World):Calls Tryz.prog 181 #[.int .i64 a,.int .u64 1] w fun e w'=>e = .returned (.int .i64 (a % 2))/\w'=w:=by go_enter Tryz.func181,Tryz.ntmps181;go_wp2;go_ret;exact jd (Ju a 1 1 Lr Lr)
theorem qax (a:Int) (w:World):Calls Tryz.prog 181 #[.int .i64 a,.int .u64 24] w fun e w'=>e = .returned (.int .i64 (a % 16777216))/\w'=w:=by go_enter Tryz.func181,Tryz.ntmps181;go_wp2;go_ret;exact jd (Ju a 24 16777215 Lr Lr)
theorem qbk (a:Int) (w:World):Calls Tryz.prog 181 #[.int .i64 a,.int .u64 21] w fun e w'=>e = .returned (.int .i64 (a % 2097152))/\w'=w:=by go_enter Tryz.func181,Tryz.ntmps181;go_wp2;go_ret;exact jd (Ju a 21 2097151 Lr Lr)
/-! ### The face -/
def bit (b:Bool):Int:=if b then 1 else 0
def nextI (p:Int) (b:Bool):Int:=Qa 0 1073741824 p * 2+bit b
def qd5 (v:Int):Int:=Qa 0 16777212 v+3
def q28 (s:Int):Int:=if s<3 then -1 else s - 3
def qdy (s p:Int):Int:=Qa 0 1073741824 s * 16777216+Qa 0 16777212 p
def dataI (d v:Int):Int:=Qa 0 1048576 d * 2097152+(Qa (-1) 1048576 v+1)
theorem Xk (s p:Int) (w:World) (t:Tab w):Calls Tryz.prog 204 #[.int .i64 s,.int .i64 p] w fun e w'=>e = .returned (.int .i64 (qdy s p))/\Dr w w':=by have hb:=Ye (lo:=0) (hi:=1073741824) s Lr;have hc:=Ye (lo:=0) (hi:=16777212) p Lr;go_enter Tryz.func204,Tryz.ntmps204;go_wp2_with fail;refine (held1 _ _ t).mono ?_;rintro e w' ⟨rfl,m,rfl⟩;go_wp2_with fail;refine (held3 _ _ (t.drewN _)).mono ?_;rintro e w' ⟨rfl,m2,rfl⟩;go_wp2_with fail;refine (qe8 _ _ _ hb.1 hb.2 hc.1 Lj).mono ?_;rintro e w' ⟨rfl,rfl⟩;go_wp2;go_ret;exact J4 rfl ⟨_,rfl⟩
theorem Qu (v:Int) (w:World) (t:Tab w):Calls Tryz.prog 160 #[.int .i64 v] w fun e w'=>e = .returned (.int .i64 (qd5 v))/\Dr w w':=by have hb:=Ye (lo:=0) (hi:=16777212) v Lr;go_enter Tryz.func160,Tryz.ntmps160;go_wp2_with fail;refine (held2 _ _ t).mono ?_;rintro e w' ⟨rfl,m,rfl⟩;go_wp2;go_ret;exact J4 rfl ⟨_,rfl⟩
theorem qc0 (s:Int) (w:World) (h:s<=9223372036854775807):Calls Tryz.prog 162 #[.int .i64 s] w fun e w'=>e = .returned (.int .i64 (q28 s))/\w'=w:=by
 by_cases c:s<3
 all_goals
  go_enter Tryz.func162,Tryz.ntmps162
  go_wp2
  go_ret
  exact jd (by unfold q28;first | rw [qf Lj] | rw [qd Lj])
theorem Xw (a:Int) (w:World):Calls Tryz.prog 154 #[.int .i64 a] w fun e w'=>e = .returned (.int .i64 (un a / 2))/\w'=w:=by go_enter Tryz.func154,Tryz.ntmps154;go_wp2_with fail;refine (qdu _ _).mono ?_;exact Ew
theorem Uf (a:Int) (w:World):Calls Tryz.prog 171 #[.int .i64 a] w fun e w'=>e = .returned (.int .i64 (un a / 2097152))/\w'=w:=by go_enter Tryz.func171,Tryz.ntmps171;go_wp2_with fail;refine (qc4 _ _).mono ?_;exact Ew
theorem Xp (a:Int) (w:World):Calls Tryz.prog 131 #[.int .i64 a] w fun e w'=>e = .returned (.int .i64 (a % 16777216))/\w'=w:=by go_enter Tryz.func131,Tryz.ntmps131;go_wp2_with fail;refine (qax _ _).mono ?_;exact Ew
theorem q1r (a:Int) (w:World):Calls Tryz.prog 172 #[.int .i64 a] w fun e w'=>e = .returned (.int .i64 (a % 2097152 - 1))/\w'=w:=by go_enter Tryz.func172,Tryz.ntmps172;go_wp2_with fail;refine (qbk _ _).mono ?_;exact Ew
def V7 (a:Int):Bool:=decide (a % 2=1)
end Go.Proofs.YthokjbikomjhgaaGreatDoor.Word
namespace Go.Proofs.YthokjbikomjhgaaGreatDoor.Ar
open Go.RowKit
section
variable {P:Program} {ops:Array Oper} {Q:Exit->Act->World->Prop} {md:Region.Mode} {w0:World} {S:List Nat} {LA:Array Bool} {g:Nat}
def Clo (md:Region.Mode) (ops:Array Oper) (listed:Array Bool):Prop:=∀ k ok,listed.getD k false=true->ops[k]? = some ok->∀ e∈ok.after,Region.binds md e=true->listed.getD e.on false=true
def cloB (md:Region.Mode) (ops:Array Oper) (listed:Array Bool):Bool:=(List.range listed.size).all fun k=>!(listed.getD k false) || (match ops[k]? with | none=>true | some ok=>ok.after.all fun e=>!(Region.binds md e) || listed.getD e.on false)
theorem q5w {listed:Array Bool} (h:cloB md ops listed=true):Clo md ops listed:=by
 intro k ok hk ho e he hb
 have hlt:k<listed.size:=Fh
 have:=List.all_eq_true.1 h k (List.mem_range.2 hlt);rw [hk,ho] at this;simp only [Bool.not_true,Bool.false_or,Array.all_eq_true] at this;obtain ⟨i,hi,rfl⟩:=Array.mem_iff_getElem.1 he;have h2:=this i hi;rw [hb] at h2;simpa using h2
theorem Clo.set {listed:Array Bool} {i:Nat} (h:Clo md ops listed) (hr:i∈Region.ready md ops listed):Clo md ops (listed.setIfInBounds i true):=by
 have keep:∀ k,listed.getD k false=true->(listed.setIfInBounds i true).getD k false=true:=fun k hk=>by
  by_cases e:i=k
  ·subst e;rcases Nat.lt_or_ge i listed.size with h' | h'
   ·simp [h']
   ·simp [Array.getElem?_eq_none h'] at hk
  ·rw [getD_set_ne false e];exact hk
 obtain ⟨_,o,ho,hall⟩:=mem_ready.1 hr;intro k ok hk hok e he hb;by_cases e1:i=k
 ·subst e1;rw [ho] at hok;cases hok;exact keep _ (hall e he hb)
 ·rw [getD_set_ne false e1] at hk;exact keep _ (h k ok hk hok e he hb)
def q8k (md:Region.Mode) (ops:Array Oper) (LA:Array Bool) (i:Nat):Bool:=Wj md ops LA i || ((List.range LA.size).any fun k=>LA.getD k false && (!(decide (k=i)) && Region.waitsFor md ops k i))
theorem q33 {i:Nat} (h:q8k md ops LA i=true):Wj md ops LA i=true\/∃ k ok,k<LA.size/\LA.getD k false=true/\k≠i/\ops[k]? = some ok/\∃ e∈ok.after,Region.binds md e=true/\e.on=i:=by
 unfold q8k at h;rcases Bool.or_eq_true_iff.1 h with h | h
 ·exact .inl h
 ·obtain ⟨k,hk,h2⟩:=List.any_eq_true.1 h;simp only [Bool.and_eq_true,Bool.not_eq_true',decide_eq_false_iff_not] at h2;obtain ⟨ok,h3,h4⟩:=Region.waitsFor_spec h2.2.2;have hlt:=List.mem_range.1 hk;exact .inr ⟨k,ok,hlt,h2.1,h2.2.1,h3,h4⟩
theorem Z3.firstT {i:Nat} {oi:Oper} {v:Value} (hi:ops[i]? = some oi) (hsel:Region.noSelect ops=true) (hLB:q8k md ops LA i=true)
  (hQ:∀ c a d v w,Q (.panic c) (a.put d v) w->Q (.panic c) a w):∀ (f:Nat) (listed:Array Bool) (a:Act) (w:World),
   (∀ j oj,ops[j]? = some oj->j≠i->listed.getD j true=false->(∀ e∈oj.after,Region.binds md e=true->e.on≠i)->oi.apart ops oj=true) ->
   Clo md ops listed->i∈Region.ready md ops listed->U9 P ops S w0 oi v a->Fr S w0 w ->
   Z3 P md ops Q S w0 LA g f (listed.setIfInBounds i true) (a.put oi.dst v) w->Z3 P md ops Q S w0 LA g (f+1) listed a w
 | f,listed,a,w,hfree,hcl,hr,hy,hw,H=>fun w2 h2=>by
  refine ⟨fun h=>Nw,fun j hj=>?_⟩;by_cases hji:j=i
  ·exact Cv
  ·have hj':=ready_mono (i:=i) hj hji;obtain ⟨hjun,oj,hoj,hall⟩:=mem_ready.1 hj
   have hnot:∀ e∈oj.after,Region.binds md e=true->e.on≠i:=fun e he hb heq=>Au
   cases f with
   | zero =>
    have hLA:=(H w2 h2).1;rcases q33 hLB with hLB | ⟨k,ok,klt,k1,k2,k3,e,he,hb,hon⟩
    ·exact Bq
    ·rw [<- hLA,getD_set_ne false (Ne.symm k2)] at k1;have c1:=hcl k ok k1 k3 e he hb;rw [hon] at c1;have g0:=(mem_ready.1 hr).1;rcases Nat.lt_or_ge i listed.size with h' | h'
     ·simp [h'] at g0 c1;rw [g0] at c1;cases c1
     ·have:=Array.getElem?_eq_none h';simp [this] at g0
   | succ f =>
    have h1:=(H w2 h2).2 j hj';have g2:=hy.other hoj (hfree j oj hoj hji hjun hnot) (fun cs b=>Region.noSelect_spec hsel i oi cs b hi) (fun cs b=>Region.noSelect_spec hsel j oj cs b hoj) hQ h1
    have hfree':∀ k ok,ops[k]? = some ok->k≠i->(listed.setIfInBounds j true).getD k true=false ->
      (∀ e∈ok.after,Region.binds md e=true->e.on≠i)->oi.apart ops ok=true:=fun k ok hk hki hun hno=>by
     refine hfree k ok hk hki ?_ hno
     by_cases hjk:j=k
     ·subst hjk;exact hjun
     ·rw [getD_set_ne true hjk] at hun;exact hun
    refine wpOp_mono (fun a' w' h3=>⟨h3.2.1,Z3.firstT hi hsel hLB hQ f (listed.setIfInBounds j true) a' w' hfree' (hcl.set hj) (ready_mono hr (Ne.symm hji)) h3.1 h3.2.1 ?_⟩) g2;exact Ea
def Sd (md:Region.Mode) (ops:Array Oper) (LA:Array Bool):Nat->List Bool->Bool
 | k,true :: m=>q8k md ops LA k && Sd md ops LA (k+1) m
 | k,false :: m=>Sd md ops LA (k+1) m
 | _,[]=>true
theorem Qd (hs:Region.noSelect ops=true) (hQ:∀ c a d v w,Q (.panic c) (a.put d v) w->Q (.panic c) a w) {aE:Act} {n f:Nat} :
  ∀ (m:List Bool) (L:List Oper) (k:Nat) (listed:Array Bool) (a:Act) (w:World),(∀ j,L[j]? = ops[k+j]?)->Clo md ops listed->Qn md ops k m listed=true->Sd md ops LA k m=true->Tz n (sel m L)=true->a.tmps.size=n->Fr S w0 w ->
   (∀ wf,Fr S w0 wf->wpQuiet P ops (fun w'=>∃ s:In wf,w'=s.at_) (fun a'=>a'=aE) (sel m L) a)->Z3 P md ops Q S w0 LA g f (V7 k m listed) aE w->Z3 P md ops Q S w0 LA g (f+countB m) listed a w
 | [],L,k,listed,a,w,_,_,_,_,_,_,_,h,H=>by
  exact Dj
 | false :: m,[],k,listed,a,w,hL,hC,hB,hW,hd,hn,hw,h,H=>Qd hs hQ m [] (k+1) listed a w (fun j=>by have:=hL (j+1);simpa [Nat.add_assoc,Nat.add_comm 1 j] using this) hC hB hW Ml hn hw (fun wf hf=>by have:=h wf hf;cases m with | nil=>exact this | cons b m=>cases b <;> exact this) H
 | false :: m,o :: L,k,listed,a,w,hL,hC,hB,hW,hd,hn,hw,h,H=>Qd hs hQ m L (k+1) listed a w (fun j=>by have:=hL (j+1);simpa [Nat.add_assoc,Nat.add_comm 1 j] using this) hC hB hW hd hn hw h H
 | true :: m,[],k,listed,a,w,hL,hC,hB,_,_,_,_,_,_=>by
  exfalso
  simp only [Qn,Bool.and_eq_true] at hB
  have hr:k∈Region.ready md ops listed:=by simpa using hB.1.1
  obtain ⟨_,o,ho,_⟩:=mem_ready.1 hr
  have:=hL 0
  simp [ho] at this
 | true :: m,o :: L,k,listed,a,w,hL,hC,hB,hW,hd,hn,hw,h,H=>by
  simp only [Sd,Bool.and_eq_true] at hW
  obtain ⟨hW1,hW2⟩:=hW
  have h0:ops[k]? = some o:=by simpa using (hL 0).symm
  simp only [Qn,Bool.and_eq_true] at hB
  obtain ⟨⟨hr,hf⟩,hB'⟩:=hB
  simp only [sel,Tz,Bool.and_eq_true] at hd
  obtain ⟨hd1,hd2⟩:=hd
  -- the value,and what follows
  have key:∃ v,U9 P ops S w0 o v a/\∀ wf,Fr S w0 wf->wpQuiet P ops (fun w'=>∃ s:In wf,w'=s.at_) (fun a'=>a'=aE) (sel m L) (a.put o.dst v):=by
   by_cases hw1:Region.wanted o (yielded ops a.tmps)=true
   ·have h':∀ wf,Fr S w0 wf->o.quiet P a (fun w'=>∃ s:In wf,w'=s.at_) (wpQuiet P ops (fun w'=>∃ s:In wf,w'=s.at_) (fun a'=>a'=aE) (sel m L)):=fun wf hf=>by
     have:=h wf hf
     simp only [sel,wpQuiet] at this
     rwa [qf hw1] at this
    obtain ⟨v,_,hv2⟩:=h' w0 (Fr.refl _ _)
    have same:∀ wf,Fr S w0 wf->∀ u,wpQuiet P ops (fun w'=>∃ s:In wf,w'=s.at_) (fun a'=>a'=aE) (sel m L) (a.put o.dst u)->o.dst=none\/u=v:=fun wf hf u hu=>by
     cases hod:o.dst with
     | none=>exact .inl rfl
     | some d =>
      rw [hod] at hd1 hu hv2
      simp only [Bool.and_eq_true,decide_eq_true_eq] at hd1
      have e1:=vn (sel m L) _ hd1.2 hu
      have e2:=vn (sel m L) _ hd1.2 hv2
      have hlt:d<a.tmps.size:=by rw [hn];exact hd1.1
      rw [e1] at e2
      simp [Act.put,hlt] at e2
      exact .inr e2
    refine ⟨v,.inl ⟨hw1,fun wf hf=>?_⟩,fun wf hf=>?_⟩
    ·obtain ⟨u,hu1,hu2⟩:=h' wf hf
     refine ⟨u,?_,same wf hf u hu2⟩
     have hq:=hu1 wf ⟨⟨wf,Fr.refl _ _⟩,rfl⟩
     unfold Oper.quietAt at hq ⊢
     generalize (execOp a.eval o).run P wf=r at *
     cases r with
     | ok x w' =>
      cases x <;> simp only [Oper.quietUpon] at hq ⊢
      case value=>exact hq
      case skip=>exact hq
      case enter g args=>exact ⟨hq.1,hq.2.mono fun e w'' ⟨he,s,hs⟩=>⟨he,hs ▸ s.fr⟩⟩
     | halt x w'=>exact hq
    ·obtain ⟨u,_,hu2⟩:=h' wf hf
     rw [<- Zy (same wf hf u hu2)];exact hu2
   ·refine ⟨undef,.inr ⟨by simpa using hw1,rfl⟩,fun wf hf=>?_⟩
    have:=h wf hf
    simp only [sel,wpQuiet] at this
    rwa [qd hw1] at this
  obtain ⟨v,hy,hK⟩:=key
  exact Z3.firstT h0 hs hW1 hQ (f+countB m) listed a w (Region.free_spec h0 hf) hC O7 hy hw
   (Qd hs hQ m L (k+1) _ _ w (fun j=>by have:=hL (j+1);simpa [Nat.add_assoc,Nat.add_comm 1 j] using this) (hC.set O7) hB' hW2 hd2 Nu hw hK H)
end
section
variable {P:Program} {l:List Oper} {Q:Exit->Act->World->Prop} {w0:World} {S:List Nat} {LA:Array Bool} {g:Nat}
theorem envT_pass (m:List Bool) (f:Nat) {g' n:Nat} {listed listed':Array Bool} {a:Act} {w:World} (hf:f+countB m=g') (hs:Region.noSelect l.toArray=true) (hC:cloB .any l.toArray listed=true) (hB:Qn .any l.toArray 0 m listed=true) (hW:Sd .any l.toArray LA 0 m=true)
  (hd:Tz n (sel m l)=true) (hn:a.tmps.size=n) (hl:V7 0 m listed=listed') (hQ:∀ c a d v w,Q (.panic c) (a.put d v) w->Q (.panic c) a w) (hw:Fr S w0 w)
  (h:∃ aE,(∀ wf,Fr S w0 wf->wpQuiet P l.toArray (fun w'=>∃ s:In wf,w'=s.at_) (fun a'=>a'=aE) (sel m l) a)/\Z3 P .any l.toArray Q S w0 LA g f listed' aE w):Z3 P .any l.toArray Q S w0 LA g g' listed a w:=by
 subst hf;subst hl;obtain ⟨aE,h,H⟩:=h;exact Qd hs hQ m l 0 listed a w Ll (q5w hC) hB hW hd hn hw h H
end
end Go.Proofs.YthokjbikomjhgaaGreatDoor.Ar
