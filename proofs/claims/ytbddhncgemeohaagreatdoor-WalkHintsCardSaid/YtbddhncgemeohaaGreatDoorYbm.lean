/- Parts. -/
import Derived.Test.YtbddhncgemeohaaGreatDoorYad
import Derived.Test.YtbddhncgemeohaaGreatDoorYae
import Derived.Test.YtbddhncgemeohaaGreatDoorYbi
set_option linter.unusedVariables false
set_option linter.unusedSimpArgs false
set_option maxRecDepth 100000
set_option maxHeartbeats 12800000
namespace Go.Proofs.YtbddhncgemeohaaGreatDoor.Ch
open Go.RowKit Ar Mx Vw
def fN (x:Int):List Value:=[.int .i64 x]
theorem Ub:Lays fN 1:=⟨fun _=>rfl,fun x u hu=>by simp [fN] at hu;subst hu;rfl,by decide⟩
theorem intN:(Tryz.prog.info? 3).map (fun i=>(i.zero,i.size,i.bytes))=some (some (.int .i64 0),1,8):=by kernel_rfl
end Go.Proofs.YtbddhncgemeohaaGreatDoor.Ch
namespace Go.Proofs.YtbddhncgemeohaaGreatDoor.Rf
open Go.RowKit Ar Mx Vw Ch Ref
theorem q5h (t wd v at_:Int) (n p q:Nat) (s:St) (w:World) (h1:1<=n) (h2:n<=16) (hA:Rar w p q s) :
  Calls Tryz.prog 36 #[.agg #[.int .i64 t,.int .i64 n,.int .i64 wd,.int .i64 v],.pointer (some ⟨p,0,none⟩),.int .i64 at_] w fun e w'=>e = .returned (.bool (Zh s.l.length n at_))/\Fr [] w w':=by
 obtain ⟨cap,hcap,r0,r1,r2,r3,r4,r5,r6,hc⟩:=Ref.Zy hA;have hlo:=hA.lo;have hhi:=hA.hi;have F0:=(Fr.refl [] w).alloc (.cells #[.int .i64 t,.int .i64 n,.int .i64 wd,.int .i64 v] 23);obtain ⟨c0,c1,c2,c3⟩:=Pl.xj (Ob.new w 23 #[.int .i64 t,.int .i64 n,.int .i64 wd,.int .i64 v]);have k0:=qc (F0.cell r0 Ma);have d0:=qc c0;have d1:=qc c1;have d2:=qc c2;have d3:=qc c3;have HZ:=qb (show ∀ wz,Calls Tryz.prog 39 #[.agg #[.int .i64 t,.int .i64 n,.int .i64 wd,.int .i64 v]] wz fun e w'=>e = .returned (.int .i64 (7+3 * n))/\Fr [] wz w' from fun wz=>Ref.X0 t n wd v Ly Ly wz);clear c0 c1 c2 c3 r0 r1 r2 r3 r4 r5 r6 hc;by_cases e0:0<=at_
 ·have q0:decide (at_≥0)=true:=decide_eq_true e0;have e:Zh s.l.length n at_=decide (at_<=(s.l.length:Int) - (7+3 * (n:Int))):=by unfold Zh;rw [decide_eq_true e0];simp
  rw [e];clear e;go_enter Tryz.func36,Tryz.ntmps36;go_wp2_with fail;generalize World.alloc w _=w1 at *;refine wiq ?_;repeat (go_big_quiet_step ((go_at_call 39;exact Calls.in_ (HZ.out _))))
  exact Et
 ·have q0:decide (at_≥0)=false:=decide_eq_false e0;have e:Zh s.l.length n at_=false:=by unfold Zh;rw [decide_eq_false e0];rfl
  rw [e];clear e;go_enter Tryz.func36,Tryz.ntmps36;go_wp2_with fail;generalize World.alloc w _=w1 at *;refine wiq ?_;repeat (go_big_quiet_step (fail))
  exact Et
def HasAt (w:World) (xs:List Int) (n:Int) (x:Value) (wr:World):Prop:=∃ i:Nat,i<=xs.length/\x = .int .i64 (i:Nat)/\(∀ j y,j<i->xs[j]? = some y->y≠n)/\Fr [] w wr
theorem q99 (xs:List Int) (u:Value) (n:Int) (w:World) (hl:xs.length<=100000) (hu:Sq fN w u xs) :
  Calls Tryz.prog 37 #[u,.int .i64 n] w fun e w'=>e = .returned (.bool (decide (n∈xs)))/\Fr [] w w':=by
 obtain ⟨a,cap,rfl,hcap,hm,-⟩:=id hu;have HU:=qb hu;clear hu;go_enter Tryz.func37,Tryz.ntmps37;go_wp2_with fail;go_loopw [5] (HasAt w xs n) (fun x _=>xs.length - (RowKit.intOf x).toNat);case atStart=>exact ⟨0,by omega,rfl,fun j y hj=>absurd hj (Nat.not_lt_zero _),Fr.refl _ _⟩
 case round =>
  obtain ⟨i,hi,rfl,hno,F⟩:=hrel;by_cases hlt:i<xs.length
  ·have q1:decide ((i:Int)<(xs.length:Int))=true:=by simp;omega
   have q2:decide (i<xs.length)=true:=decide_eq_true hlt;obtain ⟨x,hx⟩:∃ x,xs[i]? = some x:=⟨xs[i],List.getElem?_eq_getElem hlt⟩;obtain ⟨-,g,off,e,hc⟩:=Sq.cell Ub (HU.out.up F) hx;have hc0:wr.cell? ⟨g,off+i,none⟩=some (.int .i64 x):=by simpa using hc 0 _ rfl
   subst e;have HI:=qb (qd hno (qd hlt hx));have HF:=qb F;clear hno hx F hi hc;by_cases hxn:x=n
   ·have q3:(x == n)=true:=by simp [hxn]
    have HX:=qb hxn;clear hxn;go_wp2_with fail;go_ret;have hnm:n∈xs:=HX.out ▸ List.mem_of_getElem? HI.out.2.2;exact ⟨by rw [decide_eq_true hnm];rfl,HF.out⟩
   ·have q3:(x == n)=false:=by simpa using hxn
    have HX:=qb hxn;clear hxn;go_wp2_with fail;go_roundw
    case rel =>
     refine ⟨i+1,by omega,by go_num,fun j y hj hy=>?_,HF.out⟩;rcases Nat.lt_or_ge j i with h' | h'
     ·exact HI.out.1 j y h' hy
     ·obtain rfl:j=i:=by omega
      rw [HI.out.2.2] at hy;cases hy;exact HX.out
    case measure=>simp [RowKit.intOf];omega
    all_goals (exfalso;omega)
  ·have q1:decide ((i:Int)<(xs.length:Int))=false:=by simp;omega
   have q2:decide (i<xs.length)=false:=decide_eq_false hlt;have HI:=qb (qd hno hlt);have HF:=qb F;clear hno hlt F;go_wp2_with fail;go_ret
   have hnm:¬ n∈xs:=fun hm=>by obtain ⟨j,hj⟩:=List.mem_iff_getElem?.1 hm;have:=(List.getElem?_eq_some_iff.1 hj).1;exact HI.out.1 j n (by have:=HI.out.2;omega) hj rfl
   exact ⟨by rw [decide_eq_false hnm];rfl,HF.out⟩
def Zm (f:Int->Int) (len n:Nat):Nat->Int->List Int->List Int
 | 0,_,acc=>acc
 | k+1,a,acc=>if a=0\/Zh len n a=false\/a∈acc then acc else Zm f len n k (atW (f (a+2))) (acc++[a])
def Kn (f:Int->Int) (len n:Nat) (t:Int):List Int:=Zm f len n (len+1) (atW (f (9+t))) []
theorem Wl {f:Int->Int} {len n:Nat}:∀ (k:Nat) (a:Int) (acc:List Int),Ch.Told len n acc->Ch.Told len n (Zm f len n k a acc)
 | 0,_,_,h=>h
 | k+1,a,acc,h=>by
  unfold Zm;split
  ·exact h
  ·rename_i hn;simp only [not_or,Bool.not_eq_false] at hn;exact Wl k _ _ (h.add hn.2.1 hn.2.2)
theorem Jl (f:Int->Int) (len n:Nat) (t:Int):Ch.Told len n (Kn f len n t):=Wl _ _ _ (Ch.Told.nil _ _)
def qcu (s:St) (n:Nat) (t:Int) (B:Nat) (b:Nat) (cs:Array Value) (W:World) (u x:Value) (wr:World):Prop:=∃ (k:Nat) (a:Int) (acc:List Int),x = .int .i64 a/\wr.ownsRow B 3 1 u acc.length (acc.flatMap fN)/\Ch.Told s.l.length n acc/\k+acc.length=s.l.length+1/\Zm (qx s.l) s.l.length n k a acc=Kn (qx s.l) s.l.length n t/\Ob wr b 23 cs/\Fr [] W wr
theorem Uq (t wd v:Int) (n p q:Nat) (s:St) (w:World) (ht:1<=t) (ht2:t<=8) (h1:1<=n) (h2:n<=16) (hA:Rar w p q s) :
  Calls Tryz.prog 15 #[.agg #[.int .i64 t,.int .i64 n,.int .i64 wd,.int .i64 v],.pointer (some ⟨p,0,none⟩)] w fun e w'=>(∃ u,e = .returned u/\w'.ownsRow w.heap.size 3 1 u (Kn (qx s.l) s.l.length n t).length ((Kn (qx s.l) s.l.length n t).flatMap fN))/\Fr [] w w':=by
 have hlo:=hA.lo;have hhi:=hA.hi;have F0:=(Fr.refl [] w).alloc (.cells #[.int .i64 t,.int .i64 n,.int .i64 wd,.int .i64 v] 23);have o1:=Ob.new w 23 #[.int .i64 t,.int .i64 n,.int .i64 wd,.int .i64 v];have HR:=qb (fun (wz:World) (Fz:Fr [] w wz)=>hA.kept Fz);have HT:=qb (qd (qd ht ht2) (qd h1 h2));obtain ⟨c0,c1,c2,c3⟩:=Pl.xj o1;clear hA ht ht2 h1 h2;go_enter Tryz.func15,Tryz.ntmps15;go_wp2_with fail;generalize World.alloc w _=w1 at *;have hsz:=F0.size;generalize hb:w.heap.size=b at *;refine (Ref.Qb t n wd v HT.out.1.1 HT.out.1.2 _).mono ?_;rintro e w2 ⟨rfl,F2⟩;have G:=F0.trans F2;replace o1:=o1.up F2;have e9:wrap64 (3+t+4+2)=9+t:=by rw [w64 (by have:=HT.out.1;omega) (by have:=HT.out.1;omega)];omega
 clear F0 F2 c0 c1 c2 c3;go_wp2_with fail;refine (Ref.ja _ p q s _ (HR.out _ G)).mono ?_;rintro e _ ⟨rfl,rfl⟩;go_wp2_with fail;refine (Mx.Xb _ _).mono ?_;rintro e _ ⟨rfl,rfl⟩;have HG:=qb G;have HO:=qb o1;have HB:=qb (qd hb (qd hsz (qd hlo hhi)));have hst:Zm (qx s.l) s.l.length n (s.l.length+1) (atW (qx s.l (9+t))) []=Kn (qx s.l) s.l.length n t:=rfl;generalize atW (qx s.l (9+t))=a0 at *;have HS:=qb hst;clear G o1 hb hsz e9 hst;go_wp2_with fail;go_loopw [5,6] (fun u x wr=>qcu s n t w2.heap.size b #[.int .i64 t,.int .i64 n,.int .i64 wd,.int .i64 v] w2 u x wr) (fun u _ _=>s.l.length+1 - sliceLen u);case atStart=>exact ⟨_,a0,[],rfl,⟨rfl,.inl ⟨rfl,rfl⟩⟩,Ch.Told.nil _ _,by simp,HS.out,HO.out,Fr.refl _ _⟩
 case round =>
  obtain ⟨k,a,acc,rfl,hr,hT,hk,he,o2,F⟩:=hrel;have hacc:=hT.le;have HU:=qb (show sliceLen u5=acc.length by obtain ⟨a',c',e,-⟩:=kg hr;rw [e];rfl);obtain ⟨k,rfl⟩:∃ j,k=j+1:=⟨k - 1,by omega⟩;have HK:=qb (qd hk hacc);have HR2:=qb hr;have HO2:=qb o2;have HF:=qb F;clear hk hacc hr F;by_cases ea:a=0
  ·have hE:=qb (show Kn (qx s.l) s.l.length n t=acc by rw [<- he];unfold Zm;rw [qg (.inl ea)]);have g0:(a != 0)=false:=by simp [ea]
   clear ea he hT o2;go_wp2_with fail;go_ret;exact ⟨⟨_,rfl,by rw [hE.out];exact wu HR2.out HG.out.size⟩,HG.out.trans HF.out⟩
  ·have g0:(a != 0)=true:=by simpa using ea
   obtain ⟨c0,c1,c2,c3⟩:=Pl.xj o2;have HEA:=qb (qd ea (qd hT he));clear ea hT he o2;go_wp2_with fail;refine (q5h t wd v a n p q s _ HT.out.2.1 HT.out.2.2 (HR.out _ (HG.out.trans HF.out))).mono ?_;rintro e w5 ⟨rfl,F5⟩;have HF5:=qb (HF.out.trans F5);have HR5:=qb (qp HR2.out F5);have HO5:=qb (HO2.out.up F5);clear F5 c0 c1 c2 c3;cases htb:Zh s.l.length n a with
   | false =>
    have hE:=qb (show Kn (qx s.l) s.l.length n t=acc by rw [<- HEA.out.2.2];unfold Zm;rw [qg (.inr (.inl htb))]);clear htb;go_wp2_with fail;go_ret;exact ⟨⟨_,rfl,by rw [hE.out];exact wu HR5.out HG.out.size⟩,HG.out.trans HF5.out⟩
   | true =>
    have HTB:=qb htb;clear htb;go_wp2_with fail;refine (q99 acc u5 a _ (by have:=HK.out.2;have:=HB.out.2.2.2;omega) (Sq.own HR5.out)).mono ?_;rintro e w6 ⟨rfl,F6⟩;have HF6:=qb (HF5.out.trans F6);have HR6:=qb (qp HR5.out F6);have HO6:=qb (HO5.out.up F6);clear F6;by_cases hm:a∈acc
    ·have hE:=qb (show Kn (qx s.l) s.l.length n t=acc by rw [<- HEA.out.2.2];unfold Zm;rw [qg (.inr (.inr hm))]);rw [decide_eq_true hm];clear hm;go_wp2_with fail;go_ret;exact ⟨⟨_,rfl,by rw [hE.out];exact wu HR6.out HG.out.size⟩,HG.out.trans HF6.out⟩
    ·have HE:=qb (show Zm (qx s.l) s.l.length n k (atW (qx s.l (a+2))) (acc++[a])=Kn (qx s.l) s.l.length n t by rw [<- HEA.out.2.2];conv=>rhs;unfold Zm;rw [qf (by rintro (h | h | h);exact HEA.out.1 h;rw [HTB.out] at h;cases h;exact hm h)]);have HT2:=qb (HEA.out.2.1.add HTB.out hm);rw [decide_eq_false hm];clear hm;have GA:=(Fr.refl [] w6).alloc (.cells #[.int .i64 a] 3);have X4:=qp HR6.out GA;have X3:=(Sq.block (f:=fN) (xs:=[a]) (c:=1) (Ob.new w6 3 #[.int .i64 a]) rfl rfl (Nat.le_refl _) Mm);have EA:=HF6.out.trans GA;have hsA:=EA.size;have HO7:=qb (HO6.out.up GA);have hal:acc.length+1<=1000000:=by have:=HK.out.2;have:=HB.out.2.2.2;omega
     have HAL:=qb hal;clear GA hal;go_wp2_with (at_builtin;refine qw Ub rfl _ _ 25 rfl Tryz.underlying25 intN rfl (B:=w2.heap.size) u5 acc rfl X4 _ [a] rfl X3 HAL.out Mg hsA ?_;intro a9 c9 w9 r9 F9;generalize hTT:acc++[a]=T at r9 ⊢;have E9:=EA.own F9 (zh X4);have HTT:=qb hTT;clear hTT X3 X4 hsA EA);have hbd:=qdy HTB.out;rw [w64 (a:=a+2) Ly (by have:=HB.out.2.2.2;omega)];have HE9:=qb E9;have HR9:=qb r9;clear F9 r9 E9;refine (Ref.ja _ p q s _ (HR.out _ (HG.out.trans HE9.out))).mono ?_;rintro e _ ⟨rfl,rfl⟩;go_wp2_with fail;refine (Mx.Xb _ _).mono ?_;rintro e _ ⟨rfl,rfl⟩;have HV:=qb (Eq.refl (atW (qx s.l (a+2))));generalize atW (qx s.l (a+2))=a2 at HE HV ⊢;go_wp2_with fail;go_roundw;case rel=>exact ⟨k,a2,T,rfl,HR9.out,by rw [<- HTT.out];exact HT2.out,by rw [<- HTT.out,List.length_append,List.length_singleton];have:=HK.out.1;omega,by rw [<- HTT.out];exact HE.out,HO.out.up HE9.out,HE9.out⟩
     case measure =>
      show s.l.length+1 - sliceLen (.slice a9 T.length c9)<s.l.length+1 - sliceLen u5;rw [HU.out,show sliceLen (.slice a9 T.length c9)=T.length from rfl,<- HTT.out,List.length_append,List.length_singleton];have:=HK.out.2;omega
def ofW (f:Int->Int) (L:List Int) (key:Int):Int:=L.foldl (fun b x=>if f x<=key then x else b) 0
theorem Uj {f:Int->Int} {L:List Int} {i:Nat} {x:Int} (hx:L[i]? = some x) (key:Int):ofW f (L.take (i+1)) key=if f x<=key then x else ofW f (L.take i) key:=by unfold ofW;exact Hl
def OfAt (s:St) (L:List Int) (key:Int) (W:World) (bv x:Value) (wr:World):Prop:=∃ i:Nat,i<=L.length/\x = .int .i64 (i:Nat)/\bv = .int .i64 (ofW (qx s.l) (L.take i) key)/\Fr [] W wr
theorem q5l (t wd v key:Int) (n p q:Nat) (s:St) (w:World) (ht:1<=t) (ht2:t<=8) (h1:1<=n) (h2:n<=16) (hA:Rar w p q s) :
  Calls Tryz.prog 13 #[.agg #[.int .i64 t,.int .i64 n,.int .i64 wd,.int .i64 v],.pointer (some ⟨p,0,none⟩),.int .i64 key] w fun e w'=>e = .returned (.int .i64 (ofW (qx s.l) (Kn (qx s.l) s.l.length n t) key))/\Fr [] w w':=by
 have hlo:=hA.lo;have hhi:=hA.hi;have F0:=(Fr.refl [] w).alloc (.cells #[.int .i64 t,.int .i64 n,.int .i64 wd,.int .i64 v] 23);have o1:=Ob.new w 23 #[.int .i64 t,.int .i64 n,.int .i64 wd,.int .i64 v];have HR:=qb (fun (wz:World) (Fz:Fr [] w wz)=>hA.kept Fz);have HT:=qb (qd (qd ht ht2) (qd h1 h2));obtain ⟨c0,c1,c2,c3⟩:=Pl.xj o1;clear hA ht ht2 h1 h2;have hTo:=Jl (qx s.l) s.l.length n t;go_enter Tryz.func13,Tryz.ntmps13;go_wp2_with fail;generalize World.alloc w _=w1 at *;refine (Uq t wd v n p q s _ HT.out.1.1 HT.out.1.2 HT.out.2.1 HT.out.2.2 (HR.out _ F0)).mono ?_;rintro e w2 ⟨⟨u,rfl,hu⟩,F2⟩;have HG:=qb (F0.trans F2);have HTo:=qb hTo;have hll:=hTo.le;generalize hL:Kn (qx s.l) s.l.length n t=L at *;have HL:=qb hL;clear hL;have hs:=qb (Sq.own hu);obtain ⟨au,cu,rfl,-,-⟩:=kg hu;clear F0 F2 c0 c1 c2 c3 o1 hu hTo;go_wp2_with fail;go_loopw [8,9] (fun bv x wr=>OfAt s L key w2 bv x wr) (fun _ x _=>L.length - (RowKit.intOf x).toNat);case atStart=>exact ⟨0,by omega,rfl,rfl,Fr.refl _ _⟩
 case round =>
  obtain ⟨i,hi,rfl,rfl,F⟩:=hrel;by_cases hlt:i<L.length
  ·have q1:decide ((i:Int)<(L.length:Int))=true:=by simp;omega
   have q2:decide (i<L.length)=true:=decide_eq_true hlt;obtain ⟨x,hx⟩:∃ x,L[i]? = some x:=⟨L[i],List.getElem?_eq_getElem hlt⟩;have hbd:=qdy (HTo.out.at_ x (List.mem_of_getElem? hx));have hw:wrap64 x=x:=w64 Ly Ly;have hof:=Uj (f:=qx s.l) hx key;obtain ⟨-,g,off,e,hc⟩:=Sq.cell Ub (hs.out.up F) hx;have hc0:wr.cell? ⟨g,off+i,none⟩=some (.int .i64 x):=by simpa using hc 0 _ rfl
   subst e;have HI:=qb (qd hlt hof);have HF:=qb F;clear F hi hc hof hx;go_wp2_with fail;refine (Ref.ja _ p q s _ (HR.out _ (HG.out.trans HF.out))).mono ?_;rintro e _ ⟨rfl,rfl⟩;by_cases hk:qx s.l x<=key
   ·have q3:decide (qx s.l x<=key)=true:=decide_eq_true hk;have HN:=qb (HI.out.2.trans (qg hk));clear hk;exact Cn
   ·have q3:decide (qx s.l x<=key)=false:=decide_eq_false hk;have HN:=qb (HI.out.2.trans (qf hk));clear hk;generalize ofW (qx s.l) (L.take i) key=bx at *;exact Cn
  ·obtain rfl:i=L.length:=by omega
   have q1:decide ((L.length:Int)<(L.length:Int))=false:=by simp
   rw [List.take_length];have HF:=qb F;generalize hbx:ofW (qx s.l) L key=bx at *;have HBX:=qb hbx;clear F hbx;go_wp2_with fail;go_ret;exact ⟨by rw [HL.out,HBX.out];rfl,HG.out.trans HF.out⟩
end Go.Proofs.YtbddhncgemeohaaGreatDoor.Rf
namespace Go.Proofs.YtbddhncgemeohaaGreatDoor.Mx
open Go.RowKit Ar Ref Vw Ch Rf
structure Stl (c:Cf) (f:Int->Int) (L:List Int) (key:Int):Prop where
 ne:1<=L.length
 hd:∀ x,L[0]? = some x->f (zq c+2) / 2=x/\f x=0
 hb:0<=f (zq c+2)/\f (zq c+2)<=1000000000
 nx:∀ (i:Nat) x,L[i]? = some x->0<=f (x+2)/\f (x+2)<=1000000000/\(∀ y,L[i+1]? = some y->f (x+2) / 2=y/\f x<f y)/\(L[i+1]? = none->f (x+2) / 2=0)
 pos:∀ x∈L,zq c<x/\x<=100000
 up:∀ x∈L,0<=f x/\f x<64
 ht:f (yn c key)=0\/f (yn c key)∈L\/f (wrap64 (f (yn c key)+6))≠0
section
variable {c:Cf} {f:Int->Int} {L:List Int} {ky:Int}
theorem Stl.rise (h:Stl c f L ky):∀ (d i:Nat) x y,L[i]? = some x->L[i+1+d]? = some y->f x<f y
 | 0,i,x,y,hx,hy=>((h.nx i x hx).2.2.1 y hy).2
 | d+1,i,x,y,hx,hy=>by
  have hl:=(List.getElem?_eq_some_iff.1 hy).1;obtain ⟨z,hz⟩:∃ z,L[i+1+d]? = some z:=⟨L[i+1+d],List.getElem?_eq_getElem Ly⟩;have h1:=h.rise d i x z hx hz;have h2:=((h.nx (i+1+d) z hz).2.2.1 y (by rw [show i+1+d+1=i+1+(d+1) by omega];exact hy)).2;omega
theorem Stl.of (h:Stl c f L ky) {key:Int} {i:Nat} {x:Int} (hx:L[i]? = some x) (h1:f x<=key) (h2:∀ y,L[i+1]? = some y->key<f y):ofW f L key=x:=by
 have high:∀ j,i<j->∀ y,L[j]? = some y->key<f y:=fun j hj y hy=>by
  have hl:=(List.getElem?_eq_some_iff.1 hy).1;obtain ⟨z,hz⟩:∃ z,L[i+1]? = some z:=⟨L[i+1],List.getElem?_eq_getElem Ly⟩;have q:=h2 z hz;rcases Nat.eq_or_lt_of_le (show i+1<=j by omega) with e | e
  ·subst e;rw [hz] at hy;cases hy;exact q
  ·have:=h.rise (j - (i+2)) (i+1) z y hz (by rw [show i+1+1+(j - (i+2))=j by omega];exact hy);omega
 have step:∀ m,i+1+m<=L.length->ofW f (L.take (i+1+m)) key=x:=by
  intro m;induction m with
  | zero=>intro _;rw [Nat.add_zero,Uj hx,qg h1]
  | succ m ih =>
   intro hm;obtain ⟨z,hz⟩:∃ z,L[i+1+m]? = some z:=⟨L[i+1+m],List.getElem?_eq_getElem Ly⟩;have:=high (i+1+m) Ly z hz;rw [show i+1+(m+1)=i+1+m+1 by omega,Uj hz,qf Ly,ih Ly]
 have hl:=(List.getElem?_eq_some_iff.1 hx).1;have:=step (L.length - (i+1)) Ly;rw [show i+1+(L.length - (i+1))=L.length by omega,List.take_length] at this;exact this
structure WkT (c:Cf) (f:Int->Int) (L:List Int) (x:Wk) (k:Nat):Prop where
 cc:x.c=c
 key:0<=x.key/\x.key<=63
 ln:x.line=0\/x.live=true
 b1:x.line=1->4+2 * L.length<=k
 b2:x.line=2->(x.x∈L\/f (wrap64 (x.x+6))≠0)/\3+2 * L.length<=k
 b3:x.line=3->x.x∈L/\2+2 * L.length<=k
 b5:x.line=5->(x.cur=zq c/\1+2 * L.length<=k)\/∃ i,L[i]? = some x.cur/\f x.cur<=x.key/\1+2 * (L.length - 1 - i)<=k
 b6:x.line=6->(x.cur=zq c/\L[0]? = some x.n/\2 * L.length<=k)\/∃ i,L[i]? = some x.cur/\f x.cur<=x.key/\L[i+1]? = some x.n/\2 * (L.length - 1 - i)<=k
 b0:x.line=0->x.at_=ofW f L x.key/\x.at_∈L
theorem WkT.new (L:List Int) {key:Int} (hk:0<=key/\key<=63):WkT c f L (Wk.new c key) (4+2 * L.length) :=
 ⟨rfl,hk,.inr rfl,fun _=>Nat.le_refl _,fun k=>by simp [Wk.new] at k,fun k=>by simp [Wk.new] at k,fun k=>by simp [Wk.new] at k,fun k=>by simp [Wk.new] at k,fun k=>by simp [Wk.new] at k⟩
theorem WkT.next (hc:c.Ok) (h:Stl c f L ky) {x:Wk} {k:Nat} (hx:WkT c f L x k) (l5:x.line=5):atU (f x.looks)=atW (f x.looks):=by
 have e:x.looks=wrap64 (x.cur+2):=by unfold Wk.looks;simp [l5]
 have ht:=hc.t8;have ht1:=hc.t1;rw [e];rcases hx.b5 l5 with ⟨hcur,-⟩ | ⟨i,hi,-,-⟩
 ·rw [hcur,w64 Mw Mw];have:=h.hb;exact Hj
 ·have hp:=h.pos _ (List.mem_of_getElem? hi);unfold zq at hp;rw [w64 Ly Ly];have:=h.nx i _ hi;exact Hj
theorem WkT.step (hc:c.Ok) {s:St} (h:Stl c (qx s.l) L ky) {x:Wk} {k:Nat} (hf:WkT c (qx s.l) L x k) (hxk:x.key=ky) (h0:x.line≠0):1<=k/\WkT c (qx s.l) L (x.step s).1 (k - 1):=by
 have hl:x.live=true:=hf.ln.resolve_left h0;have hlv:=hl;unfold Wk.live at hlv;simp only [Bool.or_eq_true,decide_eq_true_eq] at hlv;have hne:=h.ne;have ht8:=hc.t8;have ht1:=hc.t1;have hky:=hf.key;have e:(x.step s).1=x.next (qx s.l x.looks):=by unfold Wk.step;rw [qg hl]
 rw [e];generalize hff:qx s.l=f at *
 have head5:∀ (y:Wk) (j:Nat),y.c=c->y.key=x.key->1+2 * L.length<=j->WkT c f L y.head j:=fun y j e1 ek e2 =>
  ⟨e1,by show 0<=y.key/\y.key<=63;omega,.inr rfl,fun q=>by simp [Wk.head] at q,fun q=>by simp [Wk.head] at q,fun q=>by simp [Wk.head] at q,fun _=>.inl ⟨by show zq y.c=zq c;rw [e1],e2⟩,fun q=>by simp [Wk.head] at q,fun q=>by simp [Wk.head] at q⟩
 have ends0:∀ (y:Wk) (i j:Nat),y.c=c->y.key=x.key->L[i]? = some y.cur->f y.cur<=x.key->(∀ z,L[i+1]? = some z->x.key<f z)->WkT c f L y.ends j:=fun y i j e1 ek e2 e3 e4 =>
  ⟨e1,by show 0<=y.key/\y.key<=63;omega,.inl rfl,fun q=>by simp [Wk.ends] at q,fun q=>by simp [Wk.ends] at q,fun q=>by simp [Wk.ends] at q,fun q=>by simp [Wk.ends] at q,fun q=>by simp [Wk.ends] at q,fun _=>⟨by show y.cur=ofW f L y.key;rw [ek];exact (h.of e2 e3 e4).symm,List.mem_of_getElem? e2⟩⟩
 have at5:∀ (y:Wk) (i j:Nat),y.c=c->y.key=x.key->y.line=5->L[i]? = some y.cur->f y.cur<=x.key->1+2 * (L.length - 1 - i)<=j->WkT c f L y j:=fun y i j e1 ek el e2 e3 e4 =>
  ⟨e1,by rw [ek];exact hky,.inr (by unfold Wk.live;simp [el]),fun q=>by omega,fun q=>by exfalso;omega,fun q=>by exfalso;omega,fun _=>.inr ⟨i,e2,by rw [ek];exact e3,e4⟩,fun q=>by exfalso;omega,fun q=>by exfalso;omega⟩
 unfold Wk.next;rcases (by omega:x.line=1\/x.line=2\/x.line=3\/x.line=5\/x.line=6) with l1 | l2 | l3 | l5 | l6
 ·have hk:=hf.b1 l1;refine ⟨by omega,?_⟩;have lk:x.looks=yn c x.key:=by unfold Wk.looks;rw [qg l1,hf.cc]
  rw [lk,qg l1];split
  ·exact Hb
  ·rename_i v0;exact ⟨hf.cc,hky,.inr rfl,fun q=>by simp at q,fun _=>⟨(hxk.symm ▸ h.ht:_).resolve_left v0,by omega⟩,fun q=>by simp at q,fun q=>by simp at q,fun q=>by simp at q,fun q=>by simp at q⟩
 ·obtain ⟨hB,hk⟩:=hf.b2 l2;refine ⟨by omega,?_⟩;have lk:x.looks=wrap64 (x.x+6):=by unfold Wk.looks;rw [qf Ly,qg l2]
  rw [lk,qf Ly,qg l2];split
  ·rename_i v0;exact ⟨hf.cc,hky,.inr rfl,fun q=>by simp at q,fun q=>by simp at q,fun _=>⟨hB.resolve_right (fun q=>q v0),by omega⟩,fun q=>by simp at q,fun q=>by simp at q,fun q=>by simp at q⟩
  ·exact Hb
 ·obtain ⟨hm,hk⟩:=hf.b3 l3;refine ⟨by omega,?_⟩;have hp:=h.pos _ hm;unfold zq at hp;have lk:x.looks=x.x:=by unfold Wk.looks;rw [qf Ly,qf Ly,qg l3,w64 Ly Ly]
  rw [lk,qf Ly,qf Ly,qg l3];split
  ·rename_i hv;obtain ⟨i,hi⟩:=List.mem_iff_getElem?.1 hm;exact at5 { x with cur:=x.x,line:=5 } i _ hf.cc rfl rfl hi hv Ly
  ·exact Hb
 ·have hk:=hf.b5 l5;rcases hk with ⟨hcur,hk⟩ | ⟨i,hi,hm,hk⟩
  ·refine ⟨by omega,?_⟩;have lk:x.looks=zq c+2:=by unfold Wk.looks;rw [qf Ly,qf Ly,qf Ly,qg l5,hcur,w64 Mw Mw]
   rw [lk,qf Ly,qf Ly,qf Ly,qg l5];obtain ⟨a,ha⟩:∃ a,L[0]? = some a:=⟨L[0],List.getElem?_eq_getElem Ly⟩;have hh:=h.hd a ha;have hp:=h.pos a (List.mem_of_getElem? ha);have ea:atW (f (zq c+2))=a:=hh.1;rw [ea,qf (by unfold zq at hp;omega)];exact ⟨hf.cc,hky,.inr rfl,fun q=>by simp at q,fun q=>by simp at q,fun q=>by simp at q,fun q=>by simp at q,fun _=>.inl ⟨hcur,ha,by omega⟩,fun q=>by simp at q⟩
  ·refine ⟨by omega,?_⟩;have hp:=h.pos _ (List.mem_of_getElem? hi);have lk:x.looks=x.cur+2:=by unfold Wk.looks;unfold zq at hp;rw [qf Ly,qf Ly,qf Ly,qg l5,w64 Ly Ly]
   have hil:=(List.getElem?_eq_some_iff.1 hi).1;obtain ⟨-,-,n1,n2⟩:=h.nx i _ hi;rw [lk,qf Ly,qf Ly,qf Ly,qg l5,show atW (f (x.cur+2))=f (x.cur+2) / 2 from rfl];split
   ·rename_i v0;refine ends0 _ i _ (by exact hf.cc) rfl hi hm (fun z hz=>?_);have q1:=(n1 z hz).1;have q2:=h.pos z (List.mem_of_getElem? hz);unfold zq at q2;omega
   ·rename_i v0
    have hi2:L[i+1]? = some (f (x.cur+2) / 2):=by
     cases q:L[i+1]? with
     | none=>exact absurd (n2 q) v0
     | some y=>rw [(n1 y q).1]
    exact ⟨hf.cc,hky,.inr rfl,fun q=>by simp at q,fun q=>by simp at q,fun q=>by simp at q,fun q=>by simp at q,fun _=>.inr ⟨i,hi,hm,hi2,by have:=(List.getElem?_eq_some_iff.1 hi2).1;omega⟩,fun q=>by simp at q⟩
 ·have hk:=hf.b6 l6
  have lkn:∀ m,L[m]? = some x.n->x.looks=x.n:=fun m hm=>by have hp:=h.pos _ (List.mem_of_getElem? hm);unfold zq at hp;unfold Wk.looks;rw [qf Ly,qf Ly,qf Ly,qf Ly,w64 Ly Ly]
  rcases hk with ⟨hcur,hL0,hk⟩ | ⟨i,hi,hm,hi2,hk⟩
  ·refine ⟨by omega,?_⟩;rw [lkn 0 hL0,qf Ly,qf Ly,qf Ly,qf Ly];have h00:=(h.hd _ hL0).2;rw [qg Ly];exact at5 { x with cur:=x.n,line:=5 } 0 _ hf.cc rfl rfl hL0 (by show f x.n<=x.key;omega) Ly
  ·have hil2:=(List.getElem?_eq_some_iff.1 hi2).1;refine ⟨by omega,?_⟩;rw [lkn (i+1) hi2,qf Ly,qf Ly,qf Ly,qf Ly];split
   ·rename_i hv;exact at5 { x with cur:=x.n,line:=5 } (i+1) _ hf.cc rfl rfl hi2 hv Ly
   ·rename_i hv;refine ends0 _ i _ hf.cc rfl hi hm (fun z hz=>?_);rw [hi2] at hz;cases hz;omega
end
end Go.Proofs.YtbddhncgemeohaaGreatDoor.Mx
