/- Parts. -/
import Derived.Test.YtleclbldlladmaaGreatVad
import Derived.Test.YtleclbldlladmaaGreatVbh
import Derived.Carry
set_option linter.unusedVariables false
set_option linter.unusedSimpArgs false
set_option maxRecDepth 100000
set_option maxHeartbeats 12800000
namespace Go.Proofs.YtleclbldlladmaaGreat.Ch
open Go.RowKit Ar Mx Vw
theorem Xt (a:Int) (w:World):Calls Tryz.prog 35 #[.int .i64 a] w fun e w'=>e = .returned (.int .i64 (atU a))/\w=w' :=
 (Word.Xt a w).mono (by rintro e w' ⟨rfl,rfl⟩;exact ⟨rfl,rfl⟩)
def sliceLen:Value->Nat
 | .slice _ n _=>n
 | _=>0
def fN (x:Int):List Value:=[.int .i64 x]
theorem q68:Lays fN 1:=⟨fun _=>rfl,fun x u hu=>by simp [fN] at hu;subst hu;rfl,by decide⟩
theorem intN:(Tryz.prog.info? 3).map (fun i=>(i.zero,i.size,i.bytes))=some (some (.int .i64 0),1,8):=by kernel_rfl
end Go.Proofs.YtleclbldlladmaaGreat.Ch
namespace Go.Proofs.YtleclbldlladmaaGreat.Rf
open Go.RowKit Ar Mx Vw Ch Ref
theorem q6w (t wd v at_:Int) (n p q:Nat) (s:St) (w:World) (h1:1<=n) (h2:n<=16) (hA:Rar w p q s) :
  Calls Tryz.prog 38 #[.agg #[.int .i64 t,.int .i64 n,.int .i64 wd,.int .i64 v],.pointer (some ⟨p,0,none⟩),.int .i64 at_] w fun e w'=>e = .returned (.bool (Z9 s.l.length n at_))/\Fr [] w w':=by
 obtain ⟨cap,hcap,r0,r1,r2,r3,r4,r5,r6,hc⟩:=Ref.Xj hA;have hlo:=hA.lo;have hhi:=hA.hi;have F0:=(Fr.refl [] w).alloc (.cells #[.int .i64 t,.int .i64 n,.int .i64 wd,.int .i64 v] 23);obtain ⟨c0,c1,c2,c3⟩:=Pl.yu (Ob.new w 23 #[.int .i64 t,.int .i64 n,.int .i64 wd,.int .i64 v]);have k0:=qb (F0.cell r0 Lc);have d0:=qb c0;have d1:=qb c1;have d2:=qb c2;have d3:=qb c3;have HZ:=q9 (show ∀ wz,Calls Tryz.prog 18 #[.agg #[.int .i64 t,.int .i64 n,.int .i64 wd,.int .i64 v]] wz fun e w'=>e = .returned (.int .i64 (7+3 * n))/\Fr [] wz w' from fun wz=>Ref.Zq t n wd v Lb Lb wz);clear c0 c1 c2 c3 r0 r1 r2 r3 r4 r5 r6 hc;by_cases e0:0<=at_
 ·have q0:decide (at_≥0)=true:=decide_eq_true e0;have e:Z9 s.l.length n at_=decide (at_<=(s.l.length:Int) - (7+3 * (n:Int))):=by unfold Z9;rw [decide_eq_true e0];simp
  rw [e];clear e;go_enter Tryz.func38,Tryz.ntmps38;go_wp2_with fail;generalize World.alloc w _=w1 at *;refine wiq ?_;repeat (go_big_quiet_step ((go_at_call 18;exact Calls.in_ (HZ.out _))))
  exact Eo
 ·have q0:decide (at_≥0)=false:=decide_eq_false e0;have e:Z9 s.l.length n at_=false:=by unfold Z9;rw [decide_eq_false e0];rfl
  rw [e];clear e;go_enter Tryz.func38,Tryz.ntmps38;go_wp2_with fail;generalize World.alloc w _=w1 at *;refine wiq ?_;repeat (go_big_quiet_step (fail))
  exact Eo
def HasAt (w:World) (xs:List Int) (n:Int) (x:Value) (wr:World):Prop:=∃ i:Nat,i<=xs.length/\x = .int .i64 (i:Nat)/\(∀ j y,j<i->xs[j]? = some y->y≠n)/\Fr [] w wr
theorem q9n (xs:List Int) (u:Value) (n:Int) (w:World) (hl:xs.length<=100000) (hu:Sq fN w u xs) :
  Calls Tryz.prog 39 #[u,.int .i64 n] w fun e w'=>e = .returned (.bool (decide (n∈xs)))/\Fr [] w w':=by
 obtain ⟨a,cap,rfl,hcap,hm,-⟩:=id hu;have HU:=q9 hu;clear hu;go_enter Tryz.func39,Tryz.ntmps39;go_wp2_with fail;go_loopw [5] (HasAt w xs n) (fun x _=>xs.length - (RowKit.intOf x).toNat);case atStart=>exact ⟨0,by omega,rfl,fun j y hj=>absurd hj (Nat.not_lt_zero _),Fr.refl _ _⟩
 case round =>
  obtain ⟨i,hi,rfl,hno,F⟩:=hrel;by_cases hlt:i<xs.length
  ·have q1:decide ((i:Int)<(xs.length:Int))=true:=by simp;omega
   have q2:decide (i<xs.length)=true:=decide_eq_true hlt;obtain ⟨x,hx⟩:∃ x,xs[i]? = some x:=⟨xs[i],List.getElem?_eq_getElem hlt⟩;obtain ⟨-,g,off,e,hc⟩:=Sq.cell q68 (HU.out.up F) hx;have hc0:wr.cell? ⟨g,off+i,none⟩=some (.int .i64 x):=by simpa using hc 0 _ rfl
   subst e;have HI:=q9 (qc hno (qc hlt hx));have HF:=q9 F;clear hno hx F hi hc;by_cases hxn:x=n
   ·have q3:(x == n)=true:=by simp [hxn]
    have HX:=q9 hxn;clear hxn;go_wp2_with fail;go_ret;have hnm:n∈xs:=HX.out ▸ List.mem_of_getElem? HI.out.2.2;exact ⟨by rw [decide_eq_true hnm];rfl,HF.out⟩
   ·have q3:(x == n)=false:=by simpa using hxn
    have HX:=q9 hxn;clear hxn;go_wp2_with fail;go_roundw
    case rel =>
     refine ⟨i+1,by omega,by go_num,fun j y hj hy=>?_,HF.out⟩;rcases Nat.lt_or_ge j i with h' | h'
     ·exact HI.out.1 j y h' hy
     ·obtain rfl:j=i:=by omega
      rw [HI.out.2.2] at hy;cases hy;exact HX.out
    case measure=>simp [RowKit.intOf];omega
    all_goals (exfalso;omega)
  ·have q1:decide ((i:Int)<(xs.length:Int))=false:=by simp;omega
   have q2:decide (i<xs.length)=false:=decide_eq_false hlt;have HI:=q9 (qc hno hlt);have HF:=q9 F;clear hno hlt F;go_wp2_with fail;go_ret
   have hnm:¬ n∈xs:=fun hm=>by obtain ⟨j,hj⟩:=List.mem_iff_getElem?.1 hm;have:=(List.getElem?_eq_some_iff.1 hj).1;exact HI.out.1 j n (by have:=HI.out.2;omega) hj rfl
   exact ⟨by rw [decide_eq_false hnm];rfl,HF.out⟩
def Kl (f:Int->Int) (len n:Nat):Nat->Int->List Int->List Int
 | 0,_,acc=>acc
 | k+1,a,acc=>if a=0\/Z9 len n a=false\/a∈acc then acc else Kl f len n k (atW (f (a+2))) (acc++[a])
def q93 (f:Int->Int) (len n:Nat) (t:Int):List Int:=Kl f len n (len+1) (atW (f (9+t))) []
theorem Wn {f:Int->Int} {len n:Nat}:∀ (k:Nat) (a:Int) (acc:List Int),Ch.Told len n acc->Ch.Told len n (Kl f len n k a acc)
 | 0,_,_,h=>h
 | k+1,a,acc,h=>by
  unfold Kl;split
  ·exact h
  ·rename_i hn;simp only [not_or,Bool.not_eq_false] at hn;exact Wn k _ _ (h.add hn.2.1 hn.2.2)
theorem allW_told (f:Int->Int) (len n:Nat) (t:Int):Ch.Told len n (q93 f len n t):=Wn _ _ _ (Ch.Told.nil _ _)
def qcv (s:St) (n:Nat) (t:Int) (B:Nat) (b:Nat) (cs:Array Value) (W:World) (u x:Value) (wr:World):Prop:=∃ (k:Nat) (a:Int) (acc:List Int),x = .int .i64 a/\wr.ownsRow B 3 1 u acc.length (acc.flatMap fN)/\Ch.Told s.l.length n acc/\k+acc.length=s.l.length+1/\Kl (qw s.l) s.l.length n k a acc=q93 (qw s.l) s.l.length n t/\Ob wr b 23 cs/\Fr [] W wr
theorem rall_any (t wd v:Int) (n p q:Nat) (s:St) (w:World) (ht:1<=t) (ht2:t<=8) (h1:1<=n) (h2:n<=16) (hA:Rar w p q s) :
  Calls Tryz.prog 17 #[.agg #[.int .i64 t,.int .i64 n,.int .i64 wd,.int .i64 v],.pointer (some ⟨p,0,none⟩)] w fun e w'=>(∃ u,e = .returned u/\w'.ownsRow w.heap.size 3 1 u (q93 (qw s.l) s.l.length n t).length ((q93 (qw s.l) s.l.length n t).flatMap fN))/\Fr [] w w':=by
 have hlo:=hA.lo;have hhi:=hA.hi;have F0:=(Fr.refl [] w).alloc (.cells #[.int .i64 t,.int .i64 n,.int .i64 wd,.int .i64 v] 23);have o1:=Ob.new w 23 #[.int .i64 t,.int .i64 n,.int .i64 wd,.int .i64 v];have HR:=q9 (fun (wz:World) (Fz:Fr [] w wz)=>hA.kept Fz);have HT:=q9 (qc (qc ht ht2) (qc h1 h2));obtain ⟨c0,c1,c2,c3⟩:=Pl.yu o1;clear hA ht ht2 h1 h2;go_enter Tryz.func17,Tryz.ntmps17;go_wp2_with fail;generalize World.alloc w _=w1 at *;have hsz:=F0.size;generalize hb:w.heap.size=b at *;refine (Ref.Qm t n wd v HT.out.1.1 HT.out.1.2 _).mono ?_;rintro e w2 ⟨rfl,F2⟩;have G:=F0.trans F2;replace o1:=o1.up F2;have e9:wrap64 (3+t+4+2)=9+t:=by rw [w64 (by have:=HT.out.1;omega) (by have:=HT.out.1;omega)];omega
 clear F0 F2 c0 c1 c2 c3;go_wp2_with fail;refine (Ref.yx _ p q s _ (HR.out _ G)).mono ?_;rintro e _ ⟨rfl,rfl⟩;go_wp2_with fail;refine (Mx.Xt _ _).mono ?_;rintro e _ ⟨rfl,rfl⟩;have HG:=q9 G;have HO:=q9 o1;have HB:=q9 (qc hb (qc hsz (qc hlo hhi)));have hst:Kl (qw s.l) s.l.length n (s.l.length+1) (atW (qw s.l (9+t))) []=q93 (qw s.l) s.l.length n t:=rfl;generalize atW (qw s.l (9+t))=a0 at *;have HS:=q9 hst;clear G o1 hb hsz e9 hst;go_wp2_with fail;go_loopw [5,6] (fun u x wr=>qcv s n t w2.heap.size b #[.int .i64 t,.int .i64 n,.int .i64 wd,.int .i64 v] w2 u x wr) (fun u _ _=>s.l.length+1 - sliceLen u);case atStart=>exact ⟨_,a0,[],rfl,⟨rfl,.inl ⟨rfl,rfl⟩⟩,Ch.Told.nil _ _,by simp,HS.out,HO.out,Fr.refl _ _⟩
 case round =>
  obtain ⟨k,a,acc,rfl,hr,hT,hk,he,o2,F⟩:=hrel;have hacc:=hT.le;have HU:=q9 (show sliceLen u5=acc.length by obtain ⟨a',c',e,-⟩:=Qn hr;rw [e];rfl);obtain ⟨k,rfl⟩:∃ j,k=j+1:=⟨k - 1,by omega⟩;have HK:=q9 (qc hk hacc);have HR2:=q9 hr;have HO2:=q9 o2;have HF:=q9 F;clear hk hacc hr F;by_cases ea:a=0
  ·have hE:=q9 (show q93 (qw s.l) s.l.length n t=acc by rw [<- he];unfold Kl;rw [qf (.inl ea)]);have g0:(a != 0)=false:=by simp [ea]
   clear ea he hT o2;go_wp2_with fail;go_ret;exact ⟨⟨_,rfl,by rw [hE.out];exact kw HR2.out HG.out.size⟩,HG.out.trans HF.out⟩
  ·have g0:(a != 0)=true:=by simpa using ea
   obtain ⟨c0,c1,c2,c3⟩:=Pl.yu o2;have HEA:=q9 (qc ea (qc hT he));clear ea hT he o2;go_wp2_with fail;refine (q6w t wd v a n p q s _ HT.out.2.1 HT.out.2.2 (HR.out _ (HG.out.trans HF.out))).mono ?_;rintro e w5 ⟨rfl,F5⟩;have HF5:=q9 (HF.out.trans F5);have HR5:=q9 (qo HR2.out F5);have HO5:=q9 (HO2.out.up F5);clear F5 c0 c1 c2 c3;cases htb:Z9 s.l.length n a with
   | false =>
    have hE:=q9 (show q93 (qw s.l) s.l.length n t=acc by rw [<- HEA.out.2.2];unfold Kl;rw [qf (.inr (.inl htb))]);clear htb;go_wp2_with fail;go_ret;exact ⟨⟨_,rfl,by rw [hE.out];exact kw HR5.out HG.out.size⟩,HG.out.trans HF5.out⟩
   | true =>
    have HTB:=q9 htb;clear htb;go_wp2_with fail;refine (q9n acc u5 a _ (by have:=HK.out.2;have:=HB.out.2.2.2;omega) (Sq.own HR5.out)).mono ?_;rintro e w6 ⟨rfl,F6⟩;have HF6:=q9 (HF5.out.trans F6);have HR6:=q9 (qo HR5.out F6);have HO6:=q9 (HO5.out.up F6);clear F6;by_cases hm:a∈acc
    ·have hE:=q9 (show q93 (qw s.l) s.l.length n t=acc by rw [<- HEA.out.2.2];unfold Kl;rw [qf (.inr (.inr hm))]);rw [decide_eq_true hm];clear hm;go_wp2_with fail;go_ret;exact ⟨⟨_,rfl,by rw [hE.out];exact kw HR6.out HG.out.size⟩,HG.out.trans HF6.out⟩
    ·have HE:=q9 (show Kl (qw s.l) s.l.length n k (atW (qw s.l (a+2))) (acc++[a])=q93 (qw s.l) s.l.length n t by rw [<- HEA.out.2.2];conv=>rhs;unfold Kl;rw [qd (by rintro (h | h | h);exact HEA.out.1 h;rw [HTB.out] at h;cases h;exact hm h)]);have HT2:=q9 (HEA.out.2.1.add HTB.out hm);rw [decide_eq_false hm];clear hm;have GA:=(Fr.refl [] w6).alloc (.cells #[.int .i64 a] 3);have X4:=qo HR6.out GA;have X3:=(Sq.block (f:=fN) (xs:=[a]) (c:=1) (Ob.new w6 3 #[.int .i64 a]) rfl rfl (Nat.le_refl _) Lm);have EA:=HF6.out.trans GA;have hsA:=EA.size;have HO7:=q9 (HO6.out.up GA);have hal:acc.length+1<=100000000:=by have:=HK.out.2;have:=HB.out.2.2.2;omega
     have HAL:=q9 hal;clear GA hal;go_wp2_with (at_builtin;refine qq q68 rfl _ _ 25 rfl Tryz.underlying25 intN rfl (B:=w2.heap.size) u5 acc rfl X4 _ [a] rfl X3 HAL.out Lg hsA ?_;intro a9 c9 w9 r9 F9;generalize hTT:acc++[a]=T at r9 ⊢;have E9:=EA.own F9 (z8 X4);have HTT:=q9 hTT;clear hTT X3 X4 hsA EA);have hbd:=qds HTB.out;rw [w64 (a:=a+2) Lb (by have:=HB.out.2.2.2;omega)];have HE9:=q9 E9;have HR9:=q9 r9;clear F9 r9 E9;refine (Ref.yx _ p q s _ (HR.out _ (HG.out.trans HE9.out))).mono ?_;rintro e _ ⟨rfl,rfl⟩;go_wp2_with fail;refine (Mx.Xt _ _).mono ?_;rintro e _ ⟨rfl,rfl⟩;have HV:=q9 (Eq.refl (atW (qw s.l (a+2))));generalize atW (qw s.l (a+2))=a2 at HE HV ⊢;go_wp2_with fail;go_roundw;case rel=>exact ⟨k,a2,T,rfl,HR9.out,by rw [<- HTT.out];exact HT2.out,by rw [<- HTT.out,List.length_append,List.length_singleton];have:=HK.out.1;omega,by rw [<- HTT.out];exact HE.out,HO.out.up HE9.out,HE9.out⟩
     case measure =>
      show s.l.length+1 - sliceLen (.slice a9 T.length c9)<s.l.length+1 - sliceLen u5;rw [HU.out,show sliceLen (.slice a9 T.length c9)=T.length from rfl,<- HTT.out,List.length_append,List.length_singleton];have:=HK.out.2;omega
def ofW (f:Int->Int) (L:List Int) (key:Int):Int:=L.foldl (fun b x=>if f x<=key then x else b) 0
theorem ofW_succ {f:Int->Int} {L:List Int} {i:Nat} {x:Int} (hx:L[i]? = some x) (key:Int):ofW f (L.take (i+1)) key=if f x<=key then x else ofW f (L.take i) key:=by unfold ofW;exact Gz
def OfAt (s:St) (L:List Int) (key:Int) (W:World) (bv x:Value) (wr:World):Prop:=∃ i:Nat,i<=L.length/\x = .int .i64 (i:Nat)/\bv = .int .i64 (ofW (qw s.l) (L.take i) key)/\Fr [] W wr
end Go.Proofs.YtleclbldlladmaaGreat.Rf
