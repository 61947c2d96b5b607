/- Parts. -/
import Derived.Test.YthokjbikomjhgaaGreatDoorVaa
import Derived.Test.YthokjbikomjhgaaGreatDoorVab
import Derived.ChangeKeysEq
import Derived.LaidEql
import Derived.Lib.IfaceEq
import Derived.RowKitTokens
import Derived.Stop.Asserts
import Derived.Stop.IfaceNil
import Derived.WalkSpells
set_option linter.unusedVariables false
set_option linter.unusedSimpArgs false
set_option maxRecDepth 100000
set_option maxHeartbeats 12800000
namespace Go.Proofs.YthokjbikomjhgaaGreatDoor.Er
open Go.RowKit Go.Extern.Stop Go.Stop Go.Extern Ar
theorem isE:Tryz.prog.isIface 108=true:=by kernel_rfl
theorem qbj (v:Value) (w:World):(Extern.ReflectliteType.typeOf #[.iface 184 v]).run Tryz.prog w = .ok (.iface 250 (.agg #[.pointer (some ⟨3,184,none⟩)])) w:=by kernel_rfl
theorem q1m (w : World) : ((Extern.ReflectliteType.method fun t => do Extern.Rtype.noPackHeld "Comparable" t; (fun a => Value.bool a.comparable) <$> typeInfo t) #[.agg #[.pointer (some ⟨3, 184, none⟩)]]).run Tryz.prog w = .ok (.bool true) w := by kernel_rfl
theorem noIs (v:Value) (xT:TypeId) (w:World):(Instr.typeAssert (.iface 184 v) xT 252 true).run Tryz.prog w = .ok (.tuple #[.nilIface,.bool false]) w:=run_typeAssert_lacksB Tryz.underlying252 Lm Lm v xT w
theorem noUnwrap (v:Value) (xT:TypeId) (w:World):(Instr.typeAssert (.iface 184 v) xT 255 true).run Tryz.prog w = .ok (.tuple #[.nilIface,.bool false]) w:=run_typeAssert_lacksB Tryz.underlying255 Lm Lm v xT w
theorem noUnwraps (v:Value) (xT:TypeId) (w:World):(Instr.typeAssert (.iface 184 v) xT 257 true).run Tryz.prog w = .ok (.tuple #[.nilIface,.bool false]) w:=run_typeAssert_lacksB Tryz.underlying257 Lm Lm v xT w
theorem is_same (a:Int) (w:World) :
  Calls Tryz.prog 124 #[.iface 184 (.int .i64 a),.iface 184 (.int .i64 a)] w fun e w'=>e = .returned (.bool true)/\w=w':=by
 have h8:=@run_callFunc_extern Tryz.prog 176 _ Extern.ReflectliteType.typeOf Tryz.func176 Lm Lm Lm Lm;have h32 := @run_callFunc_extern Tryz.prog 282 _ (Extern.ReflectliteType.method fun t => do Extern.Rtype.noPackHeld "Comparable" t; pure (.bool (<- typeInfo t).comparable)) Tryz.func282 Lm Lm Lm Lm;have tT:=qbj;have cT:=q1m;have iE:=isE;have heq:=fun (W:World)=>Lib.run_eql_iface_int (P:=Tryz.prog) W (k:=.i64) a a Tryz.underlying108 Lm Tryz.underlying184
 simp only [beq_self_eq_true] at heq;go_enter Tryz.func124,Tryz.ntmps124;go_wp2;go_rounds 1;go_ret;exact ⟨rfl,rfl⟩
end Go.Proofs.YthokjbikomjhgaaGreatDoor.Er
namespace Go.Proofs.YthokjbikomjhgaaGreatDoor.Vw
open Go.RowKit Ar Mx
structure Ce where
 s:Int
 k:Int
 d:Int
deriving DecidableEq
def fC (x:Ce):List Value:=[.int .i64 x.s,.int .i64 x.k,.int .i64 x.d]
theorem Zg:Lays fC 3:=⟨fun _=>rfl,fun x u hu=>by simp [fC] at hu;rcases hu with rfl | rfl | rfl <;> rfl,by decide⟩
theorem ceI:(Tryz.prog.info? 213).map (fun i=>(i.zero,i.size,i.bytes))=some (some (.agg #[.int .i64 0,.int .i64 0,.int .i64 0]),3,24):=by kernel_rfl
structure Hd where
 at_:Int
 mn:Int
 ct:Int
 nx:Int
 ld:Int
 mt:Int
 rp:Int
 st:Int
deriving DecidableEq
def verV (s:Int):Int:=if s<3 then -1 else wrap64 (s - 3)
def qdt (c:Ce):Option It:=if 3<=c.s then some ⟨c.k,verV c.s,c.d⟩ else none
def U2 (cs:List Ce):List It:=cs.filterMap qdt
theorem qaf (x y:Ce) (W:World):(binOp .neq 213 (.agg #[.int .i64 x.s,.int .i64 x.k,.int .i64 x.d]) (.agg #[.int .i64 y.s,.int .i64 y.k,.int .i64 y.d])).run Tryz.prog W = .ok (.bool (decide (x≠y))) W:=by
 obtain ⟨k,i,o⟩:=x;obtain ⟨k',i',o'⟩:=y;have u3:=Tryz.underlying3;have a3:(isAgg 3).run Tryz.prog W = .ok false W:=by kernel_rfl
 have hS:Tryz.prog.underlying 213=some (.struct (Tryz.prog.fieldsOf 213)):=by kernel_rfl
 have hp:Tryz.prog.stoodInHeld 213=false:=by kernel_rfl
 rw [run_neq_struct,show (10000:Nat)=9999+1 from rfl,run_equalIn_agg W 9999 213 _ _ hS hp];simp only [Program.fieldsOf,Tryz.underlying213];go_simp;by_cases h1:k=k' <;> by_cases h2:i=i' <;> by_cases h3:o=o' <;> simp [h1,h2,h3]
theorem q2w {w:World} {a:Option Addr} {n cap i:Nat} {xs:List Ce} {x:Ce} (h:Sq fC w (.slice a n cap) xs) (hi:xs[i]? = some x) :
  ∃ g off,a=some ⟨g,off,none⟩/\w.cell? ⟨g,off+i * 3,none⟩=some (.int .i64 x.s)/\w.cell? ⟨g,off+i * 3+1,none⟩=some (.int .i64 x.k)/\w.cell? ⟨g,off+i * 3+2,none⟩=some (.int .i64 x.d):=by
 obtain ⟨-,g,off,rfl,hc⟩:=Sq.cell Zg h hi;exact Hv
end Go.Proofs.YthokjbikomjhgaaGreatDoor.Vw
namespace Go.Proofs.YthokjbikomjhgaaGreatDoor.Mx
open Go.RowKit Ar
structure Nk where
 at_:Int
 mn:Int
 ct:Int
 nx:Int
 its:List It
def jf (c:Cf) (at_ after:Int):List (List It)->List Int->List Nk
 | [],_=>[]
 | g :: r,ms=>⟨at_,ms.headD 0,g.length,jk (if r=[] then after else wrap64 (at_+z6 c)) false,g⟩ :: jf c (wrap64 (at_+z6 c)) after r ms.tail
def yj (c:Cf) (at_ after least:Int) (gs:List (List It)):List Nk :=
 if gs.all (fun g=>decide ((g.length:Int)<=c.c))=true then jf c at_ after gs (xg least gs) else []
def yd (at_:Int):Nat->List It->List (Int×Int)
 | _,[]=>[]
 | k,y :: r=>(Qq at_ k,vz y.v) :: (wrap64 (Qq at_ k+1),y.k) :: (wrap64 (Qq at_ k+2),y.d) :: yd at_ (k+1) r
def Qx (x:Nk):List (Int×Int):=(wrap64 x.at_,x.mn) :: (wrap64 (x.at_+1),x.ct) :: (wrap64 (x.at_+2),x.nx) :: yd x.at_ 0 x.its
def yh (l:List Nk):List (Int×Int):=l.flatMap Qx
theorem Ve (at_:Int):∀ (l:List It) (k:Nat),(yd at_ k l).length=3 * l.length
 | [],_=>rfl
 | y :: r,k=>by unfold yd;simp only [List.length_cons,Ve at_ r];omega
theorem J1 (at_:Int) (y:It):∀ (l:List It) (k:Nat),yd at_ k (l++[y])=yd at_ k l++[(Qq at_ ((k+l.length:Nat):Int),vz y.v),(wrap64 (Qq at_ ((k+l.length:Nat):Int)+1),y.k),(wrap64 (Qq at_ ((k+l.length:Nat):Int)+2),y.d)]
 | [],k=>rfl
 | z :: r,k=>by
  rw [List.cons_append];unfold yd;rw [J1 at_ y r (k+1),List.length_cons,show k+1+r.length=k+(r.length+1) by omega];rfl
theorem q1g {ns:List Nk} {i:Nat} {n:Nk} (h:ns[i]? = some n):yh (ns.take (i+1))=yh (ns.take i)++Qx n:=by unfold yh;rw [List.take_add_one,h,Option.toList_some,List.flatMap_append];simp
theorem Vp (v:Int):3<=vz v:=by unfold vz hd;omega
theorem yx (c:Cf) (after:Int):∀ (gs:List (List It)) (at_:Int) (ms:List Int),(jf c at_ after gs ms).length=gs.length
 | [],_,_=>rfl
 | g :: r,at_,ms=>by unfold jf;rw [List.length_cons,yx c after r];rfl
theorem Yp {c:Cf} (after:Int) (hc0:0<=z6 c):∀ (gs:List (List It)) (at_:Int) (ms:List Int) (i:Nat) (g:List It) (m:Int),0<=at_->at_+z6 c * (gs.length:Int)<=4611686018427387904->gs[i]? = some g->ms[i]? = some m ->
  (jf c at_ after gs ms)[i]? = some ⟨at_+z6 c * (i:Int),m,(g.length:Int),jk (if i+1=gs.length then after else at_+z6 c * ((i:Int)+1)) false,g⟩
 | [],_,_,i,g,m,_,_,hg,_=>by simp at hg
 | a :: r,at_,ms,i,g,m,h0,hb,hg,hm=>by
  have hlen:z6 c * (((a :: r).length:Nat):Int)=z6 c * (r.length:Int)+z6 c:=by rw [List.length_cons,Int.natCast_add,Int.mul_add];simp
  have hrl:0<=z6 c * (r.length:Int):=Int.mul_nonneg hc0 Lj;rw [hlen] at hb;have hw:wrap64 (at_+z6 c)=at_+z6 c:=w64 Lj Lj;unfold jf;rw [hw];cases i with
  | zero =>
   obtain rfl:a=g:=by simpa using hg
   have hmm:ms.headD 0=m:=by cases ms <;> simp_all
   rw [List.getElem?_cons_zero,hmm];congr 2
   ·simp
   ·congr 1;by_cases hr:r=[]
    ·subst hr;simp
    ·exact Gj
  | succ i =>
   rw [List.getElem?_cons_succ];have hm':ms.tail[i]? = some m:=by cases ms <;> simp_all
   rw [Yp after hc0 r (at_+z6 c) ms.tail i g m Lj Lj (by simpa using hg) hm'];have e1:at_+z6 c+z6 c * (i:Int)=at_+z6 c * ((i+1:Nat):Int):=by rw [Int.natCast_add,Int.mul_add];simp;omega
   have e2:at_+z6 c+z6 c * ((i:Int)+1)=at_+z6 c * (((i+1:Nat):Int)+1):=by rw [Int.natCast_add,Int.mul_add,Int.mul_add,Int.mul_add];simp;omega
   rw [e1,e2,List.length_cons];exact Gd
def KepAt (w:World) (s:List It) (vs:List Int) (u x:Value) (wr:World):Prop:=∃ i out,i<=s.length/\x = .int .i64 (i:Nat)/\out.length<=i/\wr.ownsRow w.heap.size 74 3 u out.length (out.flatMap fT)/\Fr [] w wr/\out++Zn vs (s.drop i)=Zn vs s
def qck (wr:World) (vs:List Int) (last:Bool) (P:Int->Bool) (u x:Value) (w':World):Prop:=∃ k,k<=vs.length/\x = .int .i64 (k:Nat)/\u = .bool (last || (vs.take k).any P)/\Fr [] wr w'
theorem Te {P:Int->Bool} {vs:List Int} {k:Nat} {z:Int} (hz:vs[k]? = some z):(vs.take (k+1)).any P=((vs.take k).any P || P z):=by rw [List.take_add_one,hz,Option.toList_some,List.any_append];simp
theorem q8g {vs:List Int} {s:List It} {i:Nat} {x:It} (hx:s[i]? = some x):Zn vs (s.drop i)=if Xu x s[i+1]? vs=true then x :: Zn vs (s.drop (i+1)) else Zn vs (s.drop (i+1)):=by obtain ⟨hi,rfl⟩:=List.getElem?_eq_some_iff.1 hx;rw [List.drop_eq_getElem_cons hi];show (if Xu _ (s.drop (i+1)).head? vs=true then _ else _)=_;rw [List.head?_drop]
theorem q9t (l:List It) (vs:List Int) (v u:Value) (w:World) (hl:l.length<=1000) (hvl:vs.length<=1000) (h:Sq fT w v l) (hv:Sq fI w u vs) :
  Calls Tryz.prog 255 #[v,u] w fun e w'=>(∃ r,e = .returned r/\w'.ownsRow w.heap.size 74 3 r (Yl l vs).length ((Yl l vs).flatMap fT))/\Fr [] w w':=by
 unfold Yl;obtain ⟨av,cv,rfl,hcv,hmv,-⟩:=id hv;go_enter Tryz.func255,Tryz.ntmps255;go_wp2_with fail;refine (q8u l v w hl h).mono ?_;rintro e w1 ⟨⟨u1,rfl,r1⟩,F1⟩;have hs1:(Zh l).length<=1000:=by rw [Xh];exact hl
 generalize hso:Zh l=s at *;have HSO:=q9 hso;clear hso;obtain ⟨asl,csl,rfl,hcs,hms,-⟩:=id (Sq.own (f:=fT) r1);have S1:=Sq.own (f:=fT) r1;have hv1:=hv.up F1;have HF1:=q9 F1;clear r1 h hv F1;go_wp2_with fail;go_loopw [6,7] (KepAt w1 s vs) (fun _ x _=>s.length - (intOf x).toNat);case atStart=>exact ⟨0,[],by omega,rfl,by simp,⟨rfl,.inl ⟨rfl,rfl⟩⟩,Fr.refl _ _,by simp⟩
 case round =>
  obtain ⟨i,out,hi,rfl,ho,hr,F,hk⟩:=hrel;by_cases hlt:i<s.length
  ·obtain ⟨x,hx⟩:∃ x,s[i]? = some x:=⟨s[i],List.getElem?_eq_getElem hlt⟩;have hS:=S1.up F;obtain ⟨gs,os,rfl,x0,x1,x2⟩:=xj hS hx;rw [q8g hx] at hk;obtain ⟨ao,co,rfl,hco,hcm,-⟩:=id (Sq.own (f:=fT) hr);have HK:=q9 hk;clear hk;by_cases hE:i+1=s.length
   ·have hn:s[i+1]? = none:=List.getElem?_eq_none Lj;have hkb:Xu x s[i+1]? vs=true:=by rw [hn];simp [Xu]
    have HKB:=q9 hkb;have g1:(((i:Nat):Int)+1 == ((s.length:Nat):Int))=true:=by simp;omega
    clear hkb hn;go_wp2_with fail;have k0:=qb x0;skip;refine wiq ?_;repeat (go_big_quiet_step (fail))
    refine wpQuiet_nil ?_;intro w5 F5;clear k0;go_wp2_with fail;have HFF:=q9 (F.trans F5);have r5:=q9 (qo hr F5);have x0:=F5.cell x0 Ll;have x1:=F5.cell x1 Ll;have x2:=F5.cell x2 Ll;skip;exact Ac
   ·obtain ⟨y,hy⟩:∃ y,s[i+1]? = some y:=⟨s[i+1],List.getElem?_eq_getElem Lj⟩;obtain ⟨gs',os',hgs,y0,y1,-⟩:=xj hS hy;simp only [Option.some.injEq,Addr.mk.injEq] at hgs;obtain ⟨rfl,rfl,-⟩:=hgs;by_cases hD:¬ y.k=x.k
    ·have hkb:Xu x s[i+1]? vs=true:=by rw [hy];simp [Xu,hD]
     have g2:(y.k == x.k)=false:=by simpa using hD
     have g3:(y.k != x.k)=true:=by simpa using hD
     have HKB:=q9 hkb;have HD:=q9 hD;have g1:(((i:Nat):Int)+1 == ((s.length:Nat):Int))=false:=by simp;omega
     clear hkb hD;go_wp2_with fail;have k0:=qb x0;have j0:=qb y0;refine wiq ?_;repeat (go_big_quiet_step (fail))
     refine wpQuiet_nil ?_;intro w5 F5;clear k0 j0;go_wp2_with fail;have HFF:=q9 (F.trans F5);have r5:=q9 (qo hr F5);have x0:=F5.cell x0 Ll;have x1:=F5.cell x1 Ll;have x2:=F5.cell x2 Ll;have y1:=F5.cell y1 Ll;exact Ac
    ·have hkb:Xu x s[i+1]? vs=vs.any (fun z=>decide (x.v<=z) && decide (z<y.v)):=by rw [hy];have hD:=Classical.not_not.1 hD;simp [Xu,hD]
     have g2:(y.k == x.k)=true:=by simpa using Classical.not_not.1 hD
     have g3:(y.k != x.k)=false:=by simpa using Classical.not_not.1 hD
     have HKB:=q9 hkb;have HD:=q9 hD;have g1:(((i:Nat):Int)+1 == ((s.length:Nat):Int))=false:=by simp;omega
     clear hkb hD;go_wp2_with fail;have k0:=qb x0;have j0:=qb y0;refine wiq ?_;repeat (go_big_quiet_step (fail))
     refine wpQuiet_nil ?_;intro w5 F5;clear k0 j0;go_wp2_with fail;have HFF:=q9 (F.trans F5);have r5:=q9 (qo hr F5);have x0:=F5.cell x0 Ll;have x1:=F5.cell x1 Ll;have x2:=F5.cell x2 Ll;have y1:=F5.cell y1 Ll;have HV5:=q9 (hv1.up HFF.out);go_loopw [9,10] (qck w5 vs false (fun z=>decide (x.v<=z) && decide (z<y.v))) (fun _ x _=>vs.length - (intOf x).toNat);case atStart=>exact ⟨0,Nat.zero_le _,rfl,by simp,Fr.refl _ _⟩
     case round =>
      obtain ⟨k,hk,rfl,hu,F6⟩:=hrel;by_cases hkl:k<vs.length
      ·obtain ⟨z,hz⟩:∃ z,vs[k]? = some z:=⟨vs[k],List.getElem?_eq_getElem hkl⟩;have hmore:=Te (P:=(fun z=>decide (x.v<=z) && decide (z<y.v))) hz;have HM:=q9 hmore;clear hmore;have HF6:=q9 F6;by_cases hP:(vs.take k).any (fun z=>decide (x.v<=z) && decide (z<y.v))=true
       ·have hu':=hu.trans (show _=Value.bool true by rw [hP];rfl);subst hu';clear hu;have HP:=q9 hP;clear hP F6;go_wp2_with fail;refine wiq ?_;repeat (go_big_quiet_step (fail))
        refine wpQuiet_nil ?_;intro w7 F7;go_wp2_with fail;go_roundw;case rel=>exact ⟨k+1,by omega,by go_num,by rw [HM.out,HP.out];rfl,HF6.out.trans F7⟩
        case measure=>simp [intOf];omega
       ·rw [Bool.not_eq_true] at hP;have hu':=hu.trans (show _=Value.bool false by rw [hP];rfl);subst hu';clear hu;have HP:=q9 hP;clear hP;have y1:=qb (F6.cell y1 Ll);have x1:=qb (F6.cell x1 Ll);obtain ⟨gv,ov,rfl,z0⟩:=X0 (HV5.out.up F6) hz;have z0:=qb z0;clear F6;by_cases ha:x.v<=z
        ·have g5:decide (x.v<=z)=true:=by simpa using ha
         have HA:=q9 ha;clear ha;by_cases hb:z<y.v
         ·have g6:decide (y.v>z)=true:=by simpa using hb
          have HB:=q9 hb;clear hb;go_wp2_with fail;refine wiq ?_;repeat (go_big_quiet_step (fail))
          refine wpQuiet_nil ?_;intro w7 F7;go_wp2_with fail;go_roundw;case rel=>exact ⟨k+1,by omega,by go_num,by rw [HM.out,HP.out];simp [HA.out,HB.out],HF6.out.trans F7⟩
          case measure=>simp [intOf];omega
         ·have g6:decide (y.v>z)=false:=by simpa using hb
          have HB:=q9 hb;clear hb;go_wp2_with fail;refine wiq ?_;repeat (go_big_quiet_step (fail))
          refine wpQuiet_nil ?_;intro w7 F7;go_wp2_with fail;go_roundw;case rel=>exact ⟨k+1,by omega,by go_num,by rw [HM.out,HP.out];simp only [decide_eq_false (Int.not_lt.2 HB.out),Bool.and_false];rfl,HF6.out.trans F7⟩
          case measure=>simp [intOf];omega
        ·have g5:decide (x.v<=z)=false:=by simpa using ha
         have HA:=q9 ha;clear ha;go_wp2_with fail;refine wiq ?_;repeat (go_big_quiet_step (fail))
         refine wpQuiet_nil ?_;intro w7 F7;go_wp2_with fail;go_roundw;case rel=>exact ⟨k+1,by omega,by go_num,by rw [HM.out,HP.out];simp only [decide_eq_false (Int.not_le.2 HA.out),Bool.false_and];rfl,HF6.out.trans F7⟩
         case measure=>simp [intOf];omega
      ·obtain rfl:k=vs.length:=by omega
       rw [List.take_length] at hu;by_cases hq:vs.any (fun z=>decide (x.v<=z) && decide (z<y.v))=true
       ·have hu':=hu.trans (show _=Value.bool true by rw [hq];rfl);subst hu';clear hu;have HQ:=q9 hq;clear hq;have x0:=F6.cell x0 Ll;have x1:=F6.cell x1 Ll;have x2:=F6.cell x2 Ll;have HFG:=q9 (HFF.out.trans F6);have r6:=qo r5.out F6;have F12:=(Fr.refl [] wr).alloc (.cells #[.int .i64 x.k,.int .i64 x.v,.int .i64 x.d] 74);have B12:=Go.heap_alloc_new wr (.cells #[.int .i64 x.k,.int .i64 x.v,.int .i64 x.d] 74);have r12:=qo r6 F12;have HG:=q9 (HFG.out.trans F12);clear r6 F12 F6;go_wp2_with (at_builtin;refine qq zh rfl _ _ 65 rfl Tryz.underlying65 itI rfl (B:=w1.heap.size) _ out rfl r12 _ [x] rfl (Sq.block B12 rfl rfl (Nat.le_refl _) Ly) Lu Lr HG.out.size ?_;intro a21 c21 w21 r21 f21);have HR:=q9 (show w21.ownsRow w1.heap.size 74 3 (.slice a21 (out.length+1) c21) (out++[x]).length ((out++[x]).flatMap fT) by rw [show (Value.slice a21 (out++[x]).length c21)=Value.slice a21 (out.length+1) c21 by simp] at r21;exact r21);have HG2:=q9 (HG.out.own f21 (z8 r12));clear r21 f21 r12 B12;go_wp2_with fail;go_roundw;case rel=>exact ⟨i+1,out++[x],by omega,by go_num,by simp;omega,HR.out,HG2.out,by rw [<- HK.out,HKB.out,HQ.out];simp⟩
        case measure=>simp [intOf];omega
       ·rw [Bool.not_eq_true] at hq;have hu':=hu.trans (show _=Value.bool false by rw [hq];rfl);subst hu';clear hu;have HQ:=q9 hq;clear hq;have HR:=q9 (qo r5.out F6);have HG2:=q9 (HFF.out.trans F6);clear F6;go_wp2_with fail;go_roundw;case rel=>exact ⟨i+1,out,by omega,by go_num,by omega,HR.out,HG2.out,by rw [<- HK.out,HKB.out,HQ.out];simp⟩
        case measure=>simp [intOf];omega
  ·obtain rfl:i=s.length:=by omega
   rw [List.drop_length] at hk;have hk':out=Zn vs s:=by rw [<- hk];simp [Zn]
   rw [hk'] at hr;have HR:=q9 (Q3 hr HF1.out.size);have HG:=q9 (HF1.out.trans F);obtain ⟨ao,co,rfl,-,-⟩:=Qc hr;clear hk' hk hr F;go_wp2_with fail;go_ret;rw [HSO.out];exact ⟨⟨_,rfl,HR.out⟩,HG.out⟩
structure Sv where
 a:Option Addr
 n:Nat
 c:Nat
def Sv.v (s:Sv):Value:=.slice s.a s.n s.c
def fS (s:Sv):List Value:=[s.v]
theorem Tu:Lays fS 1:=⟨fun _=>rfl,fun x u hu=>by rw [List.mem_singleton.1 hu];rfl,by decide⟩
theorem svI:(Tryz.prog.info? 65).map (fun i=>(i.zero,i.size,i.bytes))=some (some (.slice none 0 0),1,24):=by kernel_rfl
def Gs (w:World) (ss:List Sv) (gs:List (List It)):Prop:=ss.length=gs.length/\∀ (i:Nat) (s:Sv) (g:List It),ss[i]? = some s->gs[i]? = some g->Sq fT w s.v g
theorem Gs.kept {S:List Nat} {w w':World} {ss:List Sv} {gs:List (List It)} (h:Gs w ss gs) (k:Fr S w w') (hS:∀ s,s∈ss->∀ g,g∈s.v.ownBlock.toList->g∉S):Gs w' ss gs :=
 ⟨h.1,fun i s g e1 e2=>(h.2 i s g e1 e2).kept k (hS s (List.mem_of_getElem? e1))⟩
theorem Gs.up {w w':World} {ss:List Sv} {gs:List (List It)} (h:Gs w ss gs) (k:Fr [] w w'):Gs w' ss gs:=h.kept k Ll
theorem Gs.one {w:World} {ss:List Sv} {gs:List (List It)} (h:Gs w ss gs) {i:Nat} {g:List It} (hi:gs[i]? = some g):∃ s,ss[i]? = some s/\s.n=g.length/\Sq fT w s.v g:=by have hlt:=(List.getElem?_eq_some_iff.1 hi).1;have e1:ss[i]? = some (ss[i]'(by rw [h.1];exact hlt)):=List.getElem?_eq_getElem _;have hs:=h.2 i _ g e1 hi;refine ⟨_,e1,?_,hs⟩;obtain ⟨a',c',e,-⟩:=hs;unfold Sv.v at e;simp only [Value.slice.injEq] at e;exact e.2.1
theorem Js {w:World} {a:Option Addr} {n cap i:Nat} {xs:List Sv} {x:Sv} (h:Sq fS w (.slice a n cap) xs) (hi:xs[i]? = some x) :
  ∃ g off,a=some ⟨g,off,none⟩/\w.cell? ⟨g,off+i,none⟩=some (.slice x.a x.n x.c):=by
 obtain ⟨-,g,off,rfl,hc⟩:=Sq.cell Tu h hi;exact ⟨g,off,rfl,by have:=hc 0 x.v rfl;rw [Nat.mul_one,Nat.add_zero] at this;exact this⟩
theorem J6 (least:Int) (gs:List (List It)):(xg least gs).length=gs.length:=by cases gs <;> simp [xg]
theorem q2c (least:Int) {gs:List (List It)} {i:Nat} {g:List It} (hi:gs[i]? = some g):(xg least gs)[i]? = some (if i=0 then least else (g.head?.map It.k).getD 0):=by
 cases gs with
 | nil=>simp at hi
 | cons y r =>
  cases i with
  | zero=>rfl
  | succ i =>
   rw [List.getElem?_cons_succ] at hi;show (least :: r.map _)[i+1]? = _;rw [List.getElem?_cons_succ,List.getElem?_map,hi];rfl
def MinAt (w:World) (ms:List Int) (u x:Value) (wr:World):Prop:=∃ i,i<=ms.length/\x = .int .i64 (i:Nat)/\wr.ownsRow w.heap.size 3 1 u (ms.take i).length ((ms.take i).flatMap fI)/\Fr [] w wr
theorem qa5 (least:Int) (gs:List (List It)) (ss:List Sv) (u:Value) (w:World) (hl:gs.length<=1000) (h:Sq fS w u ss) (hg:Gs w ss gs) :
  Calls Tryz.prog 256 #[.int .i64 least,u] w fun e w'=>(∃ r,e = .returned r/\w'.ownsRow w.heap.size 3 1 r (xg least gs).length ((xg least gs).flatMap fI))/\Fr [] w w':=by
 obtain ⟨av,cv,rfl,hcv,hmv,-⟩:=id h;have hml:=J6 least gs;have hsl:=hg.1;rw [hsl] at h hcv ⊢;have HAT:=q9 (fun i g=>@q2c least gs i g);generalize hms:xg least gs=ms at *;have HMS:=q9 hms;rw [<- hml] at h hcv ⊢;have hmk:ms.length<=1000:=by omega
 have HML:=q9 hml;clear hms hml hsl;go_enter Tryz.func256,Tryz.ntmps256;go_wp2_with fail;go_loopw [5,6] (MinAt w ms) (fun _ x _=>ms.length - (intOf x).toNat);case atStart=>exact ⟨0,by omega,rfl,⟨rfl,.inl ⟨rfl,rfl⟩⟩,Fr.refl _ _⟩
 case round =>
  obtain ⟨i,hi,rfl,hr,F⟩:=hrel;by_cases hlt:i<ms.length
  ·obtain ⟨g,hgi⟩:∃ g,gs[i]? = some g:=⟨gs[i]'(by have:=HML.out;omega),List.getElem?_eq_getElem _⟩;have hm:=HAT.out i g hgi;obtain ⟨s,hs1,hs2,hs3⟩:=(hg.up F).one hgi;obtain ⟨gb,ob,rfl,c0⟩:=Js (h.up F) hs1;rw [hs2] at c0;have hs3':Sq fT wr (.slice s.a g.length s.c) g:=by rw [<- hs2];exact hs3
   obtain ⟨ao,co,rfl,hco,hcm,-⟩:=id (Sq.own (f:=fI) hr);have hlen:(ms.take i).length=i:=by rw [List.length_take];omega
   have hnx:∀ m,ms[i]? = some m->ms.take (i+1)=ms.take i++[m]:=fun m hm=>by rw [List.take_add_one,hm];rfl
   generalize ms.take i=out at *;have HL:=q9 hlen;clear hlen hs3;by_cases h0:i=0
   ·subst h0;rw [qf rfl] at hm;have hm:ms[0]? = some (least):=hm;have HNX:=q9 (hnx _ hm);have F12:=(Fr.refl [] wr).alloc (.cells #[.int .i64 (least)] 3);have B12:=Go.heap_alloc_new wr (.cells #[.int .i64 (least)] 3);have r12:=qo hr F12;have HG:=q9 (F.trans F12);clear F12 hnx hm;go_wp2_with (at_builtin;refine qq vq rfl _ _ 25 rfl Tryz.underlying25 q7t rfl (B:=w.heap.size) _ out rfl r12 _ [least] rfl (Sq.block B12 rfl rfl (Nat.le_refl _) Ly) Nv Lr HG.out.size ?_;intro a21 c21 w21 r21 f21);have HR:=q9 (show w21.ownsRow w.heap.size 3 1 (.slice a21 (out.length+1) c21) (out++[least]).length ((out++[least]).flatMap fI) by rw [show (Value.slice a21 (out++[least]).length c21)=Value.slice a21 (out.length+1) c21 by simp] at r21;exact r21);have HG2:=q9 (HG.out.own f21 (z8 r12));clear r21 f21 r12 B12;go_wp2_with fail;go_roundw;case rel=>exact ⟨0+1,by omega,by go_num,by rw [HNX.out];exact HR.out,HG2.out⟩
    case measure=>simp [intOf];omega
   ·rw [qd h0] at hm;cases g with
    | nil =>
     have g1:(((i:Nat):Int) == 0)=false:=by simp;omega
     have hm:ms[i]? = some ((0:Int)):=hm;have HNX:=q9 (hnx _ hm);have F12:=(Fr.refl [] wr).alloc (.cells #[.int .i64 ((0:Int))] 3);have B12:=Go.heap_alloc_new wr (.cells #[.int .i64 ((0:Int))] 3);have r12:=qo hr F12;have HG:=q9 (F.trans F12);clear F12 hnx hm;go_wp2_with (at_builtin;refine qq vq rfl _ _ 25 rfl Tryz.underlying25 q7t rfl (B:=w.heap.size) _ out rfl r12 _ [(0:Int)] rfl (Sq.block B12 rfl rfl (Nat.le_refl _) Ly) Nv Lr HG.out.size ?_;intro a21 c21 w21 r21 f21);have HR:=q9 (show w21.ownsRow w.heap.size 3 1 (.slice a21 (out.length+1) c21) (out++[(0:Int)]).length ((out++[(0:Int)]).flatMap fI) by rw [show (Value.slice a21 (out++[(0:Int)]).length c21)=Value.slice a21 (out.length+1) c21 by simp] at r21;exact r21);exact Cg
    | cons z r =>
     have g1:(((i:Nat):Int) == 0)=false:=by simp;omega
     obtain ⟨gz,oz,ez,z0,-,-⟩:=xj hs3' (i:=0) (x:=z) rfl;rw [ez] at c0;simp only [Nat.zero_mul,Nat.add_zero] at z0;have hm:ms[i]? = some (z.k):=hm;have HNX:=q9 (hnx _ hm);have F12:=(Fr.refl [] wr).alloc (.cells #[.int .i64 (z.k)] 3);have B12:=Go.heap_alloc_new wr (.cells #[.int .i64 (z.k)] 3);have r12:=qo hr F12;have HG:=q9 (F.trans F12);clear F12 hnx hm;go_wp2_with (at_builtin;refine qq vq rfl _ _ 25 rfl Tryz.underlying25 q7t rfl (B:=w.heap.size) _ out rfl r12 _ [z.k] rfl (Sq.block B12 rfl rfl (Nat.le_refl _) Ly) Nv Lr HG.out.size ?_;intro a21 c21 w21 r21 f21);have HR:=q9 (show w21.ownsRow w.heap.size 3 1 (.slice a21 (out.length+1) c21) (out++[z.k]).length ((out++[z.k]).flatMap fI) by rw [show (Value.slice a21 (out++[z.k]).length c21)=Value.slice a21 (out.length+1) c21 by simp] at r21;exact r21);exact Cg
  ·obtain rfl:i=ms.length:=by omega
   rw [List.take_length] at hr;have HR:=q9 hr;obtain ⟨ao,co,rfl,-,-⟩:=Qc hr;clear hr;exact Hn
end Go.Proofs.YthokjbikomjhgaaGreatDoor.Mx
namespace Go.Proofs.YthokjbikomjhgaaGreatDoor.Mx
open Go.RowKit Ar Vw
structure Chs where
 h:Hd
 s:Sv
def fH (x:Chs):List Value:=[.int .i64 x.h.at_,.int .i64 x.h.mn,.int .i64 x.h.ct,.int .i64 x.h.nx,.int .i64 x.h.ld,.int .i64 x.h.mt,.int .i64 x.h.rp,.int .i64 x.h.st,x.s.v]
theorem Qi:Lays fH 9:=⟨fun _=>rfl,fun x u hu=>by simp [fH] at hu;rcases hu with rfl | rfl | rfl | rfl | rfl | rfl | rfl | rfl | rfl <;> rfl,by decide⟩
theorem chI:(Tryz.prog.info? 161).map (fun i=>(i.zero,i.size,i.bytes))=some (some (.agg #[.int .i64 0,.int .i64 0,.int .i64 0,.int .i64 0,.int .i64 0,.int .i64 0,.int .i64 0,.int .i64 0,.slice none 0 0]),9,88):=by kernel_rfl
def ceO (o:Option It):Ce:=match o with
 | some x=>⟨vz x.v,x.k,x.d⟩
 | none=>⟨0,0,0⟩
def Yo (cap:Nat) (g:List It):List Ce:=(List.range cap).map fun j=>ceO g[j]?
theorem Qy (cap:Nat) (g:List It):(Yo cap g).length=cap:=by simp [Yo]
theorem q5v {cap:Nat} {g:List It} {j:Nat} (h:j<cap):(Yo cap g)[j]? = some (ceO g[j]?):=by simp [Yo,h]
def qef (n:Nk):Hd:=⟨n.at_,n.mn,n.ct,n.nx,0,0,0,0⟩
def q3s (w:World) (xs:List Chs) (ns:List Nk) (cap:Nat):Prop:=xs.length=ns.length/\∀ (i:Nat) (x:Chs) (n:Nk),xs[i]? = some x->ns[i]? = some n->x.h=qef n/\Sq fC w x.s.v (Yo cap n.its)
theorem q3s.up {w w':World} {xs:List Chs} {ns:List Nk} {cap:Nat} (h:q3s w xs ns cap) (f:Fr [] w w'):q3s w' xs ns cap :=
 ⟨h.1,fun i x n e1 e2=>⟨(h.2 i x n e1 e2).1,(h.2 i x n e1 e2).2.up f⟩⟩
def zCh:Chs:=⟨⟨0,0,0,0,0,0,0,0⟩,⟨none,0,0⟩⟩
def zCe:Ce:=⟨0,0,0⟩
theorem qat {w:World} {b:Nat} {T:TypeId} {xs:List Chs} (o:Ob w b T (xs.flatMap fH).toArray) {i:Nat} {x:Chs} (hi:xs[i]? = some x) (y:Chs) :
  Ob (((((((((w.setCell ⟨b,i * 9,none⟩ (.int .i64 y.h.at_)).setCell ⟨b,i * 9+1,none⟩ (.int .i64 y.h.mn)).setCell ⟨b,i * 9+2,none⟩ (.int .i64 y.h.ct)).setCell ⟨b,i * 9+3,none⟩ (.int .i64 y.h.nx)).setCell ⟨b,i * 9+4,none⟩ (.int .i64 y.h.ld)).setCell ⟨b,i * 9+5,none⟩ (.int .i64 y.h.mt)).setCell ⟨b,i * 9+6,none⟩ (.int .i64 y.h.rp)).setCell ⟨b,i * 9+7,none⟩ (.int .i64 y.h.st)).setCell ⟨b,i * 9+8,none⟩ y.s.v) b T ((xs.set i y).flatMap fH).toArray:=by
 obtain ⟨⟨a0,a1,a2,a3,a4,a5,a6,a7⟩,s⟩:=x;obtain ⟨⟨b0,b1,b2,b3,b4,b5,b6,b7⟩,r⟩:=y;have hl:=(List.getElem?_eq_some_iff.1 hi).1;have nx:∀ z:Chs,(xs.set i z)[i]? = some z:=fun z=>by rw [List.getElem?_set_self hl]
 have s0:=o.seg Qi (i:=i) (j:=0) (x':=⟨⟨b0,a1,a2,a3,a4,a5,a6,a7⟩,s⟩) (u:=.int .i64 b0) hi Lr rfl;have s1:=s0.seg Qi (i:=i) (j:=1) (x':=⟨⟨b0,b1,a2,a3,a4,a5,a6,a7⟩,s⟩) (u:=.int .i64 b1) (nx _) Lr rfl;rw [List.set_set] at s1;have s2:=s1.seg Qi (i:=i) (j:=2) (x':=⟨⟨b0,b1,b2,a3,a4,a5,a6,a7⟩,s⟩) (u:=.int .i64 b2) (nx _) Lr rfl;rw [List.set_set] at s2;have s3:=s2.seg Qi (i:=i) (j:=3) (x':=⟨⟨b0,b1,b2,b3,a4,a5,a6,a7⟩,s⟩) (u:=.int .i64 b3) (nx _) Lr rfl;rw [List.set_set] at s3;have s4:=s3.seg Qi (i:=i) (j:=4) (x':=⟨⟨b0,b1,b2,b3,b4,a5,a6,a7⟩,s⟩) (u:=.int .i64 b4) (nx _) Lr rfl;rw [List.set_set] at s4;have s5:=s4.seg Qi (i:=i) (j:=5) (x':=⟨⟨b0,b1,b2,b3,b4,b5,a6,a7⟩,s⟩) (u:=.int .i64 b5) (nx _) Lr rfl;rw [List.set_set] at s5;have s6:=s5.seg Qi (i:=i) (j:=6) (x':=⟨⟨b0,b1,b2,b3,b4,b5,b6,a7⟩,s⟩) (u:=.int .i64 b6) (nx _) Lr rfl;rw [List.set_set] at s6;have s7:=s6.seg Qi (i:=i) (j:=7) (x':=⟨⟨b0,b1,b2,b3,b4,b5,b6,b7⟩,s⟩) (u:=.int .i64 b7) (nx _) Lr rfl;rw [List.set_set] at s7;have s8:=s7.seg Qi (i:=i) (j:=8) (x':=⟨⟨b0,b1,b2,b3,b4,b5,b6,b7⟩,r⟩) (u:=r.v) (nx _) Lr rfl;rw [List.set_set] at s8;exact s8
theorem qcl {w:World} {b:Nat} {T:TypeId} {xs:List Ce} (o:Ob w b T (xs.flatMap fC).toArray) {i:Nat} {x:Ce} (hi:xs[i]? = some x) (y:Ce) :
  Ob (((w.setCell ⟨b,i * 3,none⟩ (.int .i64 y.s)).setCell ⟨b,i * 3+1,none⟩ (.int .i64 y.k)).setCell ⟨b,i * 3+2,none⟩ (.int .i64 y.d)) b T ((xs.set i y).flatMap fC).toArray:=by
 obtain ⟨a0,a1,a2⟩:=x;obtain ⟨b0,b1,b2⟩:=y;have hl:=(List.getElem?_eq_some_iff.1 hi).1;have nx:∀ z:Ce,(xs.set i z)[i]? = some z:=fun z=>by rw [List.getElem?_set_self hl]
 have s0:=o.seg Zg (i:=i) (j:=0) (x':=⟨b0,a1,a2⟩) (u:=.int .i64 b0) hi Lr rfl;have s1:=s0.seg Zg (i:=i) (j:=1) (x':=⟨b0,b1,a2⟩) (u:=.int .i64 b1) (nx _) Lr rfl;rw [List.set_set] at s1;have s2:=s1.seg Zg (i:=i) (j:=2) (x':=⟨b0,b1,b2⟩) (u:=.int .i64 b2) (nx _) Lr rfl;rw [List.set_set] at s2;exact s2
theorem fr9 {w:World} {b:Nat} (i0 i1 i2 i3 i4 i5 i6 i7 i8:Nat) (v0 v1 v2 v3 v4 v5 v6 v7 v8:Value):Fr [b] w (((((((((w.setCell ⟨b,i0,none⟩ v0).setCell ⟨b,i1,none⟩ v1).setCell ⟨b,i2,none⟩ v2).setCell ⟨b,i3,none⟩ v3).setCell ⟨b,i4,none⟩ v4).setCell ⟨b,i5,none⟩ v5).setCell ⟨b,i6,none⟩ v6).setCell ⟨b,i7,none⟩ v7).setCell ⟨b,i8,none⟩ v8):=by have hb:b∈[b]:=List.mem_singleton.2 rfl;exact ((((((((Fr.setCell v0 hb).setCell' v1 hb).setCell' v2 hb).setCell' v3 hb).setCell' v4 hb).setCell' v5 hb).setCell' v6 hb).setCell' v7 hb).setCell' v8 hb
theorem fr3c {w:World} {b:Nat} (i0 i1 i2:Nat) (v0 v1 v2:Value):Fr [b] w (((w.setCell ⟨b,i0,none⟩ v0).setCell ⟨b,i1,none⟩ v1).setCell ⟨b,i2,none⟩ v2):=by have hb:b∈[b]:=List.mem_singleton.2 rfl;exact ((Fr.setCell v0 hb).setCell' v1 hb).setCell' v2 hb
theorem meas {n j:Nat} {z:Int} (hz:z=(j:Int)+1) (h:n - (j+1)<n - j):n - z.toNat<n - ((j:Int)).toNat:=by subst hz;rw [show ((j:Int)+1).toNat=j+1 by omega,Int.toNat_natCast];exact h
end Go.Proofs.YthokjbikomjhgaaGreatDoor.Mx
namespace Go.Proofs.YthokjbikomjhgaaGreatDoor.Mx
open Go.RowKit Ar Ref
structure Lok where
 c:Cf
 chunk:Int
 lo:Int
 hi:Int
 most:Int
 line:Int
 i:Int
 count:Int
 s:Int
 k:Int
 g:Int
 lv:Value
 l:List It
def Lok.cells (x:Lok):Array Value:=#[.int .i64 x.c.t,.int .i64 x.c.c,.int .i64 x.c.wd,.int .i64 x.c.v,.int .i64 x.chunk,.int .i64 x.lo,.int .i64 x.hi,.int .i64 x.most,.int .i64 x.line,.int .i64 x.i,.int .i64 x.count,.int .i64 x.s,.int .i64 x.k,.int .i64 x.g,x.lv]
def vg (w:World) (b:Nat) (x:Lok):Prop:=Ob w b 68 x.cells
theorem qx {w:World} {b:Nat} {x:Lok} (h:vg w b x):w.cell? ⟨b,0,none⟩=some (.int .i64 x.c.t)/\w.cell? ⟨b,1,none⟩=some (.int .i64 x.c.c)/\w.cell? ⟨b,2,none⟩=some (.int .i64 x.c.wd)/\w.cell? ⟨b,3,none⟩=some (.int .i64 x.c.v)/\w.cell? ⟨b,4,none⟩=some (.int .i64 x.chunk)/\w.cell? ⟨b,5,none⟩=some (.int .i64 x.lo)/\w.cell? ⟨b,6,none⟩=some (.int .i64 x.hi)/\w.cell? ⟨b,7,none⟩=some (.int .i64 x.most)/\w.cell? ⟨b,8,none⟩=some (.int .i64 x.line)/\w.cell? ⟨b,9,none⟩=some (.int .i64 x.i)/\w.cell? ⟨b,10,none⟩=some (.int .i64 x.count)/\w.cell? ⟨b,11,none⟩=some (.int .i64 x.s)/\w.cell? ⟨b,12,none⟩=some (.int .i64 x.k)/\w.cell? ⟨b,13,none⟩=some (.int .i64 x.g)/\w.cell? ⟨b,14,none⟩=some (x.lv) :=
 ⟨h.cell rfl,h.cell rfl,h.cell rfl,h.cell rfl,h.cell rfl,h.cell rfl,h.cell rfl,h.cell rfl,h.cell rfl,h.cell rfl,h.cell rfl,h.cell rfl,h.cell rfl,h.cell rfl,h.cell rfl⟩
theorem qbq {w:World} {b:Nat} {t:TypeId} {x0 x1 x2 x3:Value} (h:w.heap[b]? = some (.cells #[x0,x1,x2,x3] t (0,0))) :
  w.cell? ⟨b,0,none⟩=some x0/\w.cell? ⟨b,1,none⟩=some x1/\w.cell? ⟨b,2,none⟩=some x2/\w.cell? ⟨b,3,none⟩=some x3 :=
 ⟨by rw [cell_of_row _ _ _ _ _ _ h];rfl,by rw [cell_of_row _ _ _ _ _ _ h];rfl,by rw [cell_of_row _ _ _ _ _ _ h];rfl,by rw [cell_of_row _ _ _ _ _ _ h];rfl⟩
def Lok.new (c:Cf) (chunk lo hi most:Int):Lok:=⟨c,chunk,lo,hi,most,1,0,0,0,0,0,.slice none 0 0,[]⟩
def Lok.on (x:Lok):Lok:=if x.count<=x.i+1 then { x with i:=x.i+1,line:=0 } else { x with i:=x.i+1,line:=2 }
def Vk (l:List It) (key:Int):Option Nat:=l.findIdx? (fun y=>y.k == key)
def J7 (l:List It) (key:Int):Int:=match Vk l key with | some i=>(i:Int) | none=>-1
def q1y:List It->It->List It
 | [],x=>[x]
 | y :: r,x=>if y.k<x.k then y :: q1y r x else x :: y :: r
def q0m (l:List It) (x:It):List It:=match Vk l x.k with | some i=>l.set i x | none=>q1y l x
theorem q61 {l:List It} {x:It} {k:Nat} (hk:k<=l.length) (h1:∀ i y,i<k->l[i]? = some y->y.k<x.k) (h2:∀ y,l[k]? = some y->¬ y.k<x.k):q1y l x=l.take k++[x]++l.drop k:=by
 induction l generalizing k with
 | nil=>simp at hk;subst hk;rfl
 | cons y r ih =>
  unfold q1y;cases k with
  | zero=>rw [qd (h2 y rfl)];rfl
  | succ k =>
   exact Dn
theorem q4b {l:List It} {key:Int} {i:Nat} {y:It} (hy:l[i]? = some y) (hk:y.k=key) (h:∀ j z,j<i->l[j]? = some z->z.k≠key):Vk l key=some i:=by
 unfold Vk;have hlt:=(List.getElem?_eq_some_iff.1 hy).1;rw [List.findIdx?_eq_some_iff_getElem];refine ⟨hlt,?_,fun j hj=>?_⟩
 ·have:l[i]=y:=(List.getElem?_eq_some_iff.1 hy).2;rw [this];simpa using hk
 ·exact Gy
theorem q4f {l:List It} {key:Int} (h:∀ (j:Nat) (z:It),l[j]? = some z->z.k≠key):Vk l key=none:=by unfold Vk;rw [List.findIdx?_eq_none_iff];exact Gv
theorem Kj (c:Cf) (chunk lo hi most:Int) (w:World):Calls Tryz.prog 27 #[c.val,.int .i64 chunk,.int .i64 lo,.int .i64 hi,.int .i64 most] w fun e w'=>∃ b,e = .returned (.pointer (some ⟨b,0,none⟩))/\w.heap.size<=b/\vg w' b (Lok.new c chunk lo hi most)/\Fr [] w w':=by unfold Cf.val;have F0:=(Fr.refl [] w).alloc (.cells #[.int .i64 c.t,.int .i64 c.c,.int .i64 c.wd,.int .i64 c.v] 23);obtain ⟨c0,c1,c2,c3⟩:=qbq (Go.heap_alloc_new w (.cells #[.int .i64 c.t,.int .i64 c.c,.int .i64 c.wd,.int .i64 c.v] 23));go_enter Tryz.func27,Tryz.ntmps27;exact Bp
theorem Z1 (x:Lok) (hi:-1<=x.i/\x.i<=100) (b:Nat) (w:World) (h:vg w b x):Calls Tryz.prog 90 #[.pointer (some ⟨b,0,none⟩)] w fun e w'=>e = .returned (.tuple #[])/\vg w' b x.on/\Fr [b] w w':=by
 generalize hy:x.on=y;have HY:=q9 hy;clear hy;obtain ⟨c0,c1,c2,c3,c4,c5,c6,c7,c8,c9,c10,c11,c12,c13,c14⟩:=qx h;have z:=h.frozen;go_enter Tryz.func90,Tryz.ntmps90;go_wp2_with fail;have h1:vg _ b { x with i:=x.i+1,line:=2 }:=Ob.set (Ob.set h (i:=9) (.int .i64 (x.i+1))) (i:=8) (.int .i64 2);have D1:Fr [b] w ((w.setCell ⟨b,9,none⟩ (.int .i64 (x.i+1))).setCell ⟨b,8,none⟩ (.int .i64 2)):=(Fr.setCell _ Ll).setCell' _ Ll;clear c0 c1 c2 c3 c4 c5 c6 c7 c8 c9 c10 c11 c12 c13 c14 z;generalize ((w.setCell ⟨b,9,none⟩ (.int .i64 (x.i+1))).setCell ⟨b,8,none⟩ (.int .i64 2))=w1 at *;obtain ⟨-,-,-,-,-,-,-,-,-,c9,c10,-,-,-,-⟩:=qx h1;have k9:=qb c9;have k10:=qb c10;clear c9 c10;refine wiq ?_;repeat (go_big_quiet_step (fail))
 refine wpQuiet_nil ?_;intro w2 F2;have h2:=Ob.up h1 F2;have D2:=D1.then F2;clear h1 D1 F2 k9 k10;obtain ⟨c0,c1,c2,c3,c4,c5,c6,c7,c8,c9,c10,c11,c12,c13,c14⟩:=qx h2;have z:=h2.frozen;by_cases hv:x.count<=x.i+1
 ·have hn:y = { x with i:=x.i+1,line:=0 }:=by rw [<- HY.out];unfold Lok.on;simp [hv]
  subst hn;have g:decide (x.i+1≥x.count)=true:=by simpa using hv
  exact Gb
 ·have hn:y = { x with i:=x.i+1,line:=2 }:=by rw [<- HY.out];unfold Lok.on;simp [hv]
  subst hn;have g:decide (x.i+1≥x.count)=false:=by simpa using hv
  exact I6
def ItAtK (l:List It) (key:Int) (u:Value) (w wr:World):Prop:=∃ k,k<=l.length/\u = .int .i64 (k:Nat)/\wr=w/\∀ j z,j<k->l[j]? = some z->z.k≠key
theorem Uz (x:Lok) (key:Int) (b:Nat) (w:World) (hl:x.l.length<=1000) (h:vg w b x) (hs:Sq fT w x.lv x.l) :
  Calls Tryz.prog 165 #[.pointer (some ⟨b,0,none⟩),.int .i64 key] w fun e w'=>e = .returned (.int .i64 (J7 x.l key))/\w=w':=by
 obtain ⟨a,cap,hv,hcap,hmax,-⟩:=id hs;obtain ⟨-,-,-,-,-,-,-,-,-,-,-,-,-,-,c14⟩:=qx h;rw [hv] at c14 hs;clear hv;go_enter Tryz.func165,Tryz.ntmps165;go_wp2_with fail;go_loopw [5] (fun u wr=>ItAtK x.l key u w wr) (fun u _=>x.l.length - (intOf u).toNat);case atStart=>exact ⟨0,Nat.zero_le _,rfl,rfl,by omega⟩
 case round =>
  obtain ⟨k,hk,rfl,rfl,h1⟩:=hrel;by_cases hlt:k<x.l.length
  ·obtain ⟨y,hy⟩:∃ y,x.l[k]? = some y:=⟨x.l[k],List.getElem?_eq_getElem hlt⟩;obtain ⟨g,off,rfl,d0,-,-⟩:=xj hs hy;by_cases hyk:y.k=key
   ·have HR:=q9 (q4b hy hyk h1);have g1:(y.k == key)=true:=by simpa using hyk
    clear hyk hy h1;exact Ha
   ·have g1:(y.k == key)=false:=by simpa using hyk
    have HY:=q9 (qc hy hyk);clear hyk hy;go_wp2_with fail;go_roundw
    case rel=>exact ⟨k+1,by omega,by go_num,rfl,fun j z hj hz=>by
     by_cases e:j=k
     ·subst e;rw [HY.out.1] at hz;cases hz;exact HY.out.2
     ·exact h1 j z Lj hz⟩
    case measure=>simp [intOf];omega
  ·obtain rfl:k=x.l.length:=by omega
   have HR:=q9 (q4f (fun j z hz=>h1 j z (List.getElem?_eq_some_iff.1 hz).1 hz));clear h1;exact Ha
end Go.Proofs.YthokjbikomjhgaaGreatDoor.Mx
namespace Go.Proofs.YthokjbikomjhgaaGreatDoor.Mp
open Go.RowKit Ar
structure An where
 code:Int
 found:Bool
 val:Int
 writer:Int
 version:Int
 pairs:List (Int×Int)
def Yj (a:An) (pv:Value):Value:=.agg #[.int .i64 a.code,.bool a.found,.int .i64 a.val,.int .i64 a.writer,.int .i64 a.version,pv]
end Go.Proofs.YthokjbikomjhgaaGreatDoor.Mp
namespace Go.Proofs.YthokjbikomjhgaaGreatDoor.Mx
open Go.RowKit Ar
section
variable {α:Type} {f:α->List Value} {sz:Nat}
theorem jo {P:Program} {w:World} {ops:Array Oper} {rest:List Oper} {o:Oper} {a:Act} {Q:Exit->Act->World->Prop} (hL:Lays f sz) (hgd:o.guard=none) (s x:Operand) (t:TypeId)
  (ho:o.op = .call { callee:=.builtin .append,args:=#[s,x],argTypes:=#[t,t] }) {E:TypeId} {z:Value} {bytes:Nat} (ht:P.underlying t=some (.slice E)) (hi:(P.info? E).map (fun i=>(i.zero,i.size,i.bytes))=some (some z,sz,bytes)) (hzs:z.cells.size=sz)
  {B:Nat} (v:Value) (os:List α) (hs:a.eval s=v) (hown:w.ownsRow B E sz v os.length (os.flatMap f)) (xv:Value) (ps:List α) (hx:a.eval x=xv) (hp:Sq f w xv ps)
  (hl:os.length+ps.length<=1000000) (hb:bytes<=1000) (hbase:B<=w.heap.size)
  (h:∀ a' c' w',w'.ownsRow B E sz (.slice a' (os++ps).length c') (os++ps).length ((os++ps).flatMap f)->Fr v.ownBlock.toList w w'->(∀ g,g∈(Value.slice a' (os++ps).length c').ownBlock.toList->g∈v.ownBlock.toList\/g=w.heap.size)->wpList P ops Q rest (a.put o.dst (.slice a' (os++ps).length c')) w'):wpList P ops Q (o :: rest) a w:=by
 obtain ⟨ad,cap,rfl,hcap,hm,hc⟩:=hp;obtain ⟨i,hi0,hz,hs0,hb0⟩:=info_parts hi;have hbytes:(os.length+ps.length) * bytes<=140737488355328:=qh (Nat.mul_le_mul hl hb) Lr
 have go:∀ (ad:Addr),(∀ j u,(ps.flatMap f)[j]? = some u->w.cell? (ad.add j)=some u)->a.eval x = .slice (some ad) ps.length cap->wpList P ops Q (o :: rest) a w:=by
  intro ad hcell hx;refine wpList_append_own_at w hgd s x t ho B E i _ sz bytes ht hi0 hz hs0 hb0 hzs hL.pos v os.length _ hs hown ad ps.length cap (ps.flatMap f) hx (hL.flat ps) hcell (hL.ones ps) Ns hbytes hbase fun v' w' h2 h3 _ h5=>?_
  rw [<- List.flatMap_append,<- List.length_append] at h2;obtain ⟨a',c',rfl,-,-⟩:=Qc h2
  exact h a' c' w' h2 (Uq h3) (fun g hg=>by
   rcases h5 with h5 | h5
   ·rw [h5] at hg;exact .inl hg
   ·rw [h5] at hg;simp at hg;exact .inr hg)
 have hnil:ps.length=0->wpList P ops Q (o :: rest) a w:=by
  intro h0;obtain rfl:ps=[]:=List.eq_nil_of_length_eq_zero h0;cases ad with
  | some ad=>exact go ad (fun j u hu=>by simp at hu) hx
  | none =>
   have hown':=hown;obtain ⟨hxl,hv⟩:=hown
   have hle:∃ b0 c0,v = .slice b0 os.length c0/\os.length<=c0:=Cr
   obtain ⟨b0,c0,rfl,hle⟩:=hle;refine wpList_plain hgd fun K hK=>?_
   have hr:=run_append_nothing (P:=P) w t t o.type E i ht hi0 b0 os.length c0 hle (.slice none 0 cap) (by rw [hs0];exact Src.ofNil w ht cap);unfold Oper.wp execOp;have hx':a.eval x = .slice none 0 cap:=hx;simp only [ho,resolve,invoke,builtin,Sem.run_bind,Sem.run_pure,Result.andThen_ok,List.map_toArray,List.map_cons,List.map_nil,hs,hx',hr];have h':=h b0 c0 w;rw [List.append_nil] at h';exact hK _ _ (h' hown' (Fr.refl _ _) (fun g hg=>.inl hg))
 exact Dv
end
end Go.Proofs.YthokjbikomjhgaaGreatDoor.Mx
namespace Go.Proofs.YthokjbikomjhgaaGreatDoor.Mx
open Go.RowKit Ar Ref
def Pb (w:World) (b:Nat) (T:TypeId) (pre post cs:Array Value):Prop:=Ob w b T (pre++cs++post)
theorem Pb.lt {w:World} {b:Nat} {T:TypeId} {pre post cs:Array Value} (h:Pb w b T pre post cs):b<w.heap.size:=Ob.lt h
theorem Pb.kept {S:List Nat} {w w':World} {b:Nat} {T:TypeId} {pre post cs:Array Value} (h:Pb w b T pre post cs) (f:Fr S w w') (hb:b∉S):Pb w' b T pre post cs:=Ob.kept h f hb
theorem Pb.up {w w':World} {b:Nat} {T:TypeId} {pre post cs:Array Value} (h:Pb w b T pre post cs) (f:Fr [] w w'):Pb w' b T pre post cs:=Ob.up h f
theorem Pb.frozen {w:World} {b:Nat} {T:TypeId} {pre post cs:Array Value} (h:Pb w b T pre post cs) (i:Nat):w.frozen? ⟨b,i,none⟩=false:=Ob.frozen h i
theorem Pb.cell {w:World} {b:Nat} {T:TypeId} {pre post cs:Array Value} (h:Pb w b T pre post cs) {o:Nat} (ho:pre.size=o) {i:Nat} {v:Value} (hv:cs[i]? = some v):w.cell? ⟨b,o+i,none⟩=some v:=by subst ho;have hi:=(Array.getElem?_eq_some_iff.1 hv).1;refine Ob.cell h ?_;rw [Array.getElem?_append_left Lu,Array.getElem?_append_right Lj,show pre.size+i - pre.size=i by omega];exact hv
theorem Pb.set {w:World} {b:Nat} {T:TypeId} {pre post cs:Array Value} (h:Pb w b T pre post cs) {o:Nat} (ho:pre.size=o) {i:Nat} (hi:i<cs.size) (v:Value):Pb (w.setCell ⟨b,o+i,none⟩ v) b T pre post (cs.setIfInBounds i v):=by
 subst ho;have:=Ob.set (i:=pre.size+i) h v;unfold Pb
 have e:(pre++cs++post).setIfInBounds (pre.size+i) v=pre++cs.setIfInBounds i v++post:=by
  apply Array.ext';simp only [Array.toList_setIfInBounds,Array.toList_append];have h1:pre.toList.length=pre.size:=by simp
  have h2:cs.toList.length=cs.size:=by simp
  rw [List.append_assoc,List.append_assoc,List.set_append_right _ _ Lj,h1,show pre.size+i - pre.size=i by omega,List.set_append_left _ _ Lj]
 rw [<- e];exact this
end Go.Proofs.YthokjbikomjhgaaGreatDoor.Mx
