/- Parts. -/
import Derived.Test.YtbddhncgemeohaaGreatDoorYaa
import Derived.Test.YtbddhncgemeohaaGreatDoorYab
import Derived.Test.YtbddhncgemeohaaGreatDoorYac
import Derived.LaidEql
import Derived.Lib.IfaceEq
import Derived.RowKitTokens
import Derived.Stop.Asserts
import Derived.Stop.IfaceNil
set_option linter.unusedVariables false
set_option linter.unusedSimpArgs false
set_option maxRecDepth 100000
set_option maxHeartbeats 12800000
namespace Go.Proofs.YtbddhncgemeohaaGreatDoor.Er
open Go.RowKit Go.Extern.Stop Go.Stop Go.Extern Ar
theorem isE:Tryz.prog.isIface 53=true:=by kernel_rfl
end Go.Proofs.YtbddhncgemeohaaGreatDoor.Er
namespace Go.Proofs.YtbddhncgemeohaaGreatDoor.Og
open Go.RowKit Go.Maps Ar
def Z0 (t c wd v:Int) (rs:List (List O)) (ps:List Int):Int:=if Pl.code t c wd v=0 then (if large t rs ps=true then 12 else if rs.all qd0=true then 0 else 10) else Pl.code t c wd v
theorem q2a {w:World} {b:Nat} {t:TypeId} {x0 x1 x2 x3 x4 x5 x6:Value} (h:w.heap[b]? = some (.cells #[x0,x1,x2,x3,x4,x5,x6] t (0,0))) :
  w.cell? ⟨b,0,none⟩=some x0/\w.cell? ⟨b,1,none⟩=some x1/\w.cell? ⟨b,2,none⟩=some x2/\w.cell? ⟨b,3,none⟩=some x3/\w.cell? ⟨b,4,none⟩=some x4/\w.cell? ⟨b,5,none⟩=some x5/\w.cell? ⟨b,6,none⟩=some x6 :=
 ⟨by rw [cell_of_row _ _ _ _ _ _ h];rfl,by rw [cell_of_row _ _ _ _ _ _ h];rfl,by rw [cell_of_row _ _ _ _ _ _ h];rfl,by rw [cell_of_row _ _ _ _ _ _ h];rfl,by rw [cell_of_row _ _ _ _ _ _ h];rfl,by rw [cell_of_row _ _ _ _ _ _ h];rfl,by rw [cell_of_row _ _ _ _ _ _ h];rfl⟩
theorem qbz {w w':World} (f:Fr [] w w') {b:Nat} {o:Obj} (h:w.heap[b]? = some o):w'.heap[b]? = some o:=f.heap h Ma
def sc (r:Nat):Value:=.agg #[.int .i64 2,.int .i64 4,.int .i64 200,.int .i64 1000,.slice (some ⟨r,0,none⟩) 1 1,.slice none 0 0,.slice none 0 0]
end Go.Proofs.YtbddhncgemeohaaGreatDoor.Og
namespace Go.Proofs.YtbddhncgemeohaaGreatDoor.Pl
open Go.RowKit Ar
theorem Qt {n:Nat} (h:n<1000):n<maxLen:=by unfold maxLen;omega
theorem xc {k:Int} (h1:-1000000<=k) (h2:k<=1000000):(Lit.int .i64 k).wf=true:=WalkArith.wf_i64 Ly
def qd4 (t c:Int) (w:World) (e:Ending) (w':World):Prop:=∃ b n g,e = .returned (.map (some b))/\w.heap.size<=b/\n<=3/\q62 w' b n g/\Fr [] w w' /\
 ∀ k,g k=if k=2 then some (21+t+3 * c) else if k=7+t then some (-1) else if k=9+t then some (2 * (14+t)) else none
theorem W6 (t c wd v:Int) (h1:1<=t) (h2:t<=8) (h3:1<=c) (h4:c<=16) (w:World) :
  Calls Tryz.prog 42 #[.agg #[.int .i64 t,.int .i64 c,.int .i64 wd,.int .i64 v]] w (qd4 t c w):=by
 have hmm:=@run_makeMap Tryz.prog;go_enter Tryz.func42,Tryz.ntmps42;go_wp2_with fail;refine (Qb t c wd v h1 h2 _).mono ?_;rintro e w1 ⟨rfl,F1⟩;have hb:=F1.heap (Go.heap_alloc_new w (.cells #[.int .i64 t,.int .i64 c,.int .i64 wd,.int .i64 v] 23)) Ma;have G1:=((Fr.refl [] w).alloc _).trans F1;have HB:=qb hb;have HG:=qb G1;clear hb G1 F1;go_wp2;refine ze Me [] (fun w2 F2=>?_);refine epq [false,true,true,false,true,true,false,true,true,true,true,true,false,false,false] 6 F2 ?_;apply qh;refine ⟨fun wf Ff=>?_,?_⟩
 ·obtain ⟨c0,c1,c2,c3⟩:=xj (Ff.heap HB.out Ma);have k0:=qc c0;have k1:=qc c1;have k2:=qc c2;have k3:=qc c3;clear c0 c1 c2 c3 Ff;simp only [sel];repeat (go_big_quiet_step ((first | (go_at_call 23;exact Calls.in_ (Zj _ _ _ _ h1 h2 _)) | (go_at_call 58;exact Calls.in_ (Yj _ _ _ _ h1 h2 h3 h4 _)))))
  exact wpQuiet_nil rfl
 refine eoq 0 (fun w3 F3=>?_);go_wp2;have D:=(F2.trans F3).alloc (.map #[] 0);have M:=q62.made w3;have hb:w1.heap.size<=w3.heap.size:=(F2.trans F3).size;generalize w3.alloc (.map #[] 0)=w4 at D M ⊢;generalize w3.heap.size=b at M hb ⊢;clear F2 F3;refine qo ⟨D,?_⟩;refine jh [3,6,12] Me Ma (fun w5 F5 i hi o ho=>?_);have M5:=M.kept F5 Ma;have D5:=D.trans F5;clear D F5 M;simp only [List.mem_cons,List.not_mem_nil,or_false] at hi;rcases hi with rfl | rfl | rfl
 ·obtain rfl:=qj ho;refine x8 rfl _ _ _ rfl _ _ rfl rfl rfl M5 (Qt Ly) (xc Ly Ly) (xc Ly Ly) ?_;intro w6 M6 F6;have D6:=D5.own F6 Ml;simp only [Act.put];clear M5 D5 F6 ho;refine qo ⟨D6,?_⟩;refine jh [6,12] Me Ma (fun w7 F7 i hi o ho=>?_);have M7:=M6.kept F7 Ma;have D7:=D6.trans F7;clear D6 F7 M6;simp only [List.mem_cons,List.not_mem_nil,or_false] at hi;rcases hi with rfl | rfl
  ·exact Im
  ·exact Ip
 ·obtain rfl:=qj ho;refine x8 rfl _ _ _ rfl _ _ rfl rfl rfl M5 (Qt Ly) (xc Ly Ly) (xc Ly Ly) ?_;intro w6 M6 F6;have D6:=D5.own F6 Ml;simp only [Act.put];clear M5 D5 F6 ho;refine qo ⟨D6,?_⟩;refine jh [3,12] Me Ma (fun w7 F7 i hi o ho=>?_);have M7:=M6.kept F7 Ma;have D7:=D6.trans F7;clear D6 F7 M6;simp only [List.mem_cons,List.not_mem_nil,or_false] at hi;rcases hi with rfl | rfl
  ·exact Im
  ·exact Io
 ·obtain rfl:=qj ho;refine x8 rfl _ _ _ rfl _ _ rfl rfl rfl M5 (Qt Ly) (xc Ly Ly) (xc Ly Ly) ?_;intro w6 M6 F6;have D6:=D5.own F6 Ml;simp only [Act.put];clear M5 D5 F6 ho;refine qo ⟨D6,?_⟩;refine jh [3,6] Me Ma (fun w7 F7 i hi o ho=>?_);have M7:=M6.kept F7 Ma;have D7:=D6.trans F7;clear D6 F7 M6;simp only [List.mem_cons,List.not_mem_nil,or_false] at hi;rcases hi with rfl | rfl
  ·exact Ip
  ·exact Io
def begun (t c wd:Int):St:=(((St.fresh wd.toNat).vg 2 (21+t+3 * c)).vg (7+t) (-1)).vg (9+t) (2 * (14+t))
theorem St.ext' {s u:St} (hl:s.l.length=u.l.length) (hi:∀ i,i<s.l.length->nth s.l i=nth u.l i) (hn:s.n=u.n) (ha:s.a=u.a):s=u:=by
 obtain ⟨l,n,a⟩:=s;obtain ⟨l',n',a'⟩:=u;simp only at hl hi hn ha;subst hn;subst ha
 have:l=l':=List.ext_getElem hl fun i h1 h2=>by have:=hi i h1;simpa [nth,List.getD_eq_getElem?_getD,h1,h2] using this
 rw [this]
def Qs (t c:Int) (k:Int):Int:=if k=2 then 21+t+3 * c else if k=7+t then -1 else if k=9+t then 2 * (14+t) else 0
theorem Jr {t c wd:Int} (h1:1<=t) (h2:t<=8) (h3:1<=c) (hw:21+t+3 * c<=wd) :
  (begun t c wd).l.length=wd.toNat/\(∀ i:Nat,i<wd.toNat->nth (begun t c wd).l i=Qs t c i)/\(begun t c wd).n=0/\(begun t c wd).a=⟨0,0,0,0,false⟩:=by
 obtain ⟨n,rfl⟩:=Int.eq_ofNat_of_zero_le (show 0<=wd by omega);obtain ⟨m,rfl⟩:=Int.eq_ofNat_of_zero_le (show 0<=t by omega);have e7:(7:Int)+(m:Int)=((7+m:Nat):Int):=by omega
 have e9:(9:Int)+(m:Int)=((9+m:Nat):Int):=by omega
 have e2:(2:Int)=((2:Nat):Int):=rfl;refine ⟨by simp [begun,St.vg,xd,St.fresh],fun i hi=>?_,rfl,rfl⟩;simp only [Int.toNat_natCast] at hi;have hf:nth (St.fresh (Int.toNat (n:Int))).l i=0:=by simp [nth,St.fresh,List.getD_eq_getElem?_getD,hi]
 simp only [begun,St.vg,e7,e9];rw [Jh _ (by simp [xd,St.fresh];omega),Jh _ (by simp [xd,St.fresh];omega),e2,Jh _ (by simp [St.fresh];omega),hf,Qs];by_cases a2:i=2
 ·subst a2;rw [qf Ly,qf Ly,qg rfl];exact (qg rfl).symm
 by_cases a7:i=7+m
 ·subst a7;rw [qf Ly,qg rfl,qf Ly,qg Ly]
 by_cases a9:i=9+m
 ·subst a9;rw [qg rfl,qf Ly,qf Ly,qg Ly];rfl
 ·rw [qf a9,qf a7,qf a2,qf Ly,qf Ly,qf Ly]
theorem q4j {t c:Int} {n:Nat} (k:Nat) (h1:1<=t) (h2:t<=8) (h3:1<=c) (hw:21+t+3 * c<=n) (hk:k<n):qx (begun t c n).l k=Qs t c k:=by obtain ⟨b1,b2,_,_⟩:=Jr (wd:=n) h1 h2 h3 hw;simp only [Int.toNat_natCast] at b1 b2;rw [U6 Ly,b2 k hk]
theorem is_of {n:Int} (t c wd v:Int) (h:code t c wd v=n) (w:World) :
  Calls Tryz.prog 41 #[.agg #[.int .i64 t,.int .i64 c,.int .i64 wd,.int .i64 v]] w fun e w'=>e = .returned (qdz n)/\Fr [] w w':=h ▸ qdc t c wd v w
def Lays (t c:Int) (w:World) (b r p q n m:Nat) (D:DataW Unit) (wr:World):Prop:=∃ left cnt s,wr.ranges Tryz.prog 3 (plainElem (H:=Unit) Tryz.prog 3) b r m D left cnt/\(∀ kl,left kl=true->Maps.has D kl=true) /\
 Ar wr p q s/\s.l.length=n/\s.n=0/\s.a=⟨0,0,0,0,false⟩/\(∀ i:Nat,i<n->nth s.l i=if left (.int .i64 i)=true then 0 else Qs t c i)/\Fr [] w wr
def qdw (w:World) (s:St) (e:Ending) (w':World):Prop:=∃ p q,e = .returned (.tuple #[.pointer (some ⟨p,0,none⟩),.nilIface])/\w.heap.size<=p/\w.heap.size<=q/\Ar w' p q s/\Fr [] w w'
theorem Jw {t c k v:Int} {g:Int->Option Int} (hg:∀ k,g k=if k=2 then some (21+t+3 * c) else if k=7+t then some (-1) else if k=9+t then some (2 * (14+t)) else none) :
  (g k=some v->v=Qs t c k/\(k=2\/k=7+t\/k=9+t))/\(g k=none->Qs t c k=0):=by
 rw [hg k,Qs];by_cases e1:k=2
 ·rw [qg e1,qg e1];exact ⟨fun h=>⟨(qj h).symm,.inl e1⟩,fun h=>by cases h⟩
 ·rw [qf e1,qf e1];by_cases e2:k=7+t
  ·rw [qg e2,qg e2];exact ⟨fun h=>⟨(qj h).symm,.inr (.inl e2)⟩,fun h=>by cases h⟩
  ·rw [qf e2,qf e2];by_cases e3:k=9+t
   ·rw [qg e3,qg e3];exact ⟨fun h=>⟨(qj h).symm,.inr (.inr e3)⟩,fun h=>by cases h⟩
   ·rw [qf e3,qf e3];exact ⟨(fun h=>by cases h),fun _=>rfl⟩
theorem q4e {t c:Int} {w w5 w6:World} {b p q n m:Nat} {D:DataW Unit} {g:Int->Option Int} (hD:Holds D g) (hg:∀ k,g k=if k=2 then some (21+t+3 * c) else if k=7+t then some (-1) else if k=9+t then some (2 * (14+t)) else none)
  (h1:w6.ranges Tryz.prog 3 (plainElem (H:=Unit) Tryz.prog 3) b w5.heap.size m D (Maps.has D) (Maps.size D)) (h2:w5.grownBy w6 none) (A:Ar w5 p q (St.fresh n)) (F:Fr [] w w5):Lays t c w b w5.heap.size p q n m D w6:=by
 refine ⟨_,_,St.fresh n,h1,fun _ h=>h,A.kept (Fr.grown h2) Ma Ma,by simp [St.fresh],rfl,rfl,fun i hi=>?_,F.trans (Fr.grown h2)⟩;rw [show nth (St.fresh n).l i=0 by simp [nth,St.fresh,List.getD_eq_getElem?_getD,hi]];split
 ·rfl
 ·rename_i hh;rw [(hD.2 i).1] at hh;have:g i=none:=by cases hgi:g i with | none=>rfl | some u=>rw [hgi] at hh;simp at hh
  exact ((Jw (v:=0) hg).2 this).symm
theorem q83 {t c:Int} {n p q:Nat} {s:St} {wr:World} {left:Lit->Bool} (h1:1<=t) (h2:t<=8) (h3:1<=c) (hw:21+t+3 * c<=n) (hl:∀ kl,left kl=false) (A:Ar wr p q s) (e1:s.l.length=n) (e2:s.n=0) (e3:s.a=⟨0,0,0,0,false⟩)
  (e4:∀ i:Nat,i<n->nth s.l i=if left (.int .i64 i)=true then 0 else Qs t c i):Ar wr p q (begun t c n):=by
 obtain ⟨b1,b2,b3,b4⟩:=Jr (wd:=n) h1 h2 h3 hw;simp only [Int.toNat_natCast] at b1 b2;have:s=begun t c n:=St.ext' (by rw [e1,b1]) (fun i hi=>by rw [e4 i Ly,b2 i Ly,qf (by simp [hl])]) (by rw [e2,b3]) (by rw [e3,b4]);exact this ▸ A
theorem q86 {a b:Int}:(Lit.int .i64 a).sameKey (.int .i64 b)=decide (a=b):=by
 by_cases h:a=b
 ·subst h;simp [Lit.sameKey]
 ·rw [Maps.sameKey_ne (fun e=>h (by cases e;rfl))];simp [h]
theorem q80 {t c x v:Int} {w w1 w2:World} {b r p q n m cnt1:Nat} {D:DataW Unit} {g:Int->Option Int} {left:Lit->Bool} {s:St} (h1:1<=t) (hw:21+t+3 * c<=n) (h3:1<=c) (hD:Holds D g)
  (hg:∀ k,g k=if k=2 then some (21+t+3 * c) else if k=7+t then some (-1) else if k=9+t then some (2 * (14+t)) else none)
  (hlx:left (.int .i64 x)=true) (hhas:∀ kl,left kl=true->Maps.has D kl=true) (hat:∀ zd,D.atKey (.int .i64 x) zd = .lit (.int .i64 v))
  (hrg:w1.ranges Tryz.prog 3 (plainElem (H:=Unit) Tryz.prog 3) b r m D (fun z=>left z && !z.sameKey (.int .i64 x)) cnt1) (hq:q<b) (hq0:w.heap.size<=q) (hqr:q<r)
  (A:Ar w2 p q (s.vg x v)) (F2:Fr [q] w1 w2) (G1:Fr [] w w1) (e1:s.l.length=n) (e2:s.n=0) (e3:s.a=⟨0,0,0,0,false⟩) (e4:∀ i:Nat,i<n->nth s.l i=if left (.int .i64 i)=true then 0 else Qs t c i):Lays t c w b r p q n m D w2/\w2.rangeLeft b r=cnt1:=by
 have hgx:g x=some v/\v=Qs t c x/\(x=2\/x=7+t\/x=9+t):=by
  have:=hhas _ hlx;rw [(hD.2 x).1] at this;cases hgx:g x with
  | none=>rw [hgx] at this;simp at this
  | some u =>
   have h:=(hD.2 x).2 u hgx (.nil);rw [hat] at h;cases h;exact ⟨rfl,(Jw hg).1 hgx⟩
 obtain ⟨_,hv,hx⟩:=hgx;obtain ⟨k,rfl⟩:=Int.eq_ofNat_of_zero_le (show 0<=x by omega);have hk:k<n:=by omega
 have hrq:(some q:Option Nat)≠some b:=fun e=>Nat.ne_of_lt hq (qj e)
 have hrg2:=hrg.kept (row:=some q) ⟨F2.os,F2.tape,F2.output,F2.size,fun i hi hn=>F2.block i hi (by simpa using fun e=>hn (by rw [e]))⟩ (Ne.symm hrq) (fun e=>Nat.ne_of_gt hqr (qj e));refine ⟨⟨_,cnt1,s.vg k v,hrg2,fun kl h=>hhas kl (by simp at h;exact h.1),A,by simp [St.vg,xd,e1],e2,e3,fun i hi=>?_,G1.own F2 (by simpa using hq0)⟩,hrg2.left_eq⟩;simp only [St.vg];rw [Jh v Ly,e4 i hi,q86];by_cases hik:i=k
 ·subst hik;simp [hv]
 ·have:¬ ((i:Int)=(k:Int)):=by omega
  simp [hik,this]
theorem q8j (t c wd v:Int) (h:code t c wd v=0) (w:World) :
  Calls Tryz.prog 22 #[.agg #[.int .i64 t,.int .i64 c,.int .i64 wd,.int .i64 v]] w (qdw w (begun t c wd)):=by
 have hf:form t c wd v=true/\21+t+3 * c<=wd:=by
  unfold code at h;split at h
  ·rename_i h1;split at h
   ·rename_i h2;exact ⟨h1,h2⟩
   ·cases h
  ·cases h
 obtain ⟨t1,t2,c1,c2,v1,v2,w1,w2⟩:=Zx.1 hf.1;obtain ⟨n,rfl⟩:=Int.eq_ofNat_of_zero_le (show 0<=wd by omega);have hw:=hf.2;have H:=qb (is_of t c n v h);have HF:=qb (W6 t c n v t1 t2 Ly c2);clear h hf v1 v2;have isE:Tryz.prog.isIface 53=true:=by kernel_rfl
 have e0:qdz 0 = .nilIface:=rfl;rw [e0] at H;clear e0;go_enter Tryz.func22,Tryz.ntmps22;go_wp2_with fail;refine (H.out _).mono ?_;rintro e w3 ⟨rfl,F3⟩;obtain ⟨k0,k1,k2,k3⟩:=xj (F3.heap (Go.heap_alloc_new w (.cells #[.int .i64 t,.int .i64 c,.int .i64 n,.int .i64 v] 23)) Ma);have G3:=((Fr.refl [] w).alloc _).trans F3;clear F3 H;go_wp2_with fail;refine (q2f n n Ly Ly Ly _).mono ?_;rintro e w4 ⟨p,q,rfl,hp,hq,A4,F4⟩;have j0:=F4.cell k0 Ma;have j1:=F4.cell k1 Ma;have j2:=F4.cell k2 Ma;have j3:=F4.cell k3 Ma;have G4:=G3.trans F4;have hp':=qi G3.size hp;have hq':=qi G3.size hq;clear F4 G3 k0 k1 k2 k3 hp hq;go_wp2_with fail;refine (HF.out _).mono ?_;rintro e w5 ⟨b,m,g,rfl,hb,hm,M5,F5,hg⟩;have A5:=A4.kept F5;have hpb:=ql A4.lt.1 hb;have hqb:=ql A4.lt.2 hb;have G5:=G4.trans F5;have hb':=qi G4.size hb;clear F5 G4 j0 j1 j2 j3 HF A4 hb;obtain ⟨D,hown,hD⟩:=M5;go_wp2_with (at_range;refine wpList_range_own _ rfl _ 80 rfl 3 3 q7n Tryz.underlying80 _ b m _ rfl hown ?_;intro w6 hrg6 hg6 hs6);have L:=q4e hD hg hrg6 hg6 A5 G5;have hqr:q<w5.heap.size:=A5.lt.2;have hbr:b<w5.heap.size:=hown.lt;have hbw:w.heap.size<=w5.heap.size:=G5.size;generalize w5.heap.size=r at L hqr hbr hbw ⊢;have HL:=qb L;have Hg:=qb hg;clear L hrg6 hg6 hs6 hown G5 A5 hg;go_frame;go_loopw [6] (fun _ wr=>Lays t c w b r p q n m D wr) (fun _ wr=>wr.rangeLeft b r);case atStart=>exact HL.out
 case round =>
  obtain ⟨left,cnt,s,hrg,hhas,A,e1,e2,e3,e4,F⟩:=hrel;go_wp2_with (at_next;refine wpList_next_ranges_ii _ rfl _ rfl 3 3 .i64 .i64 q7n Tryz.underlying3 Tryz.underlying3 b r m _ _ _ rfl hrg ?_ ?_)
  ·intro _ hl0;have A':=q83 t1 t2 Ly hw hl0 A e1 e2 e3 e4;clear e1 e2 e3 e4 A hl0;go_wp2;go_ret2;exact ⟨p,q,rfl,hp',hq',A',F⟩
  ·intro x u wn cnt1 hwx hwc hlx hat hrg1 hlt hg1 hs1 hen;have Fn:Fr [r] _ wn:=Fr.grownAt hg1;have An:=A.kept Fn Ml Ml;have Gn:=F.own Fn (by simpa using hbw);have K:=qb (qd hlx (qd hat (qd hhas (qd e1 (qd e2 (qd e3 e4))))));have Hr:=qb hrg;have Hr1:=qb hrg1;clear hlx hat hhas e1 e2 e3 e4 Fn A F hg1 hs1 hrg hrg1;go_wp2_with (go_at_call 19;refine (Q3 _ p q s x u An).mono ?_;rintro e wz ⟨rfl,Az,Fz⟩);obtain ⟨hlx,hat,hhas,e1,e2,e3,e4⟩:=K.out;have L:=q80 t1 hw Ly hD Hg.out hlx hhas hat Hr1.out hqb hq' hqr Az Fz Gn e1 e2 e3 e4;have L1:=qb L.1;have L2:=qb L.2;clear L hlx hat hhas e1 e2 e3 e4;go_roundw;case rel=>exact L1.out
   case measure=>rw [L2.out,Hr.out.left_eq];exact hlt
end Go.Proofs.YtbddhncgemeohaaGreatDoor.Pl
namespace Go.Proofs.YtbddhncgemeohaaGreatDoor.Ref
open Go.RowKit Ar Pl
theorem X0 (t c wd v:Int) (h1:1<=c) (h2:c<=16) (w:World) :
  Calls Tryz.prog 39 #[.agg #[.int .i64 t,.int .i64 c,.int .i64 wd,.int .i64 v]] w fun e w'=>e = .returned (.int .i64 (7+3 * c))/\Fr [] w w':=by
 go_enter Tryz.func39,Tryz.ntmps39;exact Av
theorem Q5 (t:Int) (h1:0<=t) (h2:t<=8) (w:World) :
  Calls Tryz.prog 94 #[.int .i64 t] w fun e w'=>e = .returned (.int .i64 (3+t))/\w=w':=by
 go_enter Tryz.func94,Tryz.ntmps94;exact Bu
theorem Qb (t c wd v:Int) (h1:1<=t) (h2:t<=8) (w:World) :
  Calls Tryz.prog 35 #[.agg #[.int .i64 t,.int .i64 c,.int .i64 wd,.int .i64 v]] w fun e w'=>e = .returned (.int .i64 (3+t+4))/\Fr [] w w':=by
 go_enter Tryz.func35,Tryz.ntmps35;exact Av
theorem Vu (t c wd v k:Int) (h1:1<=t) (h2:t<=8) (h3:0<=k) (h4:k<=63) (w:World) :
  Calls Tryz.prog 20 #[.agg #[.int .i64 t,.int .i64 c,.int .i64 wd,.int .i64 v],.int .i64 k] w fun e w'=>e = .returned (.int .i64 (3+t+k / 16))/\Fr [] w w':=by
 go_enter Tryz.func20,Tryz.ntmps20;exact Av
theorem Zj (t c wd v:Int) (h1:1<=t) (h2:t<=8) (w:World) :
  Calls Tryz.prog 38 #[.agg #[.int .i64 t,.int .i64 c,.int .i64 wd,.int .i64 v]] w fun e w'=>e = .returned (.int .i64 (3+t+4+7))/\Fr [] w w':=by
 go_enter Tryz.func38,Tryz.ntmps38;exact Lj
theorem Yj (t c wd v:Int) (h1:1<=t) (h2:t<=8) (h3:1<=c) (h4:c<=16) (w:World) :
  Calls Tryz.prog 16 #[.agg #[.int .i64 t,.int .i64 c,.int .i64 wd,.int .i64 v]] w fun e w'=>e = .returned (.int .i64 (21+t+3 * c))/\Fr [] w w':=by
 go_enter Tryz.func16,Tryz.ntmps16;go_wp2_with fail;obtain ⟨c0,c1,c2,c3⟩:=xj (Go.heap_alloc_new w (.cells #[.int .i64 t,.int .i64 c,.int .i64 wd,.int .i64 v] 23));have k0:=qc c0;have k1:=qc c1;have k2:=qc c2;have k3:=qc c3;clear c0 c1 c2 c3;refine wiq ?_;repeat (go_big_quiet_step ((first | (go_at_call 38;exact Calls.in_ (Zj _ _ _ _ h1 h2 _)) | (go_at_call 39;exact Calls.in_ (X0 _ _ _ _ h3 h4 _)))))
 exact Eo
theorem q0p (t c wd v:Int) (h:t<1\/8<t\/c<t+2\/16<c\/v<1\/1048576<v\/wd<1\/20000<wd) (w:World) :
  Calls Tryz.prog 43 #[.agg #[.int .i64 t,.int .i64 c,.int .i64 wd,.int .i64 v]] w fun e w'=>e = .returned (.int .i64 10)/\Fr [] w w':=by
 by_cases a1:t<1
 ·clear h;exact La
 by_cases a2:8<t
 ·clear h;have b1:decide (t<1)=false:=by simpa using a1
  clear a1;exact La
 have b1:decide (t<1)=false:=by simpa using a1
 have b2:decide (8<t)=false:=by simpa using a2
 have t1:1<=t:=by omega
 have t2:t<=8:=by omega
 clear a1 a2;by_cases a3:c<t+2
 ·clear h;exact La
 have b3:decide (c<t+2)=false:=by simpa using a3
 clear a3;by_cases a4:16<c
 ·clear h;exact La
 have b4:decide (16<c)=false:=by simpa using a4
 clear a4;by_cases a5:v<1
 ·clear h;exact La
 have b5:decide (v<1)=false:=by simpa using a5
 clear a5;by_cases a6:1048576<v
 ·clear h;exact La
 have b6:decide (1048576<v)=false:=by simpa using a6
 clear a6;by_cases a7:wd<1
 ·clear h;exact La
 have b7:decide (wd<1)=false:=by simpa using a7
 have a8:20000<wd:=by simp at b3 b4 b5 b6 b7;omega
 clear a7 h;exact La
theorem q1q (t c wd v:Int) (h:form t c wd v=true) (w:World) :
  Calls Tryz.prog 43 #[.agg #[.int .i64 t,.int .i64 c,.int .i64 wd,.int .i64 v]] w fun e w'=>e = .returned (.int .i64 (if 21+t+3 * c<=wd then 0 else 14))/\Fr [] w w':=by
 obtain ⟨t1,t2,c1,c2,v1,v2,w1,w2⟩:=Zx.1 h;have TP:=qb (Yj t c wd v t1 t2 Ly c2);have b1:decide (t<1)=false:=by simp;omega
 have b2:decide (8<t)=false:=by simp;omega
 have b3:decide (c<t+2)=false:=by simp;omega
 have b4:decide (16<c)=false:=by simp;omega
 have b5:decide (v<1)=false:=by simp;omega
 have b6:decide (1048576<v)=false:=by simp;omega
 have b7:decide (wd<1)=false:=by simp;omega
 have b8:decide (20000<wd)=false:=by simp;omega
 clear h c1 c2 v1 v2 w1 w2;by_cases hf:21+t+3 * c<=wd
 all_goals
  first | rw [qg hf] | rw [qf hf]
  go_enter Tryz.func43,Tryz.ntmps43
  go_wp2_with fail
  obtain ⟨c0,c1,c2,c3⟩:=xj (Go.heap_alloc_new w (.cells #[.int .i64 t,.int .i64 c,.int .i64 wd,.int .i64 v] 23))
  have k0:=qc c0
  have k1:=qc c1
  have k2:=qc c2
  have k3:=qc c3
  clear c0 c1 c2 c3
  refine wiq ?_
  repeat (go_big_quiet_step ((go_at_call 16;exact Calls.in_ (TP.out _))))
  refine wpQuiet_nil ?_
  intro w1 F1
  have G:=((Fr.refl [] w).alloc _).trans F1
  clear F1
  go_wp2
  go_ret
  exact ⟨rfl,G⟩
theorem q4r (t c wd v:Int) (w:World) :
  Calls Tryz.prog 43 #[.agg #[.int .i64 t,.int .i64 c,.int .i64 wd,.int .i64 v]] w fun e w'=>e = .returned (.int .i64 (code t c wd v))/\Fr [] w w':=by
 cases h:form t c wd v
 ·have hn:¬ form t c wd v=true:=by simp [h]
  rw [Zx] at hn;rw [code,qf Nl];exact q0p t c wd v Ly w
 ·rw [code,qg h];exact q1q t c wd v h w
theorem qbr (k:Int) (h0:0<=k) (h1:k<=1000000) (w:World) :
  Calls Tryz.prog 46 #[.int .i64 k,.int .i64 0,.int .i64 1073741824] w fun e w'=>e = .returned (.int .i64 k)/\w=w':=by
 go_enter Tryz.func46,Tryz.ntmps46;go_wp2
 all_goals
  go_ret
  exact ⟨q25 Ly,rfl⟩
theorem Vj (k:Int) (h0:0<=k) (h1:k<=1000000) (w:World) :
  Calls Tryz.prog 60 #[.int .i64 k,.bool false] w fun e w'=>e = .returned (.int .i64 (2 * k))/\w=w':=by
 go_enter Tryz.func60,Tryz.ntmps60;go_wp2_with fail;refine (qbr k h0 h1 _).mono ?_;rintro e _ ⟨rfl,rfl⟩;go_wp2;go_ret;exact ⟨q25 Ly,rfl⟩
theorem q1y (t c wd v:Int) (h:form t c wd v=true) (hw:21+t+3 * c<=wd) (w:World) :
  Calls Tryz.prog 45 #[.agg #[.int .i64 t,.int .i64 c,.int .i64 wd,.int .i64 v]] w (q8p w (Pl.begun t c wd)):=by
 obtain ⟨t1,t2,c1,c2,v1,v2,w1,w2⟩:=Zx.1 h;obtain ⟨n,rfl⟩:=Int.eq_ofNat_of_zero_le (show 0<=wd by omega);have hz:=Go.heap_alloc_new w (.cells #[.int .i64 t,.int .i64 c,.int .i64 n,.int .i64 v] 23);clear h v1 v2;go_enter Tryz.func45,Tryz.ntmps45;go_wp2_with fail;refine (Ref.q2f n n Ly Ly Ly _).mono ?_;rintro e w3 ⟨p,q,rfl,hp,hq,R,F⟩;obtain ⟨k0,k1,k2,k3⟩:=xj (F.heap hz Ma);have G:=((Fr.refl [] w).alloc (.cells #[.int .i64 t,.int .i64 c,.int .i64 n,.int .i64 v] 23)).trans F;have hp':w.heap.size<=p:=Nat.le_of_lt (Nat.lt_of_succ_le (by simpa using hp));have hq':w.heap.size<=q:=Nat.le_of_lt (Nat.lt_of_succ_le (by simpa using hq));have hbp:w.heap.size≠q:=by simp at hq;omega
 clear F hz hp hq;go_wp2_with fail;refine (Yj t c n v t1 t2 Ly c2 _).mono ?_;rintro e w4 ⟨rfl,F⟩;have k0:=F.cell k0 Ma;have k1:=F.cell k1 Ma;have k2:=F.cell k2 Ma;have k3:=F.cell k3 Ma;have R:=R.kept F;have G:=G.trans F;clear F;go_wp2_with fail;refine (Ref.Q3 _ p q _ 2 (21+t+3 * c) R).mono ?_;rintro e w5 ⟨rfl,R,F⟩;have k0:=F.cell k0 Nj;have k1:=F.cell k1 Nj;have k2:=F.cell k2 Nj;have k3:=F.cell k3 Nj;have G:=G.own F (by simpa using hq');clear F;go_wp2_with fail;refine (Qb t c n v t1 t2 _).mono ?_;rintro e w6 ⟨rfl,F⟩;have k0:=F.cell k0 Ma;have k1:=F.cell k1 Ma;have k2:=F.cell k2 Ma;have k3:=F.cell k3 Ma;have R:=R.kept F;have G:=G.trans F;clear F;go_wp2_with fail;refine (Ref.Q3 _ p q _ (3+t+4) (-1) R).mono ?_;rintro e w7 ⟨rfl,R,F⟩;have k0:=F.cell k0 Nj;have k1:=F.cell k1 Nj;have k2:=F.cell k2 Nj;have k3:=F.cell k3 Nj;have G:=G.own F (by simpa using hq');clear F;go_wp2_with fail;refine ze Me [q] (fun wa Fa=>?_);refine Z2 [true,true,true,true,true,true,true,false] 1 (n:=25) rfl Me Me Me rfl rfl (fun _ _ d _ _ h=>by cases d <;> exact h) (Fa.mono) ?_;apply qh;refine ⟨fun wf Ff=>?_,?_⟩
 ·have k0:=qc (Ff.cell k0 Nj);have k1:=qc (Ff.cell k1 Nj);have k2:=qc (Ff.cell k2 Nj);have k3:=qc (Ff.cell k3 Nj);clear Ff;simp only [sel];repeat (go_big_quiet_step ((first | (go_at_call 35;exact Calls.in_ (Qb _ _ _ _ t1 t2 _)) | (go_at_call 38;exact Calls.in_ (Zj _ _ _ _ t1 t2 _)) | (go_at_call 60;exact Calls.in_same (Vj (3+t+4+7) Ly Ly _)))))
  exact wpQuiet_nil rfl
 have R:=R.kept Fa;have D:Fr [q] _ _:=Fa.mono;have G:=G.trans Fa;refine eoq 7 (fun wb Fb=>?_);have R:=R.kept Fb;have D:=D.then Fb;have G:=G.trans Fb;clear Fa Fb k0 k1 k2 k3;go_wp2_with fail;refine (Ref.Q3 _ p q _ (3+t+4+2) (2 * (3+t+4+7)) R).mono ?_;rintro e w8 ⟨rfl,R,F⟩;have D:=D.trans F;have G:=G.own F (by simpa using hq');clear F;go_wp2_with fail;refine qo ⟨D,?_⟩;refine zw Me (fun wc Fc=>?_);have R:=R.kept Fc;have G:=G.trans Fc;clear Fc D;have E:((St.fresh n).vg 2 (21+t+3 * c)).vg (3+t+4) (-1)=((St.fresh n).vg 2 (21+t+3 * c)).vg (7+t) (-1):=by rw [show 3+t+4=7+t by omega]
 rw [E,show 3+t+4+2=9+t by omega,show 2 * (3+t+4+7)=2 * (14+t) by omega] at R;go_wp2;go_ret;exact ⟨p,q,rfl,hp',hq',R,G⟩
end Go.Proofs.YtbddhncgemeohaaGreatDoor.Ref
namespace Go.Proofs.YtbddhncgemeohaaGreatDoor.Ro
open Go.RowKit Go.Maps Ar Og
def LenAt (w:World) (rs:List (List O)) (x:Value) (wr:World):Prop:=∃ n:Nat,n<=rs.length/\x = .int .i64 n/\wr=w/\∀ i,i<n->long (J9 rs i)=false
def qd2 (w:World) (b:Nat) (Z:Array Value) (rs:List (List O)) (x:Value) (wr:World):Prop:=∃ n:Nat,n<=rs.length/\x = .int .i64 n/\wr.heap[b]? = some (.cells Z 27 (0,0))/\Fr [] w wr/\∀ i,i<n->qd0 (J9 rs i)=true
def qd6 (w:World) (b:Nat) (Z:Array Value) (os:List O) (x:Value) (wr:World):Prop:=∃ n:Nat,n<=os.length/\x = .int .i64 n/\wr.heap[b]? = some (.cells Z 27 (0,0))/\Fr [] w wr/\∀ i,i<n->qb1 (q2j os i)=true
theorem q9d {rs:List (List O)} (h:∀ i,i<rs.length->long (J9 rs i)=false):rs.any long=false:=by rw [List.any_eq_false];intro y hy;obtain ⟨i,hi,rfl⟩:=List.getElem_of_mem hy;exact Gm
theorem J0 (t c wd v:Int) (rs:List (List O)) (ps ds:List Int) (s:Value) (w:World) (h:Scr w s t c wd v rs ps ds) :
  Calls Tryz.prog 24 #[s] w fun e w'=>e = .returned (.int .i64 (Z0 t c wd v rs ps))/\Fr [] w w':=by
 obtain ⟨vo,vp,vd,rfl,hr,hp,hd⟩:=h;obtain ⟨a,cap,x,rfl,hl,hc,hrow⟩:=hr;obtain ⟨a2,cap2,rfl,hl2,-,-⟩:=hp;have HC:=qb hc;have HR:=qb hrow;clear hc hrow hd;unfold maxLen at hl hl2;go_enter Tryz.func24,Tryz.ntmps24;go_wp2_with fail;refine (Ref.q4r t c wd v _).mono ?_;rintro e w1 ⟨rfl,F1⟩;have hb:=F1.heap (Go.heap_alloc_new w (.cells #[.int .i64 t,.int .i64 c,.int .i64 wd,.int .i64 v,.slice a rs.length cap,.slice a2 ps.length cap2,vd] 27)) Ma;have G1:=((Fr.refl [] w).alloc (.cells #[.int .i64 t,.int .i64 c,.int .i64 wd,.int .i64 v,.slice a rs.length cap,.slice a2 ps.length cap2,vd] 27)).trans F1;clear F1;generalize w.heap.size=bs at *;by_cases hcp:Pl.code t c wd v=0
 ·have hsc:Z0 t c wd v rs ps=if large t rs ps=true then 12 else if rs.all qd0=true then 0 else 10:=by rw [Z0,qg hcp]
  rw [hcp];clear hcp;obtain ⟨c0,c1,c2,c3,c4,c5,c6⟩:=q2a hb;by_cases h1:t<rs.length
  ·have g:decide ((rs.length:Int)>t)=true:=by simpa using h1
   have e:large t rs ps=true:=by unfold large;simp [h1]
   exact Gl
  have g:decide ((rs.length:Int)>t)=false:=by simpa using h1
  by_cases h2:20000<ps.length
  ·have g2:decide ((ps.length:Int)>20000)=true:=by simp;omega
   have e:large t rs ps=true:=by unfold large;simp [h2]
   exact Gl
  have g2:decide ((ps.length:Int)>20000)=false:=by simp;omega
  have hlg:large t rs ps=rs.any long:=by unfold large;simp [h1,h2]
  rw [hlg] at hsc;have HB:=qb hb;have HS:=qb hsc;clear hsc hlg hb h1 h2;go_wp2_with fail;go_loopw [4] (LenAt w1 rs) (fun x _=>rs.length - (intOf x).toNat);case atStart=>exact ⟨0,Nat.zero_le _,rfl,rfl,by omega⟩
  case round =>
   obtain ⟨n,hn,rfl,rfl,hi⟩:=hrel;by_cases hlt:n<rs.length
   ·rcases HC.out with hz | ⟨b,off,rfl,hbb,hcell⟩
    ·omega
    have d0:=Zz G1 (hcell n hlt);obtain ⟨a3,cap3,hxe,hl3,-,-⟩:=HR.out n hlt;rw [hxe] at d0;clear hcell hxe;cases hg:long (J9 rs n) with
    | true =>
     have g3:decide (((J9 rs n).length:Int)>1000)=true:=by unfold long at hg;simp at hg ⊢;omega
     have hany:rs.any long=true:=List.any_eq_true.2 ⟨_,Un hlt,hg⟩;clear hg HC HB;go_wp2;go_ret;exact ⟨by rw [HS.out,hany];rfl,G1⟩
    | false =>
     have g3:decide (((J9 rs n).length:Int)>1000)=false:=by unfold long at hg;simp at hg ⊢;omega
     have HG:=qb hg;clear hg;go_wp2;go_roundw
     case rel =>
      refine ⟨n+1,by omega,by go_num,rfl,fun i hi'=>?_⟩;by_cases hin:i=n
      ·rw [hin];exact HG.out
      ·exact hi i Ly
     case measure=>simp [intOf];omega
   ·obtain rfl:n=rs.length:=by omega
    have hany:rs.any long=false:=q9d hi;have HA:=qb hany;clear hi hany hn;go_wp2_with fail;clear c0 c1 c2 c3 c4 c5 c6 g g2;go_loopw [5] (qd2 wr bs #[.int .i64 t,.int .i64 c,.int .i64 wd,.int .i64 v,.slice a rs.length cap,.slice a2 ps.length cap2,vd] rs) (fun x _=>rs.length - (intOf x).toNat);case atStart=>exact ⟨0,Nat.zero_le _,rfl,HB.out,Fr.refl _ _,by omega⟩
    case round =>
     obtain ⟨n,hn,rfl,hb,Fq,hi⟩:=hrel;obtain ⟨c0,c1,c2,c3,c4,c5,c6⟩:=q2a hb;by_cases hlt:n<rs.length
     ·rcases HC.out with hz | ⟨b,off,rfl,hbb,hcell⟩
      ·omega
      go_wp2_with fail;go_loopw [6] (qd6 wr bs #[.int .i64 t,.int .i64 c,.int .i64 wd,.int .i64 v,.slice (some ⟨b,off,none⟩) rs.length cap,.slice a2 ps.length cap2,vd] (J9 rs n)) (fun x _=>(J9 rs n).length - (intOf x).toNat);case atStart=>exact ⟨0,Nat.zero_le _,rfl,hb,Fr.refl _ _,by omega⟩
      case round =>
       obtain ⟨m,hm,rfl,hb2,Fz,hj⟩:=hrel;clear c0 c1 c2 c3 c4 c5 c6 hb;have G2:=(G1.trans Fq).trans Fz;obtain ⟨c0,c1,c2,c3,c4,c5,c6⟩:=q2a hb2;have d0:=Zz G2 (hcell n hlt);obtain ⟨a3,cap3,hxe,hl3,-,hc3⟩:=(HR.out n hlt).up G2;rw [hxe] at d0;unfold maxLen at hl3;by_cases hlt2:m<(J9 rs n).length
       ·rcases hc3 with hz | ⟨b2,off2,rfl,hbb2,hcell2⟩
        ·omega
        obtain ⟨d1,d2,d3,d4⟩:=hcell2 m hlt2;clear hcell2 hxe;go_wp2_with fail;refine (q8c _ _ _ _ _).mono ?_;rintro e wy ⟨rfl,Fy⟩;have hb3:=qbz Fy hb2;clear c0 c1 c2 c3 c4 c5 c6 d0 d1 d2 d3 d4 hb2;cases hg:qb1 (q2j (J9 rs n) m) with
        | false =>
         have hg':=hg;unfold qb1 at hg';rw [hg'];go_wp2;go_ret;exact ⟨by rw [HS.out,HA.out,q76 (Un hlt) (q76 (q87 hlt2) hg)];rfl,G2.trans Fy⟩
        | true =>
         have hg':=hg;unfold qb1 at hg';rw [hg'];go_wp2;go_roundw
         case rel =>
          refine ⟨m+1,by omega,by go_num,hb3,Fz.trans Fy,fun i hi'=>?_⟩;by_cases hin:i=m
          ·rw [hin];exact hg
          ·exact hj i Ly
         case measure=>simp [intOf];omega
       ·obtain rfl:m=(J9 rs n).length:=by omega
        clear hc3 hxe;go_wp2;go_roundw
        case rel =>
         refine ⟨n+1,by omega,by go_num,hb2,Fq.trans Fz,fun i hi'=>?_⟩;by_cases hin:i=n
         ·rw [hin];exact q9r hj
         ·exact hi i Ly
        case measure=>simp [intOf];omega
     ·obtain rfl:n=rs.length:=by omega
      go_wp2;go_ret;exact ⟨by rw [HS.out,HA.out,q8t hi];rfl,G1.trans Fq⟩
 ·have hsc:Z0 t c wd v rs ps=Pl.code t c wd v:=by rw [Z0,qf hcp]
  have g:(Pl.code t c wd v != 0)=true:=by simp [hcp]
  clear hb;generalize Pl.code t c wd v=q at *;clear hcp;go_wp2;go_ret;exact ⟨by rw [hsc];rfl,G1⟩
end Go.Proofs.YtbddhncgemeohaaGreatDoor.Ro
