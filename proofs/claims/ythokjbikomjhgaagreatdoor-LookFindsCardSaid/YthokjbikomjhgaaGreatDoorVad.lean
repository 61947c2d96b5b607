/- Parts. -/
import Derived.Test.YthokjbikomjhgaaGreatDoorVaa
import Derived.Maps.OwnOps
import Derived.Maps.RangeWalk
import Derived.Maps.Views
import Derived.Stop.IfaceNil
set_option linter.unusedVariables false
set_option linter.unusedSimpArgs false
set_option maxRecDepth 100000
set_option maxHeartbeats 12800000
namespace Go.Proofs.YthokjbikomjhgaaGreatDoor.Ar
open Go.RowKit Go.Maps
theorem q70:Keyed Tryz.prog 3:=int_keyed Tryz.underlying3
def Holds (D:DataW Unit) (g:Int->Option Int):Prop :=
 IsMap D/\∀ k:Int,Maps.has D (.int .i64 k)=(g k).isSome/\∀ v,g k=some v->∀ zd,D.atKey (.int .i64 k) zd = .lit (.int .i64 v)
def q3c (w:World) (b n:Nat) (g:Int->Option Int):Prop:=∃ D,w.ownsMap Tryz.prog 3 (plainElem (H:=Unit) Tryz.prog 3) b n D/\Holds D g
theorem q1h:Holds (.map []) (fun _=>none):=⟨isMap_empty,fun k=>⟨rfl,fun v h=>by cases h⟩⟩
theorem Holds.put {D:DataW Unit} {g:Int->Option Int} (h:Holds D g) (k v:Int):Holds (D.put (.int .i64 k) (.lit (.int .i64 v))) (fun x=>if x=k then some v else g x):=by
 obtain ⟨hm,hg⟩:=h;refine ⟨hm.put _ _,fun x=>?_⟩;by_cases hx:x=k
 ·subst hx;have hk:WideAt.IsKeyLit (.int .i64 x):=trivial;exact ⟨by rw [has_put_same hm hk];simp,fun u hu zd=>by simp at hu;subst hu;exact atKey_put_same hm hk _ _⟩
 ·have hne:(Lit.int .i64 x)≠Lit.int .i64 k:=fun e=>hx (by cases e;rfl)
  simp only [qd hx];rw [has_put_other hne];exact ⟨(hg x).1,fun u hu zd=>by rw [atKey_put_other hne];exact (hg x).2 u hu zd⟩
theorem q3c.made (w:World):q3c (w.alloc (.map #[] 0)) w.heap.size 0 (fun _=>none):=⟨_,World.ownsMap_made w _ _ _,q1h⟩
theorem q3c.kept {w w':World} {b n:Nat} {g:Int->Option Int} {S:List Nat} (h:q3c w b n g) (f:Fr S w w') (hb:b∉S):q3c w' b n g:=by obtain ⟨D,⟨es,clock,h1,h2⟩,hD⟩:=h;exact ⟨D,⟨es,clock,f.heap h1 hb,h2⟩,hD⟩
theorem q3c.lt {w:World} {b n:Nat} {g:Int->Option Int} (h:q3c w b n g):b<w.heap.size:=by obtain ⟨D,h1,_⟩:=h;exact h1.lt
theorem Fr.grownAt {w w':World} {b:Nat} (h:w.grownBy w' (some b)):Fr [b] w w':=⟨h.os,h.tape,h.output,h.size,fun k hk hn=>h.block k hk (fun e=>hn (by cases e;simp))⟩
theorem q4x {w:World} {b n:Nat} {g:Int->Option Int} (h:q3c w b n g) (hn:n<maxLen) (k v:Int) (hk:(Lit.int .i64 k).wf=true) (hv:(Lit.int .i64 v).wf=true) :
  ∃ w',(Instr.mapUpdate 191 (.map (some b)) (.int .i64 k) (.int .i64 v)).run Tryz.prog w = .ok () w'/\q3c w' b (n+1) (fun x=>if x=k then some v else g x)/\Fr [b] w w':=by
 obtain ⟨D,h1,hD⟩:=h;obtain ⟨w',r1,r2,r3⟩:=h1.update q70 Tryz.underlying191 hn (keyOf_int_mk Tryz.underlying3 hk) (plainElem_int Tryz.underlying3 hv);exact ⟨w',r1,⟨_,r2,hD.put k v⟩,Fr.grownAt r3⟩
theorem zy {w:World} {ops:Array Oper} {rest:List Oper} {o:Oper} {a:Act} {Q:Exit->Act->World->Prop}
  (hg:o.guard=none) (m x y:Operand) (hop:o.op=Op.insert 191 m x y) {b n:Nat} {g:Int->Option Int} (k v:Int)
  (hm:a.eval m = .map (some b)) (hx:a.eval x = .int .i64 k) (hy:a.eval y = .int .i64 v) (h:q3c w b n g) (hn:n<maxLen) (hk:(Lit.int .i64 k).wf=true) (hv:(Lit.int .i64 v).wf=true)
  (hK:∀ w',q3c w' b (n+1) (fun x=>if x=k then some v else g x)->Fr [b] w w'->wpList Tryz.prog ops Q rest (a.put o.dst undef) w') :
  wpList Tryz.prog ops Q (o :: rest) a w:=by
 refine wpList_plain hg fun K' hK'=>?_
 obtain ⟨w',hrun,r1,r2⟩:=q4x h hn k v hk hv;unfold Oper.wp;simp [execOp,hop,hm,hx,hy,hrun,Result.andThen];exact hK' _ _ (hK w' r1 r2)
end Go.Proofs.YthokjbikomjhgaaGreatDoor.Ar
namespace Go.Proofs.YthokjbikomjhgaaGreatDoor.Pl
open Go.RowKit Ar
theorem Qz {n:Nat} (h:n<1000):n<maxLen:=by unfold maxLen;omega
theorem zz {k:Int} (h1:-1000000<=k) (h2:k<=1000000):(Lit.int .i64 k).wf=true:=WalkArith.wf_i64 Lj
def qcx (t c:Int) (w:World) (e:Ending) (w':World):Prop:=∃ b n g,e = .returned (.map (some b))/\w.heap.size<=b/\n<=3/\q3c w' b n g/\Fr [] w w' /\
 ∀ k,g k=if k=2 then some (21+t+3 * c) else if k=7+t then some (-1) else if k=9+t then some (2 * (14+t)) else none
theorem Wh (t c wd v:Int) (h1:1<=t) (h2:t<=8) (h3:1<=c) (h4:c<=16) (w:World) :
  Calls Tryz.prog 134 #[.agg #[.int .i64 t,.int .i64 c,.int .i64 wd,.int .i64 v]] w (qcx t c w):=by
 have hmm:=@run_makeMap Tryz.prog;go_enter Tryz.func134,Tryz.ntmps134;go_wp2_with fail;refine (Qo t c wd v h1 h2 _).mono ?_;rintro e w1 ⟨rfl,F1⟩;have hb:=F1.heap (Go.heap_alloc_new w (.cells #[.int .i64 t,.int .i64 c,.int .i64 wd,.int .i64 v] 23)) Ll;have G1:=((Fr.refl [] w).alloc _).trans F1;have HB:=q9 hb;have HG:=q9 G1;clear hb G1 F1;go_wp2;refine z7 Lm [] (fun w2 F2=>?_);refine epq [false,true,true,false,true,true,false,true,true,true,true,true,false,false,false] 6 F2 ?_;apply qg;refine ⟨fun wf Ff=>?_,?_⟩
 ·obtain ⟨c0,c1,c2,c3⟩:=yp (Ff.heap HB.out Ll);have k0:=qb c0;have k1:=qb c1;have k2:=qb c2;have k3:=qb c3;clear c0 c1 c2 c3 Ff;simp only [sel];repeat (go_big_quiet_step ((first | (go_at_call 72;exact Calls.in_ (Xc _ _ _ _ h1 h2 _)) | (go_at_call 187;exact Calls.in_ (Kb _ _ _ _ h1 h2 h3 h4 _)))))
  exact wpQuiet_nil rfl
 refine eoq 0 (fun w3 F3=>?_);go_wp2;have D:=(F2.trans F3).alloc (.map #[] 0);have M:=q3c.made w3;have hb:w1.heap.size<=w3.heap.size:=(F2.trans F3).size;generalize w3.alloc (.map #[] 0)=w4 at D M ⊢;generalize w3.heap.size=b at M hb ⊢;clear F2 F3;refine ql ⟨D,?_⟩;refine jc [3,6,12] Lm Ll (fun w5 F5 i hi o ho=>?_);have M5:=M.kept F5 Ll;have D5:=D.trans F5;clear D F5 M;simp only [List.mem_cons,List.not_mem_nil,or_false] at hi;rcases hi with rfl | rfl | rfl
 ·obtain rfl:=qi ho;refine zy rfl _ _ _ rfl _ _ rfl rfl rfl M5 (Qz Lj) (zz Lj Lj) (zz Lj Lj) ?_;intro w6 M6 F6;have D6:=D5.own F6 Lu;simp only [Act.put];clear M5 D5 F6 ho;refine ql ⟨D6,?_⟩;refine jc [6,12] Lm Ll (fun w7 F7 i hi o ho=>?_);have M7:=M6.kept F7 Ll;have D7:=D6.trans F7;clear D6 F7 M6;simp only [List.mem_cons,List.not_mem_nil,or_false] at hi;rcases hi with rfl | rfl
  ·exact Ie
  ·exact Ih
 ·obtain rfl:=qi ho;refine zy rfl _ _ _ rfl _ _ rfl rfl rfl M5 (Qz Lj) (zz Lj Lj) (zz Lj Lj) ?_;intro w6 M6 F6;have D6:=D5.own F6 Lu;simp only [Act.put];clear M5 D5 F6 ho;refine ql ⟨D6,?_⟩;refine jc [3,12] Lm Ll (fun w7 F7 i hi o ho=>?_);have M7:=M6.kept F7 Ll;have D7:=D6.trans F7;clear D6 F7 M6;simp only [List.mem_cons,List.not_mem_nil,or_false] at hi;rcases hi with rfl | rfl
  ·exact Ie
  ·exact Ig
 ·obtain rfl:=qi ho;refine zy rfl _ _ _ rfl _ _ rfl rfl rfl M5 (Qz Lj) (zz Lj Lj) (zz Lj Lj) ?_;intro w6 M6 F6;have D6:=D5.own F6 Lu;simp only [Act.put];clear M5 D5 F6 ho;refine ql ⟨D6,?_⟩;refine jc [3,6] Lm Ll (fun w7 F7 i hi o ho=>?_);have M7:=M6.kept F7 Ll;have D7:=D6.trans F7;clear D6 F7 M6;simp only [List.mem_cons,List.not_mem_nil,or_false] at hi;rcases hi with rfl | rfl
  ·exact Ih
  ·exact Ig
def begun (t c wd:Int):St:=(((St.fresh wd.toNat).yl 2 (21+t+3 * c)).yl (7+t) (-1)).yl (9+t) (2 * (14+t))
theorem St.ext' {s u:St} (hl:s.l.length=u.l.length) (hi:∀ i,i<s.l.length->nth s.l i=nth u.l i) (hn:s.n=u.n) (ha:s.a=u.a):s=u:=by
 obtain ⟨l,n,a⟩:=s;obtain ⟨l',n',a'⟩:=u;simp only at hl hi hn ha;subst hn;subst ha
 have:l=l':=List.ext_getElem hl fun i h1 h2=>by have:=hi i h1;simpa [nth,List.getD_eq_getElem?_getD,h1,h2] using this
 rw [this]
def Qj (t c:Int) (k:Int):Int:=if k=2 then 21+t+3 * c else if k=7+t then -1 else if k=9+t then 2 * (14+t) else 0
theorem Y4 {t c wd:Int} (h1:1<=t) (h2:t<=8) (h3:1<=c) (hw:21+t+3 * c<=wd) :
  (begun t c wd).l.length=wd.toNat/\(∀ i:Nat,i<wd.toNat->nth (begun t c wd).l i=Qj t c i)/\(begun t c wd).n=0/\(begun t c wd).a=⟨0,0,0,0,false⟩:=by
 obtain ⟨n,rfl⟩:=Int.eq_ofNat_of_zero_le (show 0<=wd by omega);obtain ⟨m,rfl⟩:=Int.eq_ofNat_of_zero_le (show 0<=t by omega);have e7:(7:Int)+(m:Int)=((7+m:Nat):Int):=by omega
 have e9:(9:Int)+(m:Int)=((9+m:Nat):Int):=by omega
 have e2:(2:Int)=((2:Nat):Int):=rfl;refine ⟨by simp [begun,St.yl,x7,St.fresh],fun i hi=>?_,rfl,rfl⟩;simp only [Int.toNat_natCast] at hi;have hf:nth (St.fresh (Int.toNat (n:Int))).l i=0:=by simp [nth,St.fresh,List.getD_eq_getElem?_getD,hi]
 simp only [begun,St.yl,e7,e9];rw [Jm _ (by simp [x7,St.fresh];omega),Jm _ (by simp [x7,St.fresh];omega),e2,Jm _ (by simp [St.fresh];omega),hf,Qj];by_cases a2:i=2
 ·subst a2;rw [qd Lj,qd Lj,qf rfl];exact (qf rfl).symm
 by_cases a7:i=7+m
 ·subst a7;rw [qd Lj,qf rfl,qd Lj,qf Lj]
 by_cases a9:i=9+m
 ·subst a9;rw [qf rfl,qd Lj,qd Lj,qf Lj];rfl
 ·rw [qd a9,qd a7,qd a2,qd Lj,qd Lj,qd Lj]
theorem Uc {t c:Int} {n:Nat} (k:Nat) (h1:1<=t) (h2:t<=8) (h3:1<=c) (hw:21+t+3 * c<=n) (hk:k<n):qw (begun t c n).l k=Qj t c k:=by obtain ⟨b1,b2,_,_⟩:=Y4 (wd:=n) h1 h2 h3 hw;simp only [Int.toNat_natCast] at b1 b2;rw [Tf Lj,b2 k hk]
theorem qdg {n:Int} (t c wd v:Int) (h:code t c wd v=n) (w:World) :
  Calls Tryz.prog 133 #[.agg #[.int .i64 t,.int .i64 c,.int .i64 wd,.int .i64 v]] w fun e w'=>e = .returned (qct n)/\Fr [] w w':=h ▸ qdk t c wd v w
theorem qcr (t c wd v:Int):code t c wd v=0\/code t c wd v=10\/code t c wd v=14:=by unfold code;split <;> (try split) <;> simp
theorem make_no (t c wd v n:Int) (hn:n=10\/n=14) (h:code t c wd v=n) (w:World) :
  Calls Tryz.prog 71 #[.agg #[.int .i64 t,.int .i64 c,.int .i64 wd,.int .i64 v]] w fun e w'=>e = .returned (.tuple #[.pointer none,.iface 184 (.int .i64 n)])/\Fr [] w w':=by
 have H:=q9 (qdg t c wd v h);have e0:qct n = .iface 184 (.int .i64 n):=by rw [qct,qd Lj]
 rw [e0] at H;clear h hn e0;have isE:Tryz.prog.isIface 108=true:=by kernel_rfl
 go_enter Tryz.func71,Tryz.ntmps71;go_wp2_with fail;refine (H.out _).mono ?_;rintro e w1 ⟨rfl,F1⟩;have G:=((Fr.refl [] w).alloc _).trans F1;clear F1 H;go_wp2;go_ret2;exact ⟨rfl,G⟩
def Lays (t c:Int) (w:World) (b r p q n m:Nat) (D:DataW Unit) (wr:World):Prop:=∃ left cnt s,wr.ranges Tryz.prog 3 (plainElem (H:=Unit) Tryz.prog 3) b r m D left cnt/\(∀ kl,left kl=true->Maps.has D kl=true) /\
 Ar wr p q s/\s.l.length=n/\s.n=0/\s.a=⟨0,0,0,0,false⟩/\(∀ i:Nat,i<n->nth s.l i=if left (.int .i64 i)=true then 0 else Qj t c i)/\Fr [] w wr
def qd3 (w:World) (s:St) (e:Ending) (w':World):Prop:=∃ p q,e = .returned (.tuple #[.pointer (some ⟨p,0,none⟩),.nilIface])/\w.heap.size<=p/\w.heap.size<=q/\Ar w' p q s/\Fr [] w w'
theorem Jz {t c k v:Int} {g:Int->Option Int} (hg:∀ k,g k=if k=2 then some (21+t+3 * c) else if k=7+t then some (-1) else if k=9+t then some (2 * (14+t)) else none) :
  (g k=some v->v=Qj t c k/\(k=2\/k=7+t\/k=9+t))/\(g k=none->Qj t c k=0):=by
 rw [hg k,Qj];by_cases e1:k=2
 ·rw [qf e1,qf e1];exact ⟨fun h=>⟨(qi h).symm,.inl e1⟩,fun h=>by cases h⟩
 ·rw [qd e1,qd e1];by_cases e2:k=7+t
  ·rw [qf e2,qf e2];exact ⟨fun h=>⟨(qi h).symm,.inr (.inl e2)⟩,fun h=>by cases h⟩
  ·rw [qd e2,qd e2];by_cases e3:k=9+t
   ·rw [qf e3,qf e3];exact ⟨fun h=>⟨(qi h).symm,.inr (.inr e3)⟩,fun h=>by cases h⟩
   ·rw [qd e3,qd e3];exact ⟨(fun h=>by cases h),fun _=>rfl⟩
theorem q3r {t c:Int} {w w5 w6:World} {b p q n m:Nat} {D:DataW Unit} {g:Int->Option Int} (hD:Holds D g) (hg:∀ k,g k=if k=2 then some (21+t+3 * c) else if k=7+t then some (-1) else if k=9+t then some (2 * (14+t)) else none)
  (h1:w6.ranges Tryz.prog 3 (plainElem (H:=Unit) Tryz.prog 3) b w5.heap.size m D (Maps.has D) (Maps.size D)) (h2:w5.grownBy w6 none) (A:Ar w5 p q (St.fresh n)) (F:Fr [] w w5):Lays t c w b w5.heap.size p q n m D w6:=by
 refine ⟨_,_,St.fresh n,h1,fun _ h=>h,A.kept (Fr.grown h2) Ll Ll,by simp [St.fresh],rfl,rfl,fun i hi=>?_,F.trans (Fr.grown h2)⟩;rw [show nth (St.fresh n).l i=0 by simp [nth,St.fresh,List.getD_eq_getElem?_getD,hi]];split
 ·rfl
 ·rename_i hh;rw [(hD.2 i).1] at hh;have:g i=none:=by cases hgi:g i with | none=>rfl | some u=>rw [hgi] at hh;simp at hh
  exact ((Jz (v:=0) hg).2 this).symm
theorem q8b {t c:Int} {n p q:Nat} {s:St} {wr:World} {left:Lit->Bool} (h1:1<=t) (h2:t<=8) (h3:1<=c) (hw:21+t+3 * c<=n) (hl:∀ kl,left kl=false) (A:Ar wr p q s) (e1:s.l.length=n) (e2:s.n=0) (e3:s.a=⟨0,0,0,0,false⟩)
  (e4:∀ i:Nat,i<n->nth s.l i=if left (.int .i64 i)=true then 0 else Qj t c i):Ar wr p q (begun t c n):=by
 obtain ⟨b1,b2,b3,b4⟩:=Y4 (wd:=n) h1 h2 h3 hw;simp only [Int.toNat_natCast] at b1 b2;have:s=begun t c n:=St.ext' (by rw [e1,b1]) (fun i hi=>by rw [e4 i Lj,b2 i Lj,qd (by simp [hl])]) (by rw [e2,b3]) (by rw [e3,b4]);exact this ▸ A
theorem q94 {a b:Int}:(Lit.int .i64 a).sameKey (.int .i64 b)=decide (a=b):=by
 by_cases h:a=b
 ·subst h;simp [Lit.sameKey]
 ·rw [Maps.sameKey_ne (fun e=>h (by cases e;rfl))];simp [h]
theorem q7d {t c x v:Int} {w w1 w2:World} {b r p q n m cnt1:Nat} {D:DataW Unit} {g:Int->Option Int} {left:Lit->Bool} {s:St} (h1:1<=t) (hw:21+t+3 * c<=n) (h3:1<=c) (hD:Holds D g)
  (hg:∀ k,g k=if k=2 then some (21+t+3 * c) else if k=7+t then some (-1) else if k=9+t then some (2 * (14+t)) else none)
  (hlx:left (.int .i64 x)=true) (hhas:∀ kl,left kl=true->Maps.has D kl=true) (hat:∀ zd,D.atKey (.int .i64 x) zd = .lit (.int .i64 v))
  (hrg:w1.ranges Tryz.prog 3 (plainElem (H:=Unit) Tryz.prog 3) b r m D (fun z=>left z && !z.sameKey (.int .i64 x)) cnt1) (hq:q<b) (hq0:w.heap.size<=q) (hqr:q<r)
  (A:Ar w2 p q (s.yl x v)) (F2:Fr [q] w1 w2) (G1:Fr [] w w1) (e1:s.l.length=n) (e2:s.n=0) (e3:s.a=⟨0,0,0,0,false⟩) (e4:∀ i:Nat,i<n->nth s.l i=if left (.int .i64 i)=true then 0 else Qj t c i):Lays t c w b r p q n m D w2/\w2.rangeLeft b r=cnt1:=by
 have hgx:g x=some v/\v=Qj t c x/\(x=2\/x=7+t\/x=9+t):=by
  have:=hhas _ hlx;rw [(hD.2 x).1] at this;cases hgx:g x with
  | none=>rw [hgx] at this;simp at this
  | some u =>
   have h:=(hD.2 x).2 u hgx (.nil);rw [hat] at h;cases h;exact ⟨rfl,(Jz hg).1 hgx⟩
 obtain ⟨_,hv,hx⟩:=hgx;obtain ⟨k,rfl⟩:=Int.eq_ofNat_of_zero_le (show 0<=x by omega);have hk:k<n:=by omega
 have hrq:(some q:Option Nat)≠some b:=fun e=>Nat.ne_of_lt hq (qi e)
 have hrg2:=hrg.kept (row:=some q) ⟨F2.os,F2.tape,F2.output,F2.size,fun i hi hn=>F2.block i hi (by simpa using fun e=>hn (by rw [e]))⟩ (Ne.symm hrq) (fun e=>Nat.ne_of_gt hqr (qi e));refine ⟨⟨_,cnt1,s.yl k v,hrg2,fun kl h=>hhas kl (by simp at h;exact h.1),A,by simp [St.yl,x7,e1],e2,e3,fun i hi=>?_,G1.own F2 (by simpa using hq0)⟩,hrg2.left_eq⟩;simp only [St.yl];rw [Jm v Lj,e4 i hi,q94];by_cases hik:i=k
 ·subst hik;simp [hv]
 ·have:¬ ((i:Int)=(k:Int)):=by omega
  simp [hik,this]
theorem make_yes (t c wd v:Int) (h:code t c wd v=0) (w:World) :
  Calls Tryz.prog 71 #[.agg #[.int .i64 t,.int .i64 c,.int .i64 wd,.int .i64 v]] w (qd3 w (begun t c wd)):=by
 have hf:form t c wd v=true/\21+t+3 * c<=wd:=by
  unfold code at h;split at h
  ·rename_i h1;split at h
   ·rename_i h2;exact ⟨h1,h2⟩
   ·cases h
  ·cases h
 obtain ⟨t1,t2,c1,c2,v1,v2,w1,w2⟩:=Zw.1 hf.1;obtain ⟨n,rfl⟩:=Int.eq_ofNat_of_zero_le (show 0<=wd by omega);have hw:=hf.2;have H:=q9 (qdg t c n v h);have HF:=q9 (Wh t c n v t1 t2 Lj c2);clear h hf v1 v2;have isE:Tryz.prog.isIface 108=true:=by kernel_rfl
 have e0:qct 0 = .nilIface:=rfl;rw [e0] at H;clear e0;go_enter Tryz.func71,Tryz.ntmps71;go_wp2_with fail;refine (H.out _).mono ?_;rintro e w3 ⟨rfl,F3⟩;obtain ⟨k0,k1,k2,k3⟩:=yp (F3.heap (Go.heap_alloc_new w (.cells #[.int .i64 t,.int .i64 c,.int .i64 n,.int .i64 v] 23)) Ll);have G3:=((Fr.refl [] w).alloc _).trans F3;clear F3 H;go_wp2_with fail;refine (Wz n n Lj Lj Lj _).mono ?_;rintro e w4 ⟨p,q,rfl,hp,hq,A4,F4⟩;have j0:=F4.cell k0 Ll;have j1:=F4.cell k1 Ll;have j2:=F4.cell k2 Ll;have j3:=F4.cell k3 Ll;have G4:=G3.trans F4;have hp':=qh G3.size hp;have hq':=qh G3.size hq;clear F4 G3 k0 k1 k2 k3 hp hq;go_wp2_with fail;refine (HF.out _).mono ?_;rintro e w5 ⟨b,m,g,rfl,hb,hm,M5,F5,hg⟩;have A5:=A4.kept F5;have hpb:=qj A4.lt.1 hb;have hqb:=qj A4.lt.2 hb;have G5:=G4.trans F5;have hb':=qh G4.size hb;clear F5 G4 j0 j1 j2 j3 HF A4 hb;obtain ⟨D,hown,hD⟩:=M5;go_wp2_with (at_range;refine wpList_range_own _ rfl _ 191 rfl 3 3 q70 Tryz.underlying191 _ b m _ rfl hown ?_;intro w6 hrg6 hg6 hs6);have L:=q3r hD hg hrg6 hg6 A5 G5;have hqr:q<w5.heap.size:=A5.lt.2;have hbr:b<w5.heap.size:=hown.lt;have hbw:w.heap.size<=w5.heap.size:=G5.size;generalize w5.heap.size=r at L hqr hbr hbw ⊢;have HL:=q9 L;have Hg:=q9 hg;clear L hrg6 hg6 hs6 hown G5 A5 hg;go_frame;go_loopw [6] (fun _ wr=>Lays t c w b r p q n m D wr) (fun _ wr=>wr.rangeLeft b r);case atStart=>exact HL.out
 case round =>
  obtain ⟨left,cnt,s,hrg,hhas,A,e1,e2,e3,e4,F⟩:=hrel;go_wp2_with (at_next;refine wpList_next_ranges_ii _ rfl _ rfl 3 3 .i64 .i64 q70 Tryz.underlying3 Tryz.underlying3 b r m _ _ _ rfl hrg ?_ ?_)
  ·intro _ hl0;have A':=q8b t1 t2 Lj hw hl0 A e1 e2 e3 e4;clear e1 e2 e3 e4 A hl0;go_wp2;go_ret2;exact ⟨p,q,rfl,hp',hq',A',F⟩
  ·intro x u wn cnt1 hwx hwc hlx hat hrg1 hlt hg1 hs1 hen;have Fn:Fr [r] _ wn:=Fr.grownAt hg1;have An:=A.kept Fn Lu Lu;have Gn:=F.own Fn (by simpa using hbw);have K:=q9 (qc hlx (qc hat (qc hhas (qc e1 (qc e2 (qc e3 e4))))));have Hr:=q9 hrg;have Hr1:=q9 hrg1;clear hlx hat hhas e1 e2 e3 e4 Fn A F hg1 hs1 hrg hrg1;go_wp2_with (go_at_call 21;refine (kg _ p q s x u An).mono ?_;rintro e wz ⟨rfl,Az,Fz⟩);obtain ⟨hlx,hat,hhas,e1,e2,e3,e4⟩:=K.out;have L:=q7d t1 hw Lj hD Hg.out hlx hhas hat Hr1.out hqb hq' hqr Az Fz Gn e1 e2 e3 e4;have L1:=q9 L.1;have L2:=q9 L.2;clear L hlx hat hhas e1 e2 e3 e4;go_roundw;case rel=>exact L1.out
   case measure=>rw [L2.out,Hr.out.left_eq];exact hlt
end Go.Proofs.YthokjbikomjhgaaGreatDoor.Pl
namespace Go.Proofs.YthokjbikomjhgaaGreatDoor.Ref
open Go.RowKit Ar Pl
theorem Zx (t c wd v:Int) (h1:1<=c) (h2:c<=16) (w:World) :
  Calls Tryz.prog 173 #[.agg #[.int .i64 t,.int .i64 c,.int .i64 wd,.int .i64 v]] w fun e w'=>e = .returned (.int .i64 (7+3 * c))/\Fr [] w w':=by
 go_enter Tryz.func173,Tryz.ntmps173;exact Ay
theorem Q0 (t:Int) (h1:0<=t) (h2:t<=8) (w:World) :
  Calls Tryz.prog 127 #[.int .i64 t] w fun e w'=>e = .returned (.int .i64 (3+t))/\w=w':=by
 go_enter Tryz.func127,Tryz.ntmps127;exact C0
theorem Qo (t c wd v:Int) (h1:1<=t) (h2:t<=8) (w:World) :
  Calls Tryz.prog 109 #[.agg #[.int .i64 t,.int .i64 c,.int .i64 wd,.int .i64 v]] w fun e w'=>e = .returned (.int .i64 (3+t+4))/\Fr [] w w':=by
 go_enter Tryz.func109,Tryz.ntmps109;exact Ay
theorem Um (t c wd v k:Int) (h1:1<=t) (h2:t<=8) (h3:0<=k) (h4:k<=63) (w:World) :
  Calls Tryz.prog 217 #[.agg #[.int .i64 t,.int .i64 c,.int .i64 wd,.int .i64 v],.int .i64 k] w fun e w'=>e = .returned (.int .i64 (3+t+k / 16))/\Fr [] w w':=by
 go_enter Tryz.func217,Tryz.ntmps217;exact Ay
theorem Xc (t c wd v:Int) (h1:1<=t) (h2:t<=8) (w:World) :
  Calls Tryz.prog 87 #[.agg #[.int .i64 t,.int .i64 c,.int .i64 wd,.int .i64 v]] w fun e w'=>e = .returned (.int .i64 (3+t+4+7))/\Fr [] w w':=by
 go_enter Tryz.func87,Tryz.ntmps87;exact L8
theorem Kb (t c wd v:Int) (h1:1<=t) (h2:t<=8) (h3:1<=c) (h4:c<=16) (w:World) :
  Calls Tryz.prog 137 #[.agg #[.int .i64 t,.int .i64 c,.int .i64 wd,.int .i64 v]] w fun e w'=>e = .returned (.int .i64 (21+t+3 * c))/\Fr [] w w':=by
 go_enter Tryz.func137,Tryz.ntmps137;go_wp2_with fail;obtain ⟨c0,c1,c2,c3⟩:=yp (Go.heap_alloc_new w (.cells #[.int .i64 t,.int .i64 c,.int .i64 wd,.int .i64 v] 23));have k0:=qb c0;have k1:=qb c1;have k2:=qb c2;have k3:=qb c3;clear c0 c1 c2 c3;refine wiq ?_;repeat (go_big_quiet_step ((first | (go_at_call 87;exact Calls.in_ (Xc _ _ _ _ h1 h2 _)) | (go_at_call 173;exact Calls.in_ (Zx _ _ _ _ h3 h4 _)))))
 exact Et
theorem Qu (a i:Int) (h1:0<=a) (h2:a<=1000000) (h3:0<=i) (h4:i<=1000) (w:World) :
  Calls Tryz.prog 37 #[.int .i64 a,.int .i64 i] w fun e w'=>e = .returned (.int .i64 (a+7+3 * i))/\w=w':=by
 go_enter Tryz.func37,Tryz.ntmps37;exact C0
theorem q1k (t c wd v:Int) (h:t<1\/8<t\/c<t+2\/16<c\/v<1\/1048576<v\/wd<1\/20000<wd) (w:World) :
  Calls Tryz.prog 135 #[.agg #[.int .i64 t,.int .i64 c,.int .i64 wd,.int .i64 v]] w fun e w'=>e = .returned (.int .i64 10)/\Fr [] w w':=by
 by_cases a1:t<1
 ·clear h;exact Im
 by_cases a2:8<t
 ·clear h;have b1:decide (t<1)=false:=by simpa using a1
  clear a1;exact Im
 have b1:decide (t<1)=false:=by simpa using a1
 have b2:decide (8<t)=false:=by simpa using a2
 have t1:1<=t:=by omega
 have t2:t<=8:=by omega
 clear a1 a2;by_cases a3:c<t+2
 ·clear h;exact Im
 have b3:decide (c<t+2)=false:=by simpa using a3
 clear a3;by_cases a4:16<c
 ·clear h;exact Im
 have b4:decide (16<c)=false:=by simpa using a4
 clear a4;by_cases a5:v<1
 ·clear h;exact Im
 have b5:decide (v<1)=false:=by simpa using a5
 clear a5;by_cases a6:1048576<v
 ·clear h;exact Im
 have b6:decide (1048576<v)=false:=by simpa using a6
 clear a6;by_cases a7:wd<1
 ·clear h;exact Im
 have b7:decide (wd<1)=false:=by simpa using a7
 have a8:20000<wd:=by simp at b3 b4 b5 b6 b7;omega
 clear a7 h;exact Im
theorem q1j (t c wd v:Int) (h:form t c wd v=true) (w:World) :
  Calls Tryz.prog 135 #[.agg #[.int .i64 t,.int .i64 c,.int .i64 wd,.int .i64 v]] w fun e w'=>e = .returned (.int .i64 (if 21+t+3 * c<=wd then 0 else 14))/\Fr [] w w':=by
 obtain ⟨t1,t2,c1,c2,v1,v2,w1,w2⟩:=Zw.1 h;have TP:=q9 (Kb t c wd v t1 t2 Lj c2);have b1:decide (t<1)=false:=by simp;omega
 have b2:decide (8<t)=false:=by simp;omega
 have b3:decide (c<t+2)=false:=by simp;omega
 have b4:decide (16<c)=false:=by simp;omega
 have b5:decide (v<1)=false:=by simp;omega
 have b6:decide (1048576<v)=false:=by simp;omega
 have b7:decide (wd<1)=false:=by simp;omega
 have b8:decide (20000<wd)=false:=by simp;omega
 clear h c1 c2 v1 v2 w1 w2;by_cases hf:21+t+3 * c<=wd
 all_goals
  first | rw [qf hf] | rw [qd hf]
  go_enter Tryz.func135,Tryz.ntmps135
  go_wp2_with fail
  obtain ⟨c0,c1,c2,c3⟩:=yp (Go.heap_alloc_new w (.cells #[.int .i64 t,.int .i64 c,.int .i64 wd,.int .i64 v] 23))
  have k0:=qb c0
  have k1:=qb c1
  have k2:=qb c2
  have k3:=qb c3
  clear c0 c1 c2 c3
  refine wiq ?_
  repeat (go_big_quiet_step ((go_at_call 137;exact Calls.in_ (TP.out _))))
  refine wpQuiet_nil ?_
  intro w1 F1
  have G:=((Fr.refl [] w).alloc _).trans F1
  clear F1
  go_wp2
  go_ret
  exact ⟨rfl,G⟩
theorem U6 (t c wd v:Int) (w:World) :
  Calls Tryz.prog 135 #[.agg #[.int .i64 t,.int .i64 c,.int .i64 wd,.int .i64 v]] w fun e w'=>e = .returned (.int .i64 (code t c wd v))/\Fr [] w w':=by
 cases h:form t c wd v
 ·have hn:¬ form t c wd v=true:=by simp [h]
  rw [Zw] at hn;rw [code,qd N7];exact q1k t c wd v Lj w
 ·rw [code,qf h];exact q1j t c wd v h w
theorem isConf_of {n:Int} (t c wd v:Int) (h:code t c wd v=n) (w:World) :
  Calls Tryz.prog 135 #[.agg #[.int .i64 t,.int .i64 c,.int .i64 wd,.int .i64 v]] w fun e w'=>e = .returned (.int .i64 n)/\Fr [] w w':=h ▸ U6 t c wd v w
theorem qaw (k:Int) (h0:0<=k) (h1:k<=1000000) (w:World) :
  Calls Tryz.prog 100 #[.int .i64 k,.int .i64 0,.int .i64 1073741824] w fun e w'=>e = .returned (.int .i64 k)/\w=w':=by
 go_enter Tryz.func100,Tryz.ntmps100;go_wp2
 all_goals
  go_ret
  exact ⟨q2e Lj,rfl⟩
theorem Vx (k:Int) (h0:0<=k) (h1:k<=1000000) (w:World) :
  Calls Tryz.prog 138 #[.int .i64 k,.bool false] w fun e w'=>e = .returned (.int .i64 (2 * k))/\w=w':=by
 go_enter Tryz.func138,Tryz.ntmps138;go_wp2_with fail;refine (qaw k h0 h1 _).mono ?_;rintro e _ ⟨rfl,rfl⟩;go_wp2;go_ret;exact ⟨q2e Lj,rfl⟩
theorem q2k (t c wd v:Int) (h:form t c wd v=true) (hw:21+t+3 * c<=wd) (w:World) :
  Calls Tryz.prog 74 #[.agg #[.int .i64 t,.int .i64 c,.int .i64 wd,.int .i64 v]] w (q4e w (Pl.begun t c wd)):=by
 obtain ⟨t1,t2,c1,c2,v1,v2,w1,w2⟩:=Zw.1 h;obtain ⟨n,rfl⟩:=Int.eq_ofNat_of_zero_le (show 0<=wd by omega);have hz:=Go.heap_alloc_new w (.cells #[.int .i64 t,.int .i64 c,.int .i64 n,.int .i64 v] 23);clear h v1 v2;go_enter Tryz.func74,Tryz.ntmps74;go_wp2_with fail;refine (Ref.Wz n n Lj Lj Lj _).mono ?_;rintro e w3 ⟨p,q,rfl,hp,hq,R,F⟩;obtain ⟨k0,k1,k2,k3⟩:=yp (F.heap hz Ll);have G:=((Fr.refl [] w).alloc (.cells #[.int .i64 t,.int .i64 c,.int .i64 n,.int .i64 v] 23)).trans F;have hp':w.heap.size<=p:=Nat.le_of_lt (Nat.lt_of_succ_le (by simpa using hp));have hq':w.heap.size<=q:=Nat.le_of_lt (Nat.lt_of_succ_le (by simpa using hq));have hbp:w.heap.size≠q:=by simp at hq;omega
 clear F hz hp hq;go_wp2_with fail;refine (Kb t c n v t1 t2 Lj c2 _).mono ?_;rintro e w4 ⟨rfl,F⟩;have k0:=F.cell k0 Ll;have k1:=F.cell k1 Ll;have k2:=F.cell k2 Ll;have k3:=F.cell k3 Ll;have R:=R.kept F;have G:=G.trans F;clear F;go_wp2_with fail;refine (Ref.kg _ p q _ 2 (21+t+3 * c) R).mono ?_;rintro e w5 ⟨rfl,R,F⟩;have k0:=F.cell k0 Mw;have k1:=F.cell k1 Mw;have k2:=F.cell k2 Mw;have k3:=F.cell k3 Mw;have G:=G.own F (by simpa using hq');clear F;go_wp2_with fail;refine (Qo t c n v t1 t2 _).mono ?_;rintro e w6 ⟨rfl,F⟩;have k0:=F.cell k0 Ll;have k1:=F.cell k1 Ll;have k2:=F.cell k2 Ll;have k3:=F.cell k3 Ll;have R:=R.kept F;have G:=G.trans F;clear F;go_wp2_with fail;refine (Ref.kg _ p q _ (3+t+4) (-1) R).mono ?_;rintro e w7 ⟨rfl,R,F⟩;have k0:=F.cell k0 Mw;have k1:=F.cell k1 Mw;have k2:=F.cell k2 Mw;have k3:=F.cell k3 Mw;have G:=G.own F (by simpa using hq');clear F;go_wp2_with fail;refine z7 Lm [q] (fun wa Fa=>?_);refine Z7 [true,true,true,true,true,true,true,false] 1 (n:=25) rfl Lm Lm Lm rfl rfl (fun _ _ d _ _ h=>by cases d <;> exact h) (Fa.mono) ?_;apply qg;refine ⟨fun wf Ff=>?_,?_⟩
 ·have k0:=qb (Ff.cell k0 Mw);have k1:=qb (Ff.cell k1 Mw);have k2:=qb (Ff.cell k2 Mw);have k3:=qb (Ff.cell k3 Mw);clear Ff;simp only [sel];repeat (go_big_quiet_step ((first | (go_at_call 109;exact Calls.in_ (Qo _ _ _ _ t1 t2 _)) | (go_at_call 87;exact Calls.in_ (Xc _ _ _ _ t1 t2 _)) | (go_at_call 138;exact Calls.in_same (Vx (3+t+4+7) Lj Lj _)))))
  exact wpQuiet_nil rfl
 have R:=R.kept Fa;have D:Fr [q] _ _:=Fa.mono;have G:=G.trans Fa;refine eoq 7 (fun wb Fb=>?_);have R:=R.kept Fb;have D:=D.then Fb;have G:=G.trans Fb;clear Fa Fb k0 k1 k2 k3;go_wp2_with fail;refine (Ref.kg _ p q _ (3+t+4+2) (2 * (3+t+4+7)) R).mono ?_;rintro e w8 ⟨rfl,R,F⟩;have D:=D.trans F;have G:=G.own F (by simpa using hq');clear F;go_wp2_with fail;refine ql ⟨D,?_⟩;refine zq Lm (fun wc Fc=>?_);have R:=R.kept Fc;have G:=G.trans Fc;clear Fc D;have E:((St.fresh n).yl 2 (21+t+3 * c)).yl (3+t+4) (-1)=((St.fresh n).yl 2 (21+t+3 * c)).yl (7+t) (-1):=by rw [show 3+t+4=7+t by omega]
 rw [E,show 3+t+4+2=9+t by omega,show 2 * (3+t+4+7)=2 * (14+t) by omega] at R;go_wp2;go_ret;exact ⟨p,q,rfl,hp',hq',R,G⟩
end Go.Proofs.YthokjbikomjhgaaGreatDoor.Ref
namespace Go.Proofs.YthokjbikomjhgaaGreatDoor.Mx
open Go.RowKit Ar Ref
structure Wk where
 c:Cf
 key:Int
 line:Int
 x:Int
 cur:Int
 n:Int
 at_:Int
def Wk.cells (x:Wk):Array Value:=#[.int .i64 x.c.t,.int .i64 x.c.c,.int .i64 x.c.wd,.int .i64 x.c.v,.int .i64 x.key,.int .i64 x.line,.int .i64 x.x,.int .i64 x.cur,.int .i64 x.n,.int .i64 x.at_]
def Wk.new (c:Cf) (key:Int):Wk:=⟨c,key,1,0,0,0,0⟩
def Wk.head (x:Wk):Wk:={ x with cur:=xn x.c,line:=5 }
def Wk.ends (x:Wk):Wk:={ x with at_:=x.cur,line:=0 }
def Wk.looks (x:Wk):Int :=
 if x.line=1 then Vz x.c x.key else if x.line=2 then wrap64 (x.x+6) else if x.line=3 then wrap64 x.x else if x.line=5 then wrap64 (x.cur+2) else wrap64 x.n
def Wk.next (x:Wk) (v:Int):Wk :=
 if x.line=1 then (if v=0 then { x with x:=v,line:=2 }.head else { x with x:=v,line:=2 })
 else if x.line=2 then (if v=0 then { x with line:=3 } else { x with line:=3 }.head)
 else if x.line=3 then (if v<=x.key then { x with cur:=x.x,line:=5 } else x.head)
 else if x.line=5 then (if atW v=0 then { x with n:=0,line:=6 }.ends else { x with n:=atW v,line:=6 })
 else (if v<=x.key then { x with cur:=x.n,line:=5 } else x.ends)
def Wk.live (x:Wk):Bool:=decide (x.line=1) || decide (x.line=2) || decide (x.line=3) || decide (x.line=5) || decide (x.line=6)
def Wk.step (x:Wk) (s:St):Wk×St:=if x.live=true then (x.next (qw s.l x.looks),s.load x.looks) else (x,s)
def Zb (w:World) (b:Nat) (x:Wk):Prop:=Ob w b 245 x.cells
theorem xd {w:World} {b:Nat} {x:Wk} (h:Zb w b x):w.cell? ⟨b,0,none⟩=some (.int .i64 x.c.t)/\w.cell? ⟨b,1,none⟩=some (.int .i64 x.c.c)/\w.cell? ⟨b,2,none⟩=some (.int .i64 x.c.wd)/\w.cell? ⟨b,3,none⟩=some (.int .i64 x.c.v)/\w.cell? ⟨b,4,none⟩=some (.int .i64 x.key)/\w.cell? ⟨b,5,none⟩=some (.int .i64 x.line)/\w.cell? ⟨b,6,none⟩=some (.int .i64 x.x)/\w.cell? ⟨b,7,none⟩=some (.int .i64 x.cur)/\w.cell? ⟨b,8,none⟩=some (.int .i64 x.n)/\w.cell? ⟨b,9,none⟩=some (.int .i64 x.at_) :=
 ⟨h.cell rfl,h.cell rfl,h.cell rfl,h.cell rfl,h.cell rfl,h.cell rfl,h.cell rfl,h.cell rfl,h.cell rfl,h.cell rfl⟩
theorem Zu (c:Cf) (key:Int) (w:World):Calls Tryz.prog 189 #[c.val,.int .i64 key] w fun e w'=>∃ b,e = .returned (.pointer (some ⟨b,0,none⟩))/\w.heap.size<=b/\Zb w' b (Wk.new c key)/\Fr [] w w':=by unfold Cf.val;have F0:=(Fr.refl [] w).alloc (.cells #[.int .i64 c.t,.int .i64 c.c,.int .i64 c.wd,.int .i64 c.v] 23);obtain ⟨c0,c1,c2,c3⟩:=Pl.yp (Go.heap_alloc_new w (.cells #[.int .i64 c.t,.int .i64 c.c,.int .i64 c.wd,.int .i64 c.v] 23));go_enter Tryz.func189,Tryz.ntmps189;exact Bp
theorem Kt (x:Wk) (hc:x.c.Ok) (b:Nat) (w:World) (h:Zb w b x):Calls Tryz.prog 218 #[.pointer (some ⟨b,0,none⟩)] w fun e w'=>e = .returned (.tuple #[])/\Zb w' b x.head/\Fr [b] w w':=by
 obtain ⟨c0,c1,c2,c3,-,-,-,-,-,-⟩:=xd h;have z:=h.frozen;go_enter Tryz.func218,Tryz.ntmps218;go_wp2_with fail;refine (Ref.Qo x.c.t x.c.c x.c.wd x.c.v hc.t1 hc.t8 _).mono ?_;rintro e w1 ⟨rfl,F1⟩;have h1:Zb w1 b x:=h.up F1;have z1:=h1.frozen;clear c0 c1 c2 c3 z;obtain ⟨-,-,-,-,-,c5,-,c7,-,-⟩:=xd h1;go_wp2;go_end0
 exact ⟨rfl,by
  have e:3+x.c.t+4=xn x.c:=by unfold xn;omega
  rw [e];exact (h1.set _).set _,(F1.mono).trans ((Fr.setCell _ Ll).setCell' _ Ll)⟩
theorem Su (x:Wk) (b:Nat) (w:World) (h:Zb w b x):Calls Tryz.prog 219 #[.pointer (some ⟨b,0,none⟩)] w fun e w'=>e = .returned (.tuple #[])/\Zb w' b x.ends/\Fr [b] w w':=by obtain ⟨-,-,-,-,-,c5,-,c7,-,c9⟩:=xd h;have z:=h.frozen;go_enter Tryz.func219,Tryz.ntmps219;go_wp2;go_end0;exact ⟨rfl,(h.set _).set _,(Fr.setCell _ Ll).setCell' _ Ll⟩
theorem q4w (x:Wk) (hl:x.line=1) (hc:x.c.Ok) (hk:0<=x.key/\x.key<=63) (b p q:Nat) (s:St) (w:World) (h:Zb w b x) (hA:Rar w p q s) (hp:b≠p) (hq:b≠q) :
  Calls Tryz.prog 193 #[.pointer (some ⟨b,0,none⟩),.pointer (some ⟨p,0,none⟩)] w fun e w'=>e = .returned (.bool (decide ((x.next (qw s.l (Vz x.c x.key))).line=0)))/\Zb w' b (x.next (qw s.l (Vz x.c x.key)))/\Rar w' p q (s.load (Vz x.c x.key))/\Fr [b,p,q] w w':=by
 generalize hy:x.next (qw s.l (Vz x.c x.key))=y;have HY:=q9 hy;clear hy;obtain ⟨c0,c1,c2,c3,c4,c5,c6,c7,c8,c9⟩:=xd h;go_enter Tryz.func193,Tryz.ntmps193;go_wp2_with fail;clear c0 c1 c2 c3 c4 c5 c6 c7 c8 c9;have hkw:(Lit.int .i64 x.key).wf=true:=WalkArith.wf_i64 Lj;refine qp Lm ?_;refine wm 1 rfl Lm Lm Lm rfl (fun _ _ d _ _ h=>by cases d <;> exact h) ?_;go_frame;refine za [p,q] w #[true,true,true,true,true,true,true,true,true,true,true,true,true,false,false,false,false,false,false] 12 6 rfl ?_;refine lpq [true,false,true,true,true,true,true,true,true,true,true,true,false,false,false,false,false,false,false] 1 ((Fr.refl _ w).drew) ?_;apply qg;refine ⟨fun wf Ff=>?_,?_⟩
 ·have hf:Zb wf b x:=Ob.kept h Ff Lp;obtain ⟨c0,c1,c2,c3,c4,-,-,-,-,-⟩:=xd hf;have k0:=qb c0;have k1:=qb c1;have k2:=qb c2;have k3:=qb c3;have k4:=qb c4;clear c0 c1 c2 c3 c4;simp only [sel];repeat (go_big_quiet_step ((go_at_call 217;exact Calls.in_ (Ref.Um x.c.t x.c.c x.c.wd x.c.v x.key hc.t1 hc.t8 hk.1 hk.2 _))))
  exact wpQuiet_nil rfl
 refine loq 12 (fun w3 F3=>?_);have D3:=(Fr.refl [] w).drew.trans F3;have A3:=hA.kept D3;have h3:=Ob.up h D3;clear hA h F3;go_wp2_with fail;refine (Ref.zl _ p q s _ A3).mono ?_;rintro e w4 ⟨rfl,A4,F4⟩;go_wp2_with fail;refine ql ⟨(D3.mono).trans F4,?_⟩;refine qy (k:=13) rfl Lm (fun w5 F5=>?_);have A5:=A4.kept F5;have h5:Zb w5 b x:=(h3.kept F4 Lp).up F5;have D5:Fr [b,p,q] w w5:=((D3.mono).trans (F4.mono)).then F5;clear A3 A4 h3 F4 F5 D3;have e2:3+x.c.t+x.key / 16=Vz x.c x.key:=rfl;rw [e2] at A5 ⊢;obtain ⟨c0,c1,c2,c3,c4,c5,c6,c7,c8,c9⟩:=xd h5;have z:=h5.frozen;generalize hv:qw s.l (Vz x.c x.key)=v at *;by_cases hv0:v=0
 ·have hn:y=({ x with x:=0,line:=2 }:Wk).head:=by rw [<- HY.out];subst hv0;unfold Wk.next;simp [hl]
  subst hn;go_wp2_with fail;have h6:Zb _ b ({ x with x:=0,line:=2 }:Wk):=(h5.set (i:=6) (.int .i64 0)).set (i:=5) (.int .i64 2);have A6:=(A5.set hp hq (i:=6) (.int .i64 0)).set hp hq (i:=5) (.int .i64 2);have D6:=(D5.setCell' (b:=b) (i:=6) (.int .i64 0) Ll).setCell' (b:=b) (i:=5) (.int .i64 2) Ll;generalize ((w5.setCell ⟨b,6,none⟩ (.int .i64 0)).setCell ⟨b,5,none⟩ (.int .i64 2))=w6 at *;clear c0 c1 c2 c3 c4 c5 c6 c7 c8 c9 z h5 A5 D5;refine (Kt { x with x:=0,line:=2 } hc b _ h6).mono ?_;rintro e w7 ⟨rfl,h7,F7⟩;have A7:=A6.kept F7 Lv Lx;have D7:=zm D6 F7 Ll;clear h6 A6 D6 F7;exact Cs
 ·have hn:y = { x with x:=v,line:=2 }:=by rw [<- HY.out];unfold Wk.next;simp [hl,hv0]
  exact Dq
theorem q56 (x:Wk) (hl:x.line=2) (hc:x.c.Ok) (b p q:Nat) (s:St) (w:World) (h:Zb w b x) (hA:Rar w p q s) (hp:b≠p) (hq:b≠q) :
  Calls Tryz.prog 193 #[.pointer (some ⟨b,0,none⟩),.pointer (some ⟨p,0,none⟩)] w fun e w'=>e = .returned (.bool (decide ((x.next (qw s.l (wrap64 (x.x+6)))).line=0)))/\Zb w' b (x.next (qw s.l (wrap64 (x.x+6))))/\Rar w' p q (s.load (wrap64 (x.x+6)))/\Fr [b,p,q] w w':=by
 generalize hy:x.next (qw s.l (wrap64 (x.x+6)))=y;have HY:=q9 hy;clear hy;obtain ⟨c0,c1,c2,c3,c4,c5,c6,c7,c8,c9⟩:=xd h;have z:=h.frozen;go_enter Tryz.func193,Tryz.ntmps193;go_wp2_with fail;have A1:=hA.set hp hq (i:=5) (.int .i64 3);have h1:Zb _ b ({ x with line:=3 }:Wk):=Ob.set h (i:=5) (.int .i64 3);have D1:Fr [b,p,q] w (w.setCell ⟨b,5,none⟩ (.int .i64 3)):=Fr.setCell (b:=b) _ Ll;clear c0 c1 c2 c3 c4 c5 c6 c7 c8 c9 z;generalize (w.setCell ⟨b,5,none⟩ (.int .i64 3))=w1 at *;refine (Ref.zl _ p q s _ A1).mono ?_;rintro e w5 ⟨rfl,A5,F5⟩;have h5:=Ob.kept h1 F5 Lp;have D5:=zm D1 F5 Ll;clear A1 h1 D1 F5 hA h;obtain ⟨c0,c1,c2,c3,c4,c5,c6,c7,c8,c9⟩:=xd h5;generalize hv:qw s.l (wrap64 (x.x+6))=v at *;by_cases hv0:v=0
 ·have hn:y = { x with line:=3 }:=by rw [<- HY.out];subst hv0;unfold Wk.next;simp [hl]
  subst hn;exact Ef
 ·have hn:y=({ x with line:=3 }:Wk).head:=by rw [<- HY.out];unfold Wk.next;simp [hl,hv0]
  subst hn;go_wp2_with fail;refine (Kt { x with line:=3 } hc b _ h5).mono ?_;rintro e w7 ⟨rfl,h7,F7⟩;have A7:=(A5).kept F7 Lv Lx;have D7:=zm (D5) F7 Ll;exact Cs
theorem q3m (x:Wk) (hl:x.line=3) (hc:x.c.Ok) (b p q:Nat) (s:St) (w:World) (h:Zb w b x) (hA:Rar w p q s) (hp:b≠p) (hq:b≠q) :
  Calls Tryz.prog 193 #[.pointer (some ⟨b,0,none⟩),.pointer (some ⟨p,0,none⟩)] w fun e w'=>e = .returned (.bool (decide ((x.next (qw s.l (wrap64 x.x))).line=0)))/\Zb w' b (x.next (qw s.l (wrap64 x.x)))/\Rar w' p q (s.load (wrap64 x.x))/\Fr [b,p,q] w w':=by
 generalize hy:x.next (qw s.l (wrap64 x.x))=y;have HY:=q9 hy;clear hy;obtain ⟨c0,c1,c2,c3,c4,c5,c6,c7,c8,c9⟩:=xd h;have z:=h.frozen;go_enter Tryz.func193,Tryz.ntmps193;go_wp2_with fail;clear c0 c1 c2 c3 c4 c5 c6 c7 c8 c9 z;refine z7 Lm [p,q] (fun w2 F2=>?_);refine epq [true,true,true,true,true,true,false,true,true,true,true,false] 2 (F2.mono) ?_;apply qg;refine ⟨fun wf Ff=>?_,?_⟩
 ·exact Io
 refine eoq 6 (fun w3 F3=>?_);have D3:=F2.trans F3;have A3:=hA.kept D3;have h3:=Ob.up h D3;clear hA h F2 F3;go_wp2_with fail;refine (Ref.zl _ p q s _ A3).mono ?_;rintro e w4 ⟨rfl,A4,F4⟩;have D4:=(D3.mono (T:=[p,q]) Ll).trans F4;have h4:=h3.kept F4 Lp;clear A3 h3 F4 D3;go_wp2_with fail;refine ql ⟨D4,?_⟩;refine eoq 11 (fun w5 F5=>?_);have D5:=D4.then F5;have h5:=h4.up F5;have A5:=A4.kept F5;clear A4 h4 F5 D4;go_wp2;refine ql ⟨D5,?_⟩;refine zq Lm (fun w6 F6=>?_);have D6:Fr [b,p,q] w w6:=(D5.then F6).mono Ll;have h6:Zb w6 b x:=h5.up F6;have A6:=A5.kept F6;clear A5 h5 F6 D5;obtain ⟨c0,c1,c2,c3,c4,c5,c6,c7,c8,c9⟩:=xd h6;have z:=h6.frozen;generalize hv:qw s.l (wrap64 x.x)=v at *;by_cases hv0:v<=x.key
 ·have hn:y = { x with cur:=x.x,line:=5 }:=by rw [<- HY.out];unfold Wk.next;simp [hl,hv0]
  exact Cx
 ·have hn:y=x.head:=by rw [<- HY.out];unfold Wk.next;simp [hl,hv0]
  subst hn;have g:decide (v<=x.key)=false:=by simpa using hv0
  go_wp2_with fail;refine (Kt x hc b _ h6).mono ?_;rintro e w7 ⟨rfl,h7,F7⟩;exact Bs
theorem q4q (x:Wk) (hl:x.line=6) (hc:x.c.Ok) (b p q:Nat) (s:St) (w:World) (h:Zb w b x) (hA:Rar w p q s) (hp:b≠p) (hq:b≠q) :
  Calls Tryz.prog 193 #[.pointer (some ⟨b,0,none⟩),.pointer (some ⟨p,0,none⟩)] w fun e w'=>e = .returned (.bool (decide ((x.next (qw s.l (wrap64 x.n))).line=0)))/\Zb w' b (x.next (qw s.l (wrap64 x.n)))/\Rar w' p q (s.load (wrap64 x.n))/\Fr [b,p,q] w w':=by
 generalize hy:x.next (qw s.l (wrap64 x.n))=y;have HY:=q9 hy;clear hy;obtain ⟨c0,c1,c2,c3,c4,c5,c6,c7,c8,c9⟩:=xd h;have z:=h.frozen;go_enter Tryz.func193,Tryz.ntmps193;go_wp2_with fail;clear c0 c1 c2 c3 c4 c5 c6 c7 c8 c9 z;refine z7 Lm [p,q] (fun w2 F2=>?_);refine epq [true,true,true,true,true,true,false,true,true,true,true,false] 2 (F2.mono) ?_;apply qg;refine ⟨fun wf Ff=>?_,?_⟩
 ·exact Io
 refine eoq 6 (fun w3 F3=>?_);have D3:=F2.trans F3;have A3:=hA.kept D3;have h3:=Ob.up h D3;clear hA h F2 F3;go_wp2_with fail;refine (Ref.zl _ p q s _ A3).mono ?_;rintro e w4 ⟨rfl,A4,F4⟩;have D4:=(D3.mono (T:=[p,q]) Ll).trans F4;have h4:=h3.kept F4 Lp;clear A3 h3 F4 D3;go_wp2_with fail;refine ql ⟨D4,?_⟩;refine eoq 11 (fun w5 F5=>?_);have D5:=D4.then F5;have h5:=h4.up F5;have A5:=A4.kept F5;clear A4 h4 F5 D4;go_wp2;refine ql ⟨D5,?_⟩;refine zq Lm (fun w6 F6=>?_);have D6:Fr [b,p,q] w w6:=(D5.then F6).mono Ll;have h6:Zb w6 b x:=h5.up F6;have A6:=A5.kept F6;clear A5 h5 F6 D5;obtain ⟨c0,c1,c2,c3,c4,c5,c6,c7,c8,c9⟩:=xd h6;have z:=h6.frozen;generalize hv:qw s.l (wrap64 x.n)=v at *;by_cases hv0:v<=x.key
 ·have hn:y = { x with cur:=x.n,line:=5 }:=by rw [<- HY.out];unfold Wk.next;simp [hl,hv0]
  exact Cx
 ·have hn:y=x.ends:=by rw [<- HY.out];unfold Wk.next;simp [hl,hv0]
  subst hn;have g:decide (v<=x.key)=false:=by simpa using hv0
  go_wp2_with fail;exact Le
theorem q3e (x:Wk) (hl:x.line=5) (hc:x.c.Ok) (b p q:Nat) (s:St) (w:World) (h:Zb w b x) (hA:Rar w p q s) (hp:b≠p) (hq:b≠q) :
  Calls Tryz.prog 193 #[.pointer (some ⟨b,0,none⟩),.pointer (some ⟨p,0,none⟩)] w fun e w'=>e = .returned (.bool (decide ((x.next (qw s.l (wrap64 (x.cur+2)))).line=0)))/\Zb w' b (x.next (qw s.l (wrap64 (x.cur+2))))/\Rar w' p q (s.load (wrap64 (x.cur+2)))/\Fr [b,p,q] w w':=by
 generalize hy:x.next (qw s.l (wrap64 (x.cur+2)))=y;have HY:=q9 hy;clear hy;obtain ⟨c0,c1,c2,c3,c4,c5,c6,c7,c8,c9⟩:=xd h;have z:=h.frozen;go_enter Tryz.func193,Tryz.ntmps193;go_wp2_with fail;refine (Ref.zl _ p q s _ hA).mono ?_;rintro e w5 ⟨rfl,A5,F5⟩;have h5:Zb w5 b x:=Ob.kept h F5 Lp;have D5:Fr [b,p,q] w w5:=F5.mono;clear c0 c1 c2 c3 c4 c5 c6 c7 c8 c9 z;clear F5 hA h;go_wp2_with fail;refine (Xw _ _).mono ?_;rintro e _ ⟨rfl,rfl⟩;obtain ⟨c0,c1,c2,c3,c4,c5,c6,c7,c8,c9⟩:=xd h5;have z:=h5.frozen;generalize hv:atW (qw s.l (wrap64 (x.cur+2)))=v at *;by_cases hv0:v=0
 ·have hn:y=({ x with n:=0,line:=6 }:Wk).ends:=by rw [<- HY.out];unfold Wk.next;simp [hl,hv,hv0]
  subst hn;go_wp2_with fail;have h6:Zb _ b ({ x with n:=0,line:=6 }:Wk):=(h5.set (i:=8) (.int .i64 0)).set (i:=5) (.int .i64 6);have A6:=(A5.set hp hq (i:=8) (.int .i64 0)).set hp hq (i:=5) (.int .i64 6);have D6:=(D5.setCell' (b:=b) (i:=8) (.int .i64 0) Ll).setCell' (b:=b) (i:=5) (.int .i64 6) Ll;generalize ((w5.setCell ⟨b,8,none⟩ (.int .i64 0)).setCell ⟨b,5,none⟩ (.int .i64 6))=w6 at *;clear c0 c1 c2 c3 c4 c5 c6 c7 c8 c9 z h5 A5 D5;exact Le
 ·have hn:y = { x with n:=v,line:=6 }:=by rw [<- HY.out];unfold Wk.next;simp [hl,hv,hv0]
  exact Dq
theorem q52 (x:Wk) (hl:x.live=false) (b p q:Nat) (w:World) (h:Zb w b x) :
  Calls Tryz.prog 193 #[.pointer (some ⟨b,0,none⟩),.pointer (some ⟨p,0,none⟩)] w fun e w'=>e = .returned (.bool (decide (x.line=0)))/\w=w':=by
 obtain ⟨-,-,-,-,-,c5,-,-,-,-⟩:=xd h;unfold Wk.live at hl;simp only [Bool.or_eq_false_iff] at hl;obtain ⟨⟨⟨⟨l1,l2⟩,l3⟩,l5⟩,l6⟩:=hl;go_enter Tryz.func193,Tryz.ntmps193;simp only [decide_eq_false_iff_not] at l1 l2 l3 l5 l6;exact En
theorem Ka (x:Wk) (hc:x.c.Ok) (hk:0<=x.key/\x.key<=63) (b p q:Nat) (s:St) (w:World) (h:Zb w b x) (hA:Rar w p q s) (hp:b≠p) (hq:b≠q) :
  Calls Tryz.prog 193 #[.pointer (some ⟨b,0,none⟩),.pointer (some ⟨p,0,none⟩)] w fun e w'=>e = .returned (.bool (decide ((x.step s).1.line=0)))/\Zb w' b (x.step s).1/\Rar w' p q (x.step s).2/\Fr [b,p,q] w w':=by
 unfold Wk.step;cases hl:x.live with
 | false=>exact (q52 x hl b p q w h).mono (by rintro e w' ⟨rfl,rfl⟩;exact ⟨rfl,h,hA,Fr.refl _ _⟩)
 | true =>
  unfold Wk.live at hl;simp only [Bool.or_eq_true,decide_eq_true_eq] at hl;rcases hl with (((l | l) | l) | l) | l
  ·rw [qf rfl,show x.looks=Vz x.c x.key by unfold Wk.looks;simp [l]];exact q4w x l hc hk b p q s w h hA hp hq
  ·rw [qf rfl,show x.looks=wrap64 (x.x+6) by unfold Wk.looks;simp [l]];exact q56 x l hc b p q s w h hA hp hq
  ·rw [qf rfl,show x.looks=wrap64 x.x by unfold Wk.looks;simp [l]];exact q3m x l hc b p q s w h hA hp hq
  ·rw [qf rfl,show x.looks=wrap64 (x.cur+2) by unfold Wk.looks;simp [l]];exact q3e x l hc b p q s w h hA hp hq
  ·rw [qf rfl,show x.looks=wrap64 x.n by unfold Wk.looks;simp [l]];exact q4q x l hc b p q s w h hA hp hq
end Go.Proofs.YthokjbikomjhgaaGreatDoor.Mx
namespace Go.Proofs.YthokjbikomjhgaaGreatDoor.Ar
open Go.RowKit
section
variable {P:Program} {ops:Array Oper} {Q:Exit->Act->World->Prop} {md:Region.Mode} {w0:World} {S:List Nat} {LA:Array Bool} {g:Nat}
def Y2 (md:Region.Mode) (ops:Array Oper) (LA:Array Bool) (i:Nat):Bool:=(List.range LA.size).any fun k=>k != i && LA.getD k false && Region.waitsFor md ops k i
theorem Wi {i:Nat} (h:Y2 md ops LA i=true):∃ k,k≠i/\LA.getD k false=true/\Region.waitsFor md ops k i=true:=by unfold Y2 at h;obtain ⟨k,-,hk⟩:=List.any_eq_true.1 h;simp only [Bool.and_eq_true,bne_iff_ne,ne_eq] at hk;exact ⟨k,hk.1.1,hk.1.2,hk.2⟩
def Qv (md:Region.Mode) (ops:Array Oper) (listed:Array Bool) (i:Nat):Bool:=(List.range listed.size).all fun k=>!(listed.getD k false) || !Region.waitsFor md ops k i
theorem Xy {listed:Array Bool} {i k:Nat} (h:Qv md ops listed i=true) (hk:listed.getD k false=true):Region.waitsFor md ops k i=false:=by
 unfold Qv at h
 have hlt:k<listed.size:=Fh
 have:=List.all_eq_true.1 h k (List.mem_range.2 hlt);rw [hk] at this;simpa using this
theorem getD_set_ne' {listed:Array Bool} {j k:Nat} (d:Bool) (h:j≠k):(listed.setIfInBounds j true).getD k d=listed.getD k d:=by simp [Array.getD_eq_getD_getElem?,Array.getElem?_setIfInBounds,h]
theorem Tk {listed:Array Bool} {i j:Nat} (h:Qv md ops listed i=true) (hj:¬ Region.waitsFor md ops j i=true):Qv md ops (listed.setIfInBounds j true) i=true:=by
 unfold Qv;rw [List.all_eq_true];intro k hk;by_cases e:j=k
 ·subst e;cases hw:Region.waitsFor md ops j i with
  | true=>exact absurd hw hj
  | false=>simp
 ·rw [getD_set_ne' false e];cases hl:listed.getD k false with
  | false=>rfl
  | true=>rw [Xy h hl];rfl
theorem Z3.first2 {i:Nat} {oi:Oper} {v:Value} (hi:ops[i]? = some oi) (hsel:Region.noSelect ops=true) (hLB:(Wj md ops LA i || Y2 md ops LA i)=true)
  (hQ:∀ c a d v w,Q (.panic c) (a.put d v) w->Q (.panic c) a w):∀ (f:Nat) (listed:Array Bool) (a:Act) (w:World),
   (∀ j oj,ops[j]? = some oj->j≠i->listed.getD j true=false->(∀ e∈oj.after,Region.binds md e=true->e.on≠i)->oi.apart ops oj=true) ->
   Qv md ops listed i=true->i∈Region.ready md ops listed->U9 P ops S w0 oi v a->Fr S w0 w ->
   Z3 P md ops Q S w0 LA g f (listed.setIfInBounds i true) (a.put oi.dst v) w->Z3 P md ops Q S w0 LA g (f+1) listed a w
 | f,listed,a,w,hfree,hnw,hr,hy,hw,H=>fun w2 h2=>by
  refine ⟨fun h=>Nw,fun j hj=>?_⟩;by_cases hji:j=i
  ·exact Cv
  ·have hj':=ready_mono (i:=i) hj hji;obtain ⟨hjun,oj,hoj,hall⟩:=mem_ready.1 hj
   have hnot:∀ e∈oj.after,Region.binds md e=true->e.on≠i:=fun e he hb heq=>Au
   cases f with
   | zero =>
    have hLA:=(H w2 h2).1
    have hLB:Wj md ops LA i=true:=by
     rcases Bool.or_eq_true_iff.1 hLB with h | h
     ·exact h
     ·obtain ⟨k,hki,hk,hkw⟩:=Wi h;rw [<- hLA,getD_set_ne' false (Ne.symm hki)] at hk;rw [Xy hnw hk] at hkw;cases hkw
    exact Bq
   | succ f =>
    have h1:=(H w2 h2).2 j hj';have g2:=hy.other hoj (hfree j oj hoj hji hjun hnot) (fun cs b=>Region.noSelect_spec hsel i oi cs b hi) (fun cs b=>Region.noSelect_spec hsel j oj cs b hoj) hQ h1
    have hfree':∀ k ok,ops[k]? = some ok->k≠i->(listed.setIfInBounds j true).getD k true=false ->
      (∀ e∈ok.after,Region.binds md e=true->e.on≠i)->oi.apart ops ok=true:=fun k ok hk hki hun hno=>by
     refine hfree k ok hk hki ?_ hno
     by_cases hjk:j=k
     ·subst hjk;exact hjun
     ·rw [getD_set_ne true hjk] at hun;exact hun
    refine wpOp_mono (fun a' w' h3=>⟨h3.2.1,Z3.first2 hi hsel hLB hQ f (listed.setIfInBounds j true) a' w' hfree' (Tk hnw (fun h=>by obtain ⟨ok,hok,e,he,hb,hon⟩:=Region.waitsFor_spec h;rw [hoj] at hok;cases hok;exact hnot e he hb hon)) (ready_mono hr (Ne.symm hji)) h3.1 h3.2.1 ?_⟩) g2;exact Ea
def Ko (md:Region.Mode) (ops:Array Oper) (LA:Array Bool):Nat->List Bool->Array Bool->Bool
 | k,true :: m,listed=>(Wj md ops LA k || Y2 md ops LA k) && Qv md ops listed k && Ko md ops LA (k+1) m (listed.setIfInBounds k true)
 | k,false :: m,listed=>Ko md ops LA (k+1) m listed
 | _,[],_=>true
theorem kw (hs:Region.noSelect ops=true) (hQ:∀ c a d v w,Q (.panic c) (a.put d v) w->Q (.panic c) a w) {aE:Act} {n f:Nat} :
  ∀ (m:List Bool) (L:List Oper) (k:Nat) (listed:Array Bool) (a:Act) (w:World),(∀ j,L[j]? = ops[k+j]?)->Qn md ops k m listed=true->Ko md ops LA k m listed=true->Tz n (sel m L)=true->a.tmps.size=n->Fr S w0 w ->
   (∀ wf,Fr S w0 wf->wpQuiet P ops (fun w'=>∃ s:In wf,w'=s.at_) (fun a'=>a'=aE) (sel m L) a)->Z3 P md ops Q S w0 LA g f (V7 k m listed) aE w->Z3 P md ops Q S w0 LA g (f+countB m) listed a w
 | [],L,k,listed,a,w,_,_,_,_,_,_,h,H=>by
  exact Dj
 | false :: m,[],k,listed,a,w,hL,hB,hW,hd,hn,hw,h,H=>kw hs hQ m [] (k+1) listed a w (fun j=>by have:=hL (j+1);simpa [Nat.add_assoc,Nat.add_comm 1 j] using this) hB hW Ml hn hw (fun wf hf=>by have:=h wf hf;cases m with | nil=>exact this | cons b m=>cases b <;> exact this) H
 | false :: m,o :: L,k,listed,a,w,hL,hB,hW,hd,hn,hw,h,H=>kw hs hQ m L (k+1) listed a w (fun j=>by have:=hL (j+1);simpa [Nat.add_assoc,Nat.add_comm 1 j] using this) hB hW hd hn hw h H
 | true :: m,[],k,listed,a,w,hL,hB,_,_,_,_,_,_=>by
  exfalso
  simp only [Qn,Bool.and_eq_true] at hB
  have hr:k∈Region.ready md ops listed:=by simpa using hB.1.1
  obtain ⟨_,o,ho,_⟩:=mem_ready.1 hr
  have:=hL 0
  simp [ho] at this
 | true :: m,o :: L,k,listed,a,w,hL,hB,hW,hd,hn,hw,h,H=>by
  simp only [Ko,Bool.and_eq_true] at hW
  obtain ⟨⟨hW1,hW3⟩,hW2⟩:=hW
  have h0:ops[k]? = some o:=by simpa using (hL 0).symm
  simp only [Qn,Bool.and_eq_true] at hB
  obtain ⟨⟨hr,hf⟩,hB'⟩:=hB
  simp only [sel,Tz,Bool.and_eq_true] at hd
  obtain ⟨hd1,hd2⟩:=hd
  -- the value,and what follows
  have key:∃ v,U9 P ops S w0 o v a/\∀ wf,Fr S w0 wf->wpQuiet P ops (fun w'=>∃ s:In wf,w'=s.at_) (fun a'=>a'=aE) (sel m L) (a.put o.dst v):=by
   by_cases hw1:Region.wanted o (yielded ops a.tmps)=true
   ·have h':∀ wf,Fr S w0 wf->o.quiet P a (fun w'=>∃ s:In wf,w'=s.at_) (wpQuiet P ops (fun w'=>∃ s:In wf,w'=s.at_) (fun a'=>a'=aE) (sel m L)):=fun wf hf=>by
     have:=h wf hf
     simp only [sel,wpQuiet] at this
     rwa [qf hw1] at this
    obtain ⟨v,_,hv2⟩:=h' w0 (Fr.refl _ _)
    have same:∀ wf,Fr S w0 wf->∀ u,wpQuiet P ops (fun w'=>∃ s:In wf,w'=s.at_) (fun a'=>a'=aE) (sel m L) (a.put o.dst u)->o.dst=none\/u=v:=fun wf hf u hu=>by
     cases hod:o.dst with
     | none=>exact .inl rfl
     | some d =>
      rw [hod] at hd1 hu hv2
      simp only [Bool.and_eq_true,decide_eq_true_eq] at hd1
      have e1:=vn (sel m L) _ hd1.2 hu
      have e2:=vn (sel m L) _ hd1.2 hv2
      have hlt:d<a.tmps.size:=by rw [hn];exact hd1.1
      rw [e1] at e2
      simp [Act.put,hlt] at e2
      exact .inr e2
    refine ⟨v,.inl ⟨hw1,fun wf hf=>?_⟩,fun wf hf=>?_⟩
    ·obtain ⟨u,hu1,hu2⟩:=h' wf hf
     refine ⟨u,?_,same wf hf u hu2⟩
     have hq:=hu1 wf ⟨⟨wf,Fr.refl _ _⟩,rfl⟩
     unfold Oper.quietAt at hq ⊢
     generalize (execOp a.eval o).run P wf=r at *
     cases r with
     | ok x w' =>
      cases x <;> simp only [Oper.quietUpon] at hq ⊢
      case value=>exact hq
      case skip=>exact hq
      case enter g args=>exact ⟨hq.1,hq.2.mono fun e w'' ⟨he,s,hs⟩=>⟨he,hs ▸ s.fr⟩⟩
     | halt x w'=>exact hq
    ·obtain ⟨u,_,hu2⟩:=h' wf hf
     rw [<- Zy (same wf hf u hu2)];exact hu2
   ·refine ⟨undef,.inr ⟨by simpa using hw1,rfl⟩,fun wf hf=>?_⟩
    have:=h wf hf
    simp only [sel,wpQuiet] at this
    rwa [qd hw1] at this
  obtain ⟨v,hy,hK⟩:=key
  exact Z3.first2 h0 hs hW1 hQ (f+countB m) listed a w (Region.free_spec h0 hf) hW3 O7 hy hw
   (kw hs hQ m L (k+1) _ _ w (fun j=>by have:=hL (j+1);simpa [Nat.add_assoc,Nat.add_comm 1 j] using this) hB' hW2 hd2 Nu hw hK H)
end
section
variable {P:Program} {l:List Oper} {Q:Exit->Act->World->Prop} {w0:World} {S:List Nat} {LA:Array Bool} {g:Nat}
theorem ja (m:List Bool) (f:Nat) {g' n:Nat} {listed listed':Array Bool} {a:Act} {w:World} (hf:f+countB m=g') (hs:Region.noSelect l.toArray=true) (hB:Qn .any l.toArray 0 m listed=true) (hW:Ko .any l.toArray LA 0 m listed=true)
  (hd:Tz n (sel m l)=true) (hn:a.tmps.size=n) (hl:V7 0 m listed=listed') (hQ:∀ c a d v w,Q (.panic c) (a.put d v) w->Q (.panic c) a w) (hw:Fr S w0 w)
  (h:∃ aE,(∀ wf,Fr S w0 wf->wpQuiet P l.toArray (fun w'=>∃ s:In wf,w'=s.at_) (fun a'=>a'=aE) (sel m l) a)/\Z3 P .any l.toArray Q S w0 LA g f listed' aE w):Z3 P .any l.toArray Q S w0 LA g g' listed a w:=by
 subst hf;subst hl;obtain ⟨aE,h,H⟩:=h;exact kw hs hQ m l 0 listed a w Ll hB hW hd hn hw h H
end
end Go.Proofs.YthokjbikomjhgaaGreatDoor.Ar
