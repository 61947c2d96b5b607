/- Parts. -/
import Derived.Test.YtleclbldlladmaaGreatVaa
import Derived.Test.YtleclbldlladmaaGreatVab
import Derived.Maps.OwnOps
import Derived.Maps.RangeWalk
import Derived.Maps.Views
import Derived.Stop.IfaceNil
set_option linter.unusedVariables false
set_option linter.unusedSimpArgs false
set_option maxRecDepth 100000
set_option maxHeartbeats 12800000
namespace Go.Proofs.YtleclbldlladmaaGreat.Ar
open Go.RowKit Go.Maps
theorem q50:Keyed Tryz.prog 3:=int_keyed Tryz.underlying3
def Holds (D:DataW Unit) (g:Int->Option Int):Prop :=
 IsMap D/\∀ k:Int,Maps.has D (.int .i64 k)=(g k).isSome/\∀ v,g k=some v->∀ zd,D.atKey (.int .i64 k) zd = .lit (.int .i64 v)
def q36 (w:World) (b n:Nat) (g:Int->Option Int):Prop:=∃ D,w.ownsMap Tryz.prog 3 (plainElem (H:=Unit) Tryz.prog 3) b n D/\Holds D g
theorem q13:Holds (.map []) (fun _=>none):=⟨isMap_empty,fun k=>⟨rfl,fun v h=>by cases h⟩⟩
theorem Holds.put {D:DataW Unit} {g:Int->Option Int} (h:Holds D g) (k v:Int):Holds (D.put (.int .i64 k) (.lit (.int .i64 v))) (fun x=>if x=k then some v else g x):=by
 obtain ⟨hm,hg⟩:=h;refine ⟨hm.put _ _,fun x=>?_⟩;by_cases hx:x=k
 ·subst hx;have hk:WideAt.IsKeyLit (.int .i64 x):=trivial;exact ⟨by rw [has_put_same hm hk];simp,fun u hu zd=>by simp at hu;subst hu;exact atKey_put_same hm hk _ _⟩
 ·have hne:(Lit.int .i64 x)≠Lit.int .i64 k:=fun e=>hx (by cases e;rfl)
  simp only [qd hx];rw [has_put_other hne];exact ⟨(hg x).1,fun u hu zd=>by rw [atKey_put_other hne];exact (hg x).2 u hu zd⟩
theorem q36.made (w:World):q36 (w.alloc (.map #[] 0)) w.heap.size 0 (fun _=>none):=⟨_,World.ownsMap_made w _ _ _,q13⟩
theorem q36.kept {w w':World} {b n:Nat} {g:Int->Option Int} {S:List Nat} (h:q36 w b n g) (f:Fr S w w') (hb:b∉S):q36 w' b n g:=by obtain ⟨D,⟨es,clock,h1,h2⟩,hD⟩:=h;exact ⟨D,⟨es,clock,f.heap h1 hb,h2⟩,hD⟩
theorem q36.lt {w:World} {b n:Nat} {g:Int->Option Int} (h:q36 w b n g):b<w.heap.size:=by obtain ⟨D,h1,_⟩:=h;exact h1.lt
theorem Fr.grownAt {w w':World} {b:Nat} (h:w.grownBy w' (some b)):Fr [b] w w':=⟨h.os,h.tape,h.output,h.size,fun k hk hn=>h.block k hk (fun e=>hn (by cases e;simp))⟩
theorem q3i {w:World} {b n:Nat} {g:Int->Option Int} (h:q36 w b n g) (hn:n<maxLen) (k v:Int) (hk:(Lit.int .i64 k).wf=true) (hv:(Lit.int .i64 v).wf=true) :
  ∃ w',(Instr.mapUpdate 82 (.map (some b)) (.int .i64 k) (.int .i64 v)).run Tryz.prog w = .ok () w'/\q36 w' b (n+1) (fun x=>if x=k then some v else g x)/\Fr [b] w w':=by
 obtain ⟨D,h1,hD⟩:=h;obtain ⟨w',r1,r2,r3⟩:=h1.update q50 Tryz.underlying82 hn (keyOf_int_mk Tryz.underlying3 hk) (plainElem_int Tryz.underlying3 hv);exact ⟨w',r1,⟨_,r2,hD.put k v⟩,Fr.grownAt r3⟩
theorem zy {w:World} {ops:Array Oper} {rest:List Oper} {o:Oper} {a:Act} {Q:Exit->Act->World->Prop}
  (hg:o.guard=none) (m x y:Operand) (hop:o.op=Op.insert 82 m x y) {b n:Nat} {g:Int->Option Int} (k v:Int)
  (hm:a.eval m = .map (some b)) (hx:a.eval x = .int .i64 k) (hy:a.eval y = .int .i64 v) (h:q36 w b n g) (hn:n<maxLen) (hk:(Lit.int .i64 k).wf=true) (hv:(Lit.int .i64 v).wf=true)
  (hK:∀ w',q36 w' b (n+1) (fun x=>if x=k then some v else g x)->Fr [b] w w'->wpList Tryz.prog ops Q rest (a.put o.dst undef) w') :
  wpList Tryz.prog ops Q (o :: rest) a w:=by
 refine wpList_plain hg fun K' hK'=>?_
 obtain ⟨w',hrun,r1,r2⟩:=q3i h hn k v hk hv;unfold Oper.wp;simp [execOp,hop,hm,hx,hy,hrun,Result.andThen];exact hK' _ _ (hK w' r1 r2)
end Go.Proofs.YtleclbldlladmaaGreat.Ar
namespace Go.Proofs.YtleclbldlladmaaGreat.Pl
open Go.RowKit Ar
theorem Qt {n:Nat} (h:n<1000):n<maxLen:=by unfold maxLen;omega
theorem zz {k:Int} (h1:-100000000<=k) (h2:k<=100000000):(Lit.int .i64 k).wf=true:=WalkArith.wf_i64 Lb
def qde (t c:Int) (w:World) (e:Ending) (w':World):Prop:=∃ b n g,e = .returned (.map (some b))/\w.heap.size<=b/\n<=3/\q36 w' b n g/\Fr [] w w' /\
 ∀ k,g k=if k=2 then some (21+t+3 * c) else if k=7+t then some (-1) else if k=9+t then some (2 * (14+t)) else none
theorem Kz (t c wd v:Int) (h1:1<=t) (h2:t<=8) (h3:1<=c) (h4:c<=16) (w:World) :
  Calls Tryz.prog 42 #[.agg #[.int .i64 t,.int .i64 c,.int .i64 wd,.int .i64 v]] w (qde t c w):=by
 have hmm:=@run_makeMap Tryz.prog;go_enter Tryz.func42,Tryz.ntmps42;go_wp2_with fail;refine (Qm t c wd v h1 h2 _).mono ?_;rintro e w1 ⟨rfl,F1⟩;have hb:=F1.heap (Go.heap_alloc_new w (.cells #[.int .i64 t,.int .i64 c,.int .i64 wd,.int .i64 v] 23)) Lc;have G1:=((Fr.refl [] w).alloc _).trans F1;have HB:=q9 hb;have HG:=q9 G1;clear hb G1 F1;go_wp2;refine z7 Le [] (fun w2 F2=>?_);refine epq [false,true,true,false,true,true,false,true,true,true,true,true,false,false,false] 6 F2 ?_;apply qg;refine ⟨fun wf Ff=>?_,?_⟩
 ·obtain ⟨c0,c1,c2,c3⟩:=yu (Ff.heap HB.out Lc);have k0:=qb c0;have k1:=qb c1;have k2:=qb c2;have k3:=qb c3;clear c0 c1 c2 c3 Ff;simp only [sel];repeat (go_big_quiet_step ((first | (go_at_call 22;exact Calls.in_ (X7 _ _ _ _ h1 h2 _)) | (go_at_call 61;exact Calls.in_ (Ko _ _ _ _ h1 h2 h3 h4 _)))))
  exact wpQuiet_nil rfl
 refine eoq 0 (fun w3 F3=>?_);go_wp2;have D:=(F2.trans F3).alloc (.map #[] 0);have M:=q36.made w3;have hb:w1.heap.size<=w3.heap.size:=(F2.trans F3).size;generalize w3.alloc (.map #[] 0)=w4 at D M ⊢;generalize w3.heap.size=b at M hb ⊢;clear F2 F3;refine ql ⟨D,?_⟩;refine jd [3,6,12] Le Lc (fun w5 F5 i hi o ho=>?_);have M5:=M.kept F5 Lc;have D5:=D.trans F5;clear D F5 M;simp only [List.mem_cons,List.not_mem_nil,or_false] at hi;rcases hi with rfl | rfl | rfl
 ·obtain rfl:=qi ho;refine zy rfl _ _ _ rfl _ _ rfl rfl rfl M5 (Qt Lb) (zz Lb Lb) (zz Lb Lb) ?_;intro w6 M6 F6;have D6:=D5.own F6 Ll;simp only [Act.put];clear M5 D5 F6 ho;refine ql ⟨D6,?_⟩;refine jd [6,12] Le Lc (fun w7 F7 i hi o ho=>?_);have M7:=M6.kept F7 Lc;have D7:=D6.trans F7;clear D6 F7 M6;simp only [List.mem_cons,List.not_mem_nil,or_false] at hi;rcases hi with rfl | rfl
  ·exact I8
  ·exact Ia
 ·obtain rfl:=qi ho;refine zy rfl _ _ _ rfl _ _ rfl rfl rfl M5 (Qt Lb) (zz Lb Lb) (zz Lb Lb) ?_;intro w6 M6 F6;have D6:=D5.own F6 Ll;simp only [Act.put];clear M5 D5 F6 ho;refine ql ⟨D6,?_⟩;refine jd [3,12] Le Lc (fun w7 F7 i hi o ho=>?_);have M7:=M6.kept F7 Lc;have D7:=D6.trans F7;clear D6 F7 M6;simp only [List.mem_cons,List.not_mem_nil,or_false] at hi;rcases hi with rfl | rfl
  ·exact I8
  ·exact I9
 ·obtain rfl:=qi ho;refine zy rfl _ _ _ rfl _ _ rfl rfl rfl M5 (Qt Lb) (zz Lb Lb) (zz Lb Lb) ?_;intro w6 M6 F6;have D6:=D5.own F6 Ll;simp only [Act.put];clear M5 D5 F6 ho;refine ql ⟨D6,?_⟩;refine jd [3,6] Le Lc (fun w7 F7 i hi o ho=>?_);have M7:=M6.kept F7 Lc;have D7:=D6.trans F7;clear D6 F7 M6;simp only [List.mem_cons,List.not_mem_nil,or_false] at hi;rcases hi with rfl | rfl
  ·exact Ia
  ·exact I9
def begun (t c wd:Int):St:=(((St.fresh wd.toNat).yl 2 (21+t+3 * c)).yl (7+t) (-1)).yl (9+t) (2 * (14+t))
theorem St.ext' {s u:St} (hl:s.l.length=u.l.length) (hi:∀ i,i<s.l.length->nth s.l i=nth u.l i) (hn:s.n=u.n) (ha:s.a=u.a):s=u:=by
 obtain ⟨l,n,a⟩:=s;obtain ⟨l',n',a'⟩:=u;simp only at hl hi hn ha;subst hn;subst ha
 have:l=l':=List.ext_getElem hl fun i h1 h2=>by have:=hi i h1;simpa [nth,List.getD_eq_getElem?_getD,h1,h2] using this
 rw [this]
def Qh (t c:Int) (k:Int):Int:=if k=2 then 21+t+3 * c else if k=7+t then -1 else if k=9+t then 2 * (14+t) else 0
theorem Vp {t c wd:Int} (h1:1<=t) (h2:t<=8) (h3:1<=c) (hw:21+t+3 * c<=wd) :
  (begun t c wd).l.length=wd.toNat/\(∀ i:Nat,i<wd.toNat->nth (begun t c wd).l i=Qh t c i)/\(begun t c wd).n=0/\(begun t c wd).a=⟨0,0,0,0,false⟩:=by
 obtain ⟨n,rfl⟩:=Int.eq_ofNat_of_zero_le (show 0<=wd by omega);obtain ⟨m,rfl⟩:=Int.eq_ofNat_of_zero_le (show 0<=t by omega);have e7:(7:Int)+(m:Int)=((7+m:Nat):Int):=by omega
 have e9:(9:Int)+(m:Int)=((9+m:Nat):Int):=by omega
 have e2:(2:Int)=((2:Nat):Int):=rfl;refine ⟨by simp [begun,St.yl,x7,St.fresh],fun i hi=>?_,rfl,rfl⟩;simp only [Int.toNat_natCast] at hi;have hf:nth (St.fresh (Int.toNat (n:Int))).l i=0:=by simp [nth,St.fresh,List.getD_eq_getElem?_getD,hi]
 simp only [begun,St.yl,e7,e9];rw [Jh _ (by simp [x7,St.fresh];omega),Jh _ (by simp [x7,St.fresh];omega),e2,Jh _ (by simp [St.fresh];omega),hf,Qh];by_cases a2:i=2
 ·subst a2;rw [qd Lb,qd Lb,qf rfl];exact (qf rfl).symm
 by_cases a7:i=7+m
 ·subst a7;rw [qd Lb,qf rfl,qd Lb,qf Lb]
 by_cases a9:i=9+m
 ·subst a9;rw [qf rfl,qd Lb,qd Lb,qf Lb];rfl
 ·rw [qd a9,qd a7,qd a2,qd Lb,qd Lb,qd Lb]
theorem U9 {t c:Int} {n:Nat} (k:Nat) (h1:1<=t) (h2:t<=8) (h3:1<=c) (hw:21+t+3 * c<=n) (hk:k<n):qw (begun t c n).l k=Qh t c k:=by obtain ⟨b1,b2,_,_⟩:=Vp (wd:=n) h1 h2 h3 hw;simp only [Int.toNat_natCast] at b1 b2;rw [q0e Lb,b2 k hk]
theorem qcp {n:Int} (t c wd v:Int) (h:code t c wd v=n) (w:World) :
  Calls Tryz.prog 41 #[.agg #[.int .i64 t,.int .i64 c,.int .i64 wd,.int .i64 v]] w fun e w'=>e = .returned (qc9 n)/\Fr [] w w':=h ▸ qct t c wd v w
theorem qc7 (t c wd v:Int):code t c wd v=0\/code t c wd v=10\/code t c wd v=14:=by unfold code;split <;> (try split) <;> simp
theorem make_no (t c wd v n:Int) (hn:n=10\/n=14) (h:code t c wd v=n) (w:World) :
  Calls Tryz.prog 21 #[.agg #[.int .i64 t,.int .i64 c,.int .i64 wd,.int .i64 v]] w fun e w'=>e = .returned (.tuple #[.pointer none,.iface 99 (.int .i64 n)])/\Fr [] w w':=by
 have H:=q9 (qcp t c wd v h);have e0:qc9 n = .iface 99 (.int .i64 n):=by rw [qc9,qd Lb]
 rw [e0] at H;clear h hn e0;have isE:Tryz.prog.isIface 49=true:=by kernel_rfl
 go_enter Tryz.func21,Tryz.ntmps21;go_wp2_with fail;refine (H.out _).mono ?_;rintro e w1 ⟨rfl,F1⟩;have G:=((Fr.refl [] w).alloc _).trans F1;clear F1 H;go_wp2;go_ret2;exact ⟨rfl,G⟩
def Lays (t c:Int) (w:World) (b r p q n m:Nat) (D:DataW Unit) (wr:World):Prop:=∃ left cnt s,wr.ranges Tryz.prog 3 (plainElem (H:=Unit) Tryz.prog 3) b r m D left cnt/\(∀ kl,left kl=true->Maps.has D kl=true) /\
 Ar wr p q s/\s.l.length=n/\s.n=0/\s.a=⟨0,0,0,0,false⟩/\(∀ i:Nat,i<n->nth s.l i=if left (.int .i64 i)=true then 0 else Qh t c i)/\Fr [] w wr
def qch (w:World) (s:St) (e:Ending) (w':World):Prop:=∃ p q,e = .returned (.tuple #[.pointer (some ⟨p,0,none⟩),.nilIface])/\w.heap.size<=p/\w.heap.size<=q/\Ar w' p q s/\Fr [] w w'
theorem Kr {t c k v:Int} {g:Int->Option Int} (hg:∀ k,g k=if k=2 then some (21+t+3 * c) else if k=7+t then some (-1) else if k=9+t then some (2 * (14+t)) else none) :
  (g k=some v->v=Qh t c k/\(k=2\/k=7+t\/k=9+t))/\(g k=none->Qh t c k=0):=by
 rw [hg k,Qh];by_cases e1:k=2
 ·rw [qf e1,qf e1];exact ⟨fun h=>⟨(qi h).symm,.inl e1⟩,fun h=>by cases h⟩
 ·rw [qd e1,qd e1];by_cases e2:k=7+t
  ·rw [qf e2,qf e2];exact ⟨fun h=>⟨(qi h).symm,.inr (.inl e2)⟩,fun h=>by cases h⟩
  ·rw [qd e2,qd e2];by_cases e3:k=9+t
   ·rw [qf e3,qf e3];exact ⟨fun h=>⟨(qi h).symm,.inr (.inr e3)⟩,fun h=>by cases h⟩
   ·rw [qd e3,qd e3];exact ⟨(fun h=>by cases h),fun _=>rfl⟩
theorem q4n {t c:Int} {w w5 w6:World} {b p q n m:Nat} {D:DataW Unit} {g:Int->Option Int} (hD:Holds D g) (hg:∀ k,g k=if k=2 then some (21+t+3 * c) else if k=7+t then some (-1) else if k=9+t then some (2 * (14+t)) else none)
  (h1:w6.ranges Tryz.prog 3 (plainElem (H:=Unit) Tryz.prog 3) b w5.heap.size m D (Maps.has D) (Maps.size D)) (h2:w5.grownBy w6 none) (A:Ar w5 p q (St.fresh n)) (F:Fr [] w w5):Lays t c w b w5.heap.size p q n m D w6:=by
 refine ⟨_,_,St.fresh n,h1,fun _ h=>h,A.kept (Fr.grown h2) Lc Lc,by simp [St.fresh],rfl,rfl,fun i hi=>?_,F.trans (Fr.grown h2)⟩;rw [show nth (St.fresh n).l i=0 by simp [nth,St.fresh,List.getD_eq_getElem?_getD,hi]];split
 ·rfl
 ·rename_i hh;rw [(hD.2 i).1] at hh;have:g i=none:=by cases hgi:g i with | none=>rfl | some u=>rw [hgi] at hh;simp at hh
  exact ((Kr (v:=0) hg).2 this).symm
theorem q9f {t c:Int} {n p q:Nat} {s:St} {wr:World} {left:Lit->Bool} (h1:1<=t) (h2:t<=8) (h3:1<=c) (hw:21+t+3 * c<=n) (hl:∀ kl,left kl=false) (A:Ar wr p q s) (e1:s.l.length=n) (e2:s.n=0) (e3:s.a=⟨0,0,0,0,false⟩)
  (e4:∀ i:Nat,i<n->nth s.l i=if left (.int .i64 i)=true then 0 else Qh t c i):Ar wr p q (begun t c n):=by
 obtain ⟨b1,b2,b3,b4⟩:=Vp (wd:=n) h1 h2 h3 hw;simp only [Int.toNat_natCast] at b1 b2;have:s=begun t c n:=St.ext' (by rw [e1,b1]) (fun i hi=>by rw [e4 i Lb,b2 i Lb,qd (by simp [hl])]) (by rw [e2,b3]) (by rw [e3,b4]);exact this ▸ A
theorem q90 {a b:Int}:(Lit.int .i64 a).sameKey (.int .i64 b)=decide (a=b):=by
 by_cases h:a=b
 ·subst h;simp [Lit.sameKey]
 ·rw [Maps.sameKey_ne (fun e=>h (by cases e;rfl))];simp [h]
theorem q5w {t c x v:Int} {w w1 w2:World} {b r p q n m cnt1:Nat} {D:DataW Unit} {g:Int->Option Int} {left:Lit->Bool} {s:St} (h1:1<=t) (hw:21+t+3 * c<=n) (h3:1<=c) (hD:Holds D g)
  (hg:∀ k,g k=if k=2 then some (21+t+3 * c) else if k=7+t then some (-1) else if k=9+t then some (2 * (14+t)) else none)
  (hlx:left (.int .i64 x)=true) (hhas:∀ kl,left kl=true->Maps.has D kl=true) (hat:∀ zd,D.atKey (.int .i64 x) zd = .lit (.int .i64 v))
  (hrg:w1.ranges Tryz.prog 3 (plainElem (H:=Unit) Tryz.prog 3) b r m D (fun z=>left z && !z.sameKey (.int .i64 x)) cnt1) (hq:q<b) (hq0:w.heap.size<=q) (hqr:q<r)
  (A:Ar w2 p q (s.yl x v)) (F2:Fr [q] w1 w2) (G1:Fr [] w w1) (e1:s.l.length=n) (e2:s.n=0) (e3:s.a=⟨0,0,0,0,false⟩) (e4:∀ i:Nat,i<n->nth s.l i=if left (.int .i64 i)=true then 0 else Qh t c i):Lays t c w b r p q n m D w2/\w2.rangeLeft b r=cnt1:=by
 have hgx:g x=some v/\v=Qh t c x/\(x=2\/x=7+t\/x=9+t):=by
  have:=hhas _ hlx;rw [(hD.2 x).1] at this;cases hgx:g x with
  | none=>rw [hgx] at this;simp at this
  | some u =>
   have h:=(hD.2 x).2 u hgx (.nil);rw [hat] at h;cases h;exact ⟨rfl,(Kr hg).1 hgx⟩
 obtain ⟨_,hv,hx⟩:=hgx;obtain ⟨k,rfl⟩:=Int.eq_ofNat_of_zero_le (show 0<=x by omega);have hk:k<n:=by omega
 have hrq:(some q:Option Nat)≠some b:=fun e=>Nat.ne_of_lt hq (qi e)
 have hrg2:=hrg.kept (row:=some q) ⟨F2.os,F2.tape,F2.output,F2.size,fun i hi hn=>F2.block i hi (by simpa using fun e=>hn (by rw [e]))⟩ (Ne.symm hrq) (fun e=>Nat.ne_of_gt hqr (qi e));refine ⟨⟨_,cnt1,s.yl k v,hrg2,fun kl h=>hhas kl (by simp at h;exact h.1),A,by simp [St.yl,x7,e1],e2,e3,fun i hi=>?_,G1.own F2 (by simpa using hq0)⟩,hrg2.left_eq⟩;simp only [St.yl];rw [Jh v Lb,e4 i hi,q90];by_cases hik:i=k
 ·subst hik;simp [hv]
 ·have:¬ ((i:Int)=(k:Int)):=by omega
  simp [hik,this]
theorem make_yes (t c wd v:Int) (h:code t c wd v=0) (w:World) :
  Calls Tryz.prog 21 #[.agg #[.int .i64 t,.int .i64 c,.int .i64 wd,.int .i64 v]] w (qch w (begun t c wd)):=by
 have hf:form t c wd v=true/\21+t+3 * c<=wd:=by
  unfold code at h;split at h
  ·rename_i h1;split at h
   ·rename_i h2;exact ⟨h1,h2⟩
   ·cases h
  ·cases h
 obtain ⟨t1,t2,c1,c2,v1,v2,w1,w2⟩:=Zv.1 hf.1;obtain ⟨n,rfl⟩:=Int.eq_ofNat_of_zero_le (show 0<=wd by omega);have hw:=hf.2;have H:=q9 (qcp t c n v h);have HF:=q9 (Kz t c n v t1 t2 Lb c2);clear h hf v1 v2;have isE:Tryz.prog.isIface 49=true:=by kernel_rfl
 have e0:qc9 0 = .nilIface:=rfl;rw [e0] at H;clear e0;go_enter Tryz.func21,Tryz.ntmps21;go_wp2_with fail;refine (H.out _).mono ?_;rintro e w3 ⟨rfl,F3⟩;obtain ⟨k0,k1,k2,k3⟩:=yu (F3.heap (Go.heap_alloc_new w (.cells #[.int .i64 t,.int .i64 c,.int .i64 n,.int .i64 v] 23)) Lc);have G3:=((Fr.refl [] w).alloc _).trans F3;clear F3 H;go_wp2_with fail;refine (U3 n n Lb Lb Lb _).mono ?_;rintro e w4 ⟨p,q,rfl,hp,hq,A4,F4⟩;have j0:=F4.cell k0 Lc;have j1:=F4.cell k1 Lc;have j2:=F4.cell k2 Lc;have j3:=F4.cell k3 Lc;have G4:=G3.trans F4;have hp':=qh G3.size hp;have hq':=qh G3.size hq;clear F4 G3 k0 k1 k2 k3 hp hq;go_wp2_with fail;refine (HF.out _).mono ?_;rintro e w5 ⟨b,m,g,rfl,hb,hm,M5,F5,hg⟩;have A5:=A4.kept F5;have hpb:=qj A4.lt.1 hb;have hqb:=qj A4.lt.2 hb;have G5:=G4.trans F5;have hb':=qh G4.size hb;clear F5 G4 j0 j1 j2 j3 HF A4 hb;obtain ⟨D,hown,hD⟩:=M5;go_wp2_with (at_range;refine wpList_range_own _ rfl _ 82 rfl 3 3 q50 Tryz.underlying82 _ b m _ rfl hown ?_;intro w6 hrg6 hg6 hs6);have L:=q4n hD hg hrg6 hg6 A5 G5;have hqr:q<w5.heap.size:=A5.lt.2;have hbr:b<w5.heap.size:=hown.lt;have hbw:w.heap.size<=w5.heap.size:=G5.size;generalize w5.heap.size=r at L hqr hbr hbw ⊢;have HL:=q9 L;have Hg:=q9 hg;clear L hrg6 hg6 hs6 hown G5 A5 hg;go_frame;go_loopw [6] (fun _ wr=>Lays t c w b r p q n m D wr) (fun _ wr=>wr.rangeLeft b r);case atStart=>exact HL.out
 case round =>
  obtain ⟨left,cnt,s,hrg,hhas,A,e1,e2,e3,e4,F⟩:=hrel;go_wp2_with (at_next;refine wpList_next_ranges_ii _ rfl _ rfl 3 3 .i64 .i64 q50 Tryz.underlying3 Tryz.underlying3 b r m _ _ _ rfl hrg ?_ ?_)
  ·intro _ hl0;have A':=q9f t1 t2 Lb hw hl0 A e1 e2 e3 e4;clear e1 e2 e3 e4 A hl0;go_wp2;go_ret2;exact ⟨p,q,rfl,hp',hq',A',F⟩
  ·intro x u wn cnt1 hwx hwc hlx hat hrg1 hlt hg1 hs1 hen;have Fn:Fr [r] _ wn:=Fr.grownAt hg1;have An:=A.kept Fn Ll Ll;have Gn:=F.own Fn (by simpa using hbw);have K:=q9 (qc hlx (qc hat (qc hhas (qc e1 (qc e2 (qc e3 e4))))));have Hr:=q9 hrg;have Hr1:=q9 hrg1;clear hlx hat hhas e1 e2 e3 e4 Fn A F hg1 hs1 hrg hrg1;go_wp2_with (go_at_call 28;refine (Qc _ p q s x u An).mono ?_;rintro e wz ⟨rfl,Az,Fz⟩);obtain ⟨hlx,hat,hhas,e1,e2,e3,e4⟩:=K.out;have L:=q5w t1 hw Lb hD Hg.out hlx hhas hat Hr1.out hqb hq' hqr Az Fz Gn e1 e2 e3 e4;have L1:=q9 L.1;have L2:=q9 L.2;clear L hlx hat hhas e1 e2 e3 e4;go_roundw;case rel=>exact L1.out
   case measure=>rw [L2.out,Hr.out.left_eq];exact hlt
end Go.Proofs.YtleclbldlladmaaGreat.Pl
namespace Go.Proofs.YtleclbldlladmaaGreat.Ref
open Go.RowKit Ar Pl
theorem Zq (t c wd v:Int) (h1:1<=c) (h2:c<=16) (w:World) :
  Calls Tryz.prog 18 #[.agg #[.int .i64 t,.int .i64 c,.int .i64 wd,.int .i64 v]] w fun e w'=>e = .returned (.int .i64 (7+3 * c))/\Fr [] w w':=by
 go_enter Tryz.func18,Tryz.ntmps18;exact Av
theorem ku (t:Int) (h1:0<=t) (h2:t<=8) (w:World) :
  Calls Tryz.prog 100 #[.int .i64 t] w fun e w'=>e = .returned (.int .i64 (3+t))/\w=w':=by
 go_enter Tryz.func100,Tryz.ntmps100;exact Ct
theorem Qm (t c wd v:Int) (h1:1<=t) (h2:t<=8) (w:World) :
  Calls Tryz.prog 37 #[.agg #[.int .i64 t,.int .i64 c,.int .i64 wd,.int .i64 v]] w fun e w'=>e = .returned (.int .i64 (3+t+4))/\Fr [] w w':=by
 go_enter Tryz.func37,Tryz.ntmps37;exact Av
theorem q2l (t c wd v k:Int) (h1:1<=t) (h2:t<=8) (h3:0<=k) (h4:k<=63) (w:World) :
  Calls Tryz.prog 116 #[.agg #[.int .i64 t,.int .i64 c,.int .i64 wd,.int .i64 v],.int .i64 k] w fun e w'=>e = .returned (.int .i64 (3+t+k / 16))/\Fr [] w w':=by
 go_enter Tryz.func116,Tryz.ntmps116;exact Av
theorem X7 (t c wd v:Int) (h1:1<=t) (h2:t<=8) (w:World) :
  Calls Tryz.prog 29 #[.agg #[.int .i64 t,.int .i64 c,.int .i64 wd,.int .i64 v]] w fun e w'=>e = .returned (.int .i64 (3+t+4+7))/\Fr [] w w':=by
 go_enter Tryz.func29,Tryz.ntmps29;exact Dc
theorem Ko (t c wd v:Int) (h1:1<=t) (h2:t<=8) (h3:1<=c) (h4:c<=16) (w:World) :
  Calls Tryz.prog 63 #[.agg #[.int .i64 t,.int .i64 c,.int .i64 wd,.int .i64 v]] w fun e w'=>e = .returned (.int .i64 (21+t+3 * c))/\Fr [] w w':=by
 go_enter Tryz.func63,Tryz.ntmps63;go_wp2_with fail;obtain ⟨c0,c1,c2,c3⟩:=yu (Go.heap_alloc_new w (.cells #[.int .i64 t,.int .i64 c,.int .i64 wd,.int .i64 v] 23));have k0:=qb c0;have k1:=qb c1;have k2:=qb c2;have k3:=qb c3;clear c0 c1 c2 c3;refine wiq ?_;repeat (go_big_quiet_step ((first | (go_at_call 29;exact Calls.in_ (X7 _ _ _ _ h1 h2 _)) | (go_at_call 18;exact Calls.in_ (Zq _ _ _ _ h3 h4 _)))))
 exact Em
theorem Xb (a i:Int) (h1:0<=a) (h2:a<=100000000) (h3:0<=i) (h4:i<=1000) (w:World) :
  Calls Tryz.prog 111 #[.int .i64 a,.int .i64 i] w fun e w'=>e = .returned (.int .i64 (a+7+3 * i))/\w=w':=by
 go_enter Tryz.func111,Tryz.ntmps111;exact Ct
theorem q0v (t c wd v:Int) (h:t<1\/8<t\/c<t+2\/16<c\/v<1\/1048576<v\/wd<1\/20000<wd) (w:World) :
  Calls Tryz.prog 44 #[.agg #[.int .i64 t,.int .i64 c,.int .i64 wd,.int .i64 v]] w fun e w'=>e = .returned (.int .i64 10)/\Fr [] w w':=by
 by_cases a1:t<1
 ·clear h;exact Ii
 by_cases a2:8<t
 ·clear h;have b1:decide (t<1)=false:=by simpa using a1
  clear a1;exact Ii
 have b1:decide (t<1)=false:=by simpa using a1
 have b2:decide (8<t)=false:=by simpa using a2
 have t1:1<=t:=by omega
 have t2:t<=8:=by omega
 clear a1 a2;by_cases a3:c<t+2
 ·clear h;exact Ii
 have b3:decide (c<t+2)=false:=by simpa using a3
 clear a3;by_cases a4:16<c
 ·clear h;exact Ii
 have b4:decide (16<c)=false:=by simpa using a4
 clear a4;by_cases a5:v<1
 ·clear h;exact Ii
 have b5:decide (v<1)=false:=by simpa using a5
 clear a5;by_cases a6:1048576<v
 ·clear h;exact Ii
 have b6:decide (1048576<v)=false:=by simpa using a6
 clear a6;by_cases a7:wd<1
 ·clear h;exact Ii
 have b7:decide (wd<1)=false:=by simpa using a7
 have a8:20000<wd:=by simp at b3 b4 b5 b6 b7;omega
 clear a7 h;exact Ii
theorem q1f (t c wd v:Int) (h:form t c wd v=true) (w:World) :
  Calls Tryz.prog 44 #[.agg #[.int .i64 t,.int .i64 c,.int .i64 wd,.int .i64 v]] w fun e w'=>e = .returned (.int .i64 (if 21+t+3 * c<=wd then 0 else 14))/\Fr [] w w':=by
 obtain ⟨t1,t2,c1,c2,v1,v2,w1,w2⟩:=Zv.1 h;have TP:=q9 (Ko t c wd v t1 t2 Lb c2);have b1:decide (t<1)=false:=by simp;omega
 have b2:decide (8<t)=false:=by simp;omega
 have b3:decide (c<t+2)=false:=by simp;omega
 have b4:decide (16<c)=false:=by simp;omega
 have b5:decide (v<1)=false:=by simp;omega
 have b6:decide (1048576<v)=false:=by simp;omega
 have b7:decide (wd<1)=false:=by simp;omega
 have b8:decide (20000<wd)=false:=by simp;omega
 clear h c1 c2 v1 v2 w1 w2;by_cases hf:21+t+3 * c<=wd
 all_goals
  first | rw [qf hf] | rw [qd hf]
  go_enter Tryz.func44,Tryz.ntmps44
  go_wp2_with fail
  obtain ⟨c0,c1,c2,c3⟩:=yu (Go.heap_alloc_new w (.cells #[.int .i64 t,.int .i64 c,.int .i64 wd,.int .i64 v] 23))
  have k0:=qb c0
  have k1:=qb c1
  have k2:=qb c2
  have k3:=qb c3
  clear c0 c1 c2 c3
  refine wiq ?_
  repeat (go_big_quiet_step ((go_at_call 63;exact Calls.in_ (TP.out _))))
  refine wpQuiet_nil ?_
  intro w1 F1
  have G:=((Fr.refl [] w).alloc _).trans F1
  clear F1
  go_wp2
  go_ret
  exact ⟨rfl,G⟩
theorem Wq (t c wd v:Int) (w:World) :
  Calls Tryz.prog 44 #[.agg #[.int .i64 t,.int .i64 c,.int .i64 wd,.int .i64 v]] w fun e w'=>e = .returned (.int .i64 (code t c wd v))/\Fr [] w w':=by
 cases h:form t c wd v
 ·have hn:¬ form t c wd v=true:=by simp [h]
  rw [Zv] at hn;rw [code,qd Mq];exact q0v t c wd v Lb w
 ·rw [code,qf h];exact q1f t c wd v h w
theorem isConf_of {n:Int} (t c wd v:Int) (h:code t c wd v=n) (w:World) :
  Calls Tryz.prog 44 #[.agg #[.int .i64 t,.int .i64 c,.int .i64 wd,.int .i64 v]] w fun e w'=>e = .returned (.int .i64 n)/\Fr [] w w':=h ▸ Wq t c wd v w
theorem qb2 (k:Int) (h0:0<=k) (h1:k<=100000000) (w:World) :
  Calls Tryz.prog 47 #[.int .i64 k,.int .i64 0,.int .i64 1073741824] w fun e w'=>e = .returned (.int .i64 k)/\w=w':=by
 go_enter Tryz.func47,Tryz.ntmps47;go_wp2
 all_goals
  go_ret
  exact ⟨q2c Lb,rfl⟩
theorem Y7 (k:Int) (h0:0<=k) (h1:k<=100000000) (w:World) :
  Calls Tryz.prog 66 #[.int .i64 k,.bool false] w fun e w'=>e = .returned (.int .i64 (2 * k))/\w=w':=by
 go_enter Tryz.func66,Tryz.ntmps66;go_wp2_with fail;refine (qb2 k h0 h1 _).mono ?_;rintro e _ ⟨rfl,rfl⟩;go_wp2;go_ret;exact ⟨q2c Lb,rfl⟩
theorem q2p (t c wd v:Int) (h:form t c wd v=true) (hw:21+t+3 * c<=wd) (w:World) :
  Calls Tryz.prog 46 #[.agg #[.int .i64 t,.int .i64 c,.int .i64 wd,.int .i64 v]] w (q6d w (Pl.begun t c wd)):=by
 obtain ⟨t1,t2,c1,c2,v1,v2,w1,w2⟩:=Zv.1 h;obtain ⟨n,rfl⟩:=Int.eq_ofNat_of_zero_le (show 0<=wd by omega);have hz:=Go.heap_alloc_new w (.cells #[.int .i64 t,.int .i64 c,.int .i64 n,.int .i64 v] 23);clear h v1 v2;go_enter Tryz.func46,Tryz.ntmps46;go_wp2_with fail;refine (Ref.U3 n n Lb Lb Lb _).mono ?_;rintro e w3 ⟨p,q,rfl,hp,hq,R,F⟩;obtain ⟨k0,k1,k2,k3⟩:=yu (F.heap hz Lc);have G:=((Fr.refl [] w).alloc (.cells #[.int .i64 t,.int .i64 c,.int .i64 n,.int .i64 v] 23)).trans F;have hp':w.heap.size<=p:=Nat.le_of_lt (Nat.lt_of_succ_le (by simpa using hp));have hq':w.heap.size<=q:=Nat.le_of_lt (Nat.lt_of_succ_le (by simpa using hq));have hbp:w.heap.size≠q:=by simp at hq;omega
 clear F hz hp hq;go_wp2_with fail;refine (Ko t c n v t1 t2 Lb c2 _).mono ?_;rintro e w4 ⟨rfl,F⟩;have k0:=F.cell k0 Lc;have k1:=F.cell k1 Lc;have k2:=F.cell k2 Lc;have k3:=F.cell k3 Lc;have R:=R.kept F;have G:=G.trans F;clear F;go_wp2_with fail;refine (Ref.Qc _ p q _ 2 (21+t+3 * c) R).mono ?_;rintro e w5 ⟨rfl,R,F⟩;have k0:=F.cell k0 Mm;have k1:=F.cell k1 Mm;have k2:=F.cell k2 Mm;have k3:=F.cell k3 Mm;have G:=G.own F (by simpa using hq');clear F;go_wp2_with fail;refine (Qm t c n v t1 t2 _).mono ?_;rintro e w6 ⟨rfl,F⟩;have k0:=F.cell k0 Lc;have k1:=F.cell k1 Lc;have k2:=F.cell k2 Lc;have k3:=F.cell k3 Lc;have R:=R.kept F;have G:=G.trans F;clear F;go_wp2_with fail;refine (Ref.Qc _ p q _ (3+t+4) (-1) R).mono ?_;rintro e w7 ⟨rfl,R,F⟩;have k0:=F.cell k0 Mm;have k1:=F.cell k1 Mm;have k2:=F.cell k2 Mm;have k3:=F.cell k3 Mm;have G:=G.own F (by simpa using hq');clear F;go_wp2_with fail;refine z7 Le [q] (fun wa Fa=>?_);refine Z7 [true,true,true,true,true,true,true,false] 1 (n:=25) rfl Le Le Le rfl rfl (fun _ _ d _ _ h=>by cases d <;> exact h) (Fa.mono) ?_;apply qg;refine ⟨fun wf Ff=>?_,?_⟩
 ·have k0:=qb (Ff.cell k0 Mm);have k1:=qb (Ff.cell k1 Mm);have k2:=qb (Ff.cell k2 Mm);have k3:=qb (Ff.cell k3 Mm);clear Ff;simp only [sel];repeat (go_big_quiet_step ((first | (go_at_call 37;exact Calls.in_ (Qm _ _ _ _ t1 t2 _)) | (go_at_call 29;exact Calls.in_ (X7 _ _ _ _ t1 t2 _)) | (go_at_call 66;exact Calls.in_same (Y7 (3+t+4+7) Lb Lb _)))))
  exact wpQuiet_nil rfl
 have R:=R.kept Fa;have D:Fr [q] _ _:=Fa.mono;have G:=G.trans Fa;refine eoq 7 (fun wb Fb=>?_);have R:=R.kept Fb;have D:=D.then Fb;have G:=G.trans Fb;clear Fa Fb k0 k1 k2 k3;go_wp2_with fail;refine (Ref.Qc _ p q _ (3+t+4+2) (2 * (3+t+4+7)) R).mono ?_;rintro e w8 ⟨rfl,R,F⟩;have D:=D.trans F;have G:=G.own F (by simpa using hq');clear F;go_wp2_with fail;refine ql ⟨D,?_⟩;refine zr Le (fun wc Fc=>?_);have R:=R.kept Fc;have G:=G.trans Fc;clear Fc D;have E:((St.fresh n).yl 2 (21+t+3 * c)).yl (3+t+4) (-1)=((St.fresh n).yl 2 (21+t+3 * c)).yl (7+t) (-1):=by rw [show 3+t+4=7+t by omega]
 rw [E,show 3+t+4+2=9+t by omega,show 2 * (3+t+4+7)=2 * (14+t) by omega] at R;go_wp2;go_ret;exact ⟨p,q,rfl,hp',hq',R,G⟩
end Go.Proofs.YtleclbldlladmaaGreat.Ref
namespace Go.Proofs.YtleclbldlladmaaGreat.Mx
open Go.RowKit Ar Ref
structure Wk where
 c:Cf
 key:Int
 line:Int
 x:Int
 cur:Int
 n:Int
 at_:Int
def Wk.cells (x:Wk):Array Value:=#[.int .i64 x.c.t,.int .i64 x.c.c,.int .i64 x.c.wd,.int .i64 x.c.v,.int .i64 x.key,.int .i64 x.line,.int .i64 x.x,.int .i64 x.cur,.int .i64 x.n,.int .i64 x.at_]
def Wk.new (c:Cf) (key:Int):Wk:=⟨c,key,1,0,0,0,0⟩
def Wk.head (x:Wk):Wk:={ x with cur:=xn x.c,line:=5 }
def Wk.ends (x:Wk):Wk:={ x with at_:=x.cur,line:=0 }
def Wk.looks (x:Wk):Int :=
 if x.line=1 then Vr x.c x.key else if x.line=2 then wrap64 (x.x+6) else if x.line=3 then wrap64 x.x else if x.line=5 then wrap64 (x.cur+2) else wrap64 x.n
def Wk.next (x:Wk) (v:Int):Wk :=
 if x.line=1 then (if v=0 then { x with x:=v,line:=2 }.head else { x with x:=v,line:=2 })
 else if x.line=2 then (if v=0 then { x with line:=3 } else { x with line:=3 }.head)
 else if x.line=3 then (if v<=x.key then { x with cur:=x.x,line:=5 } else x.head)
 else if x.line=5 then (if atW v=0 then { x with n:=0,line:=6 }.ends else { x with n:=atW v,line:=6 })
 else (if v<=x.key then { x with cur:=x.n,line:=5 } else x.ends)
def Wk.live (x:Wk):Bool:=decide (x.line=1) || decide (x.line=2) || decide (x.line=3) || decide (x.line=5) || decide (x.line=6)
def Wk.step (x:Wk) (s:St):Wk×St:=if x.live=true then (x.next (qw s.l x.looks),s.load x.looks) else (x,s)
def Z2 (w:World) (b:Nat) (x:Wk):Prop:=Ob w b 140 x.cells
theorem xc {w:World} {b:Nat} {x:Wk} (h:Z2 w b x):w.cell? ⟨b,0,none⟩=some (.int .i64 x.c.t)/\w.cell? ⟨b,1,none⟩=some (.int .i64 x.c.c)/\w.cell? ⟨b,2,none⟩=some (.int .i64 x.c.wd)/\w.cell? ⟨b,3,none⟩=some (.int .i64 x.c.v)/\w.cell? ⟨b,4,none⟩=some (.int .i64 x.key)/\w.cell? ⟨b,5,none⟩=some (.int .i64 x.line)/\w.cell? ⟨b,6,none⟩=some (.int .i64 x.x)/\w.cell? ⟨b,7,none⟩=some (.int .i64 x.cur)/\w.cell? ⟨b,8,none⟩=some (.int .i64 x.n)/\w.cell? ⟨b,9,none⟩=some (.int .i64 x.at_) :=
 ⟨h.cell rfl,h.cell rfl,h.cell rfl,h.cell rfl,h.cell rfl,h.cell rfl,h.cell rfl,h.cell rfl,h.cell rfl,h.cell rfl⟩
theorem Zy (c:Cf) (key:Int) (w:World):Calls Tryz.prog 85 #[c.val,.int .i64 key] w fun e w'=>∃ b,e = .returned (.pointer (some ⟨b,0,none⟩))/\w.heap.size<=b/\Z2 w' b (Wk.new c key)/\Fr [] w w':=by unfold Cf.val;have F0:=(Fr.refl [] w).alloc (.cells #[.int .i64 c.t,.int .i64 c.c,.int .i64 c.wd,.int .i64 c.v] 23);obtain ⟨c0,c1,c2,c3⟩:=Pl.yu (Go.heap_alloc_new w (.cells #[.int .i64 c.t,.int .i64 c.c,.int .i64 c.wd,.int .i64 c.v] 23));go_enter Tryz.func85,Tryz.ntmps85;exact Bj
theorem Jo (x:Wk) (hc:x.c.Ok) (b:Nat) (w:World) (h:Z2 w b x):Calls Tryz.prog 117 #[.pointer (some ⟨b,0,none⟩)] w fun e w'=>e = .returned (.tuple #[])/\Z2 w' b x.head/\Fr [b] w w':=by
 obtain ⟨c0,c1,c2,c3,-,-,-,-,-,-⟩:=xc h;have z:=h.frozen;go_enter Tryz.func117,Tryz.ntmps117;go_wp2_with fail;refine (Ref.Qm x.c.t x.c.c x.c.wd x.c.v hc.t1 hc.t8 _).mono ?_;rintro e w1 ⟨rfl,F1⟩;have h1:Z2 w1 b x:=h.up F1;have z1:=h1.frozen;clear c0 c1 c2 c3 z;obtain ⟨-,-,-,-,-,c5,-,c7,-,-⟩:=xc h1;go_wp2;go_end0
 exact ⟨rfl,by
  have e:3+x.c.t+4=xn x.c:=by unfold xn;omega
  rw [e];exact (h1.set _).set _,(F1.mono).trans ((Fr.setCell _ Lc).setCell' _ Lc)⟩
theorem R3 (x:Wk) (b:Nat) (w:World) (h:Z2 w b x):Calls Tryz.prog 118 #[.pointer (some ⟨b,0,none⟩)] w fun e w'=>e = .returned (.tuple #[])/\Z2 w' b x.ends/\Fr [b] w w':=by obtain ⟨-,-,-,-,-,c5,-,c7,-,c9⟩:=xc h;have z:=h.frozen;go_enter Tryz.func118,Tryz.ntmps118;go_wp2;go_end0;exact ⟨rfl,(h.set _).set _,(Fr.setCell _ Lc).setCell' _ Lc⟩
theorem q3a (x:Wk) (hl:x.line=1) (hc:x.c.Ok) (hk:0<=x.key/\x.key<=63) (b p q:Nat) (s:St) (w:World) (h:Z2 w b x) (hA:Rar w p q s) (hp:b≠p) (hq:b≠q) :
  Calls Tryz.prog 90 #[.pointer (some ⟨b,0,none⟩),.pointer (some ⟨p,0,none⟩)] w fun e w'=>e = .returned (.bool (decide ((x.next (qw s.l (Vr x.c x.key))).line=0)))/\Z2 w' b (x.next (qw s.l (Vr x.c x.key)))/\Rar w' p q (s.load (Vr x.c x.key))/\Fr [b,p,q] w w':=by
 generalize hy:x.next (qw s.l (Vr x.c x.key))=y;have HY:=q9 hy;clear hy;obtain ⟨c0,c1,c2,c3,c4,c5,c6,c7,c8,c9⟩:=xc h;go_enter Tryz.func90,Tryz.ntmps90;go_wp2_with fail;clear c0 c1 c2 c3 c4 c5 c6 c7 c8 c9;have hkw:(Lit.int .i64 x.key).wf=true:=WalkArith.wf_i64 Lb;refine qp Le ?_;refine wm 1 rfl Le Le Le rfl (fun _ _ d _ _ h=>by cases d <;> exact h) ?_;go_frame;refine za [p,q] w #[true,true,true,true,true,true,true,true,true,true,true,true,true,false,false,false,false,false,false] 12 6 rfl ?_;refine lpq [true,false,true,true,true,true,true,true,true,true,true,true,false,false,false,false,false,false,false] 1 ((Fr.refl _ w).drew) ?_;apply qg;refine ⟨fun wf Ff=>?_,?_⟩
 ·have hf:Z2 wf b x:=Ob.kept h Ff Lf;obtain ⟨c0,c1,c2,c3,c4,-,-,-,-,-⟩:=xc hf;have k0:=qb c0;have k1:=qb c1;have k2:=qb c2;have k3:=qb c3;have k4:=qb c4;clear c0 c1 c2 c3 c4;simp only [sel];repeat (go_big_quiet_step ((go_at_call 116;exact Calls.in_ (Ref.q2l x.c.t x.c.c x.c.wd x.c.v x.key hc.t1 hc.t8 hk.1 hk.2 _))))
  exact wpQuiet_nil rfl
 refine loq 12 (fun w3 F3=>?_);have D3:=(Fr.refl [] w).drew.trans F3;have A3:=hA.kept D3;have h3:=Ob.up h D3;clear hA h F3;go_wp2_with fail;refine (Ref.zl _ p q s _ A3).mono ?_;rintro e w4 ⟨rfl,A4,F4⟩;go_wp2_with fail;refine ql ⟨(D3.mono).trans F4,?_⟩;refine qy (k:=13) rfl Le (fun w5 F5=>?_);have A5:=A4.kept F5;have h5:Z2 w5 b x:=(h3.kept F4 Lf).up F5;have D5:Fr [b,p,q] w w5:=((D3.mono).trans (F4.mono)).then F5;clear A3 A4 h3 F4 F5 D3;have e2:3+x.c.t+x.key / 16=Vr x.c x.key:=rfl;rw [e2] at A5 ⊢;obtain ⟨c0,c1,c2,c3,c4,c5,c6,c7,c8,c9⟩:=xc h5;have z:=h5.frozen;generalize hv:qw s.l (Vr x.c x.key)=v at *;by_cases hv0:v=0
 ·have hn:y=({ x with x:=0,line:=2 }:Wk).head:=by rw [<- HY.out];subst hv0;unfold Wk.next;simp [hl]
  subst hn;go_wp2_with fail;have h6:Z2 _ b ({ x with x:=0,line:=2 }:Wk):=(h5.set (i:=6) (.int .i64 0)).set (i:=5) (.int .i64 2);have A6:=(A5.set hp hq (i:=6) (.int .i64 0)).set hp hq (i:=5) (.int .i64 2);have D6:=(D5.setCell' (b:=b) (i:=6) (.int .i64 0) Lc).setCell' (b:=b) (i:=5) (.int .i64 2) Lc;generalize ((w5.setCell ⟨b,6,none⟩ (.int .i64 0)).setCell ⟨b,5,none⟩ (.int .i64 2))=w6 at *;clear c0 c1 c2 c3 c4 c5 c6 c7 c8 c9 z h5 A5 D5;refine (Jo { x with x:=0,line:=2 } hc b _ h6).mono ?_;rintro e w7 ⟨rfl,h7,F7⟩;have A7:=A6.kept F7 Li Lj;have D7:=zm D6 F7 Lc;clear h6 A6 D6 F7;exact Ck
 ·have hn:y = { x with x:=v,line:=2 }:=by rw [<- HY.out];unfold Wk.next;simp [hl,hv0]
  exact Dk
theorem q3t (x:Wk) (hl:x.line=2) (hc:x.c.Ok) (b p q:Nat) (s:St) (w:World) (h:Z2 w b x) (hA:Rar w p q s) (hp:b≠p) (hq:b≠q) :
  Calls Tryz.prog 90 #[.pointer (some ⟨b,0,none⟩),.pointer (some ⟨p,0,none⟩)] w fun e w'=>e = .returned (.bool (decide ((x.next (qw s.l (wrap64 (x.x+6)))).line=0)))/\Z2 w' b (x.next (qw s.l (wrap64 (x.x+6))))/\Rar w' p q (s.load (wrap64 (x.x+6)))/\Fr [b,p,q] w w':=by
 generalize hy:x.next (qw s.l (wrap64 (x.x+6)))=y;have HY:=q9 hy;clear hy;obtain ⟨c0,c1,c2,c3,c4,c5,c6,c7,c8,c9⟩:=xc h;have z:=h.frozen;go_enter Tryz.func90,Tryz.ntmps90;go_wp2_with fail;have A1:=hA.set hp hq (i:=5) (.int .i64 3);have h1:Z2 _ b ({ x with line:=3 }:Wk):=Ob.set h (i:=5) (.int .i64 3);have D1:Fr [b,p,q] w (w.setCell ⟨b,5,none⟩ (.int .i64 3)):=Fr.setCell (b:=b) _ Lc;clear c0 c1 c2 c3 c4 c5 c6 c7 c8 c9 z;generalize (w.setCell ⟨b,5,none⟩ (.int .i64 3))=w1 at *;refine (Ref.zl _ p q s _ A1).mono ?_;rintro e w5 ⟨rfl,A5,F5⟩;have h5:=Ob.kept h1 F5 Lf;have D5:=zm D1 F5 Lc;clear A1 h1 D1 F5 hA h;obtain ⟨c0,c1,c2,c3,c4,c5,c6,c7,c8,c9⟩:=xc h5;generalize hv:qw s.l (wrap64 (x.x+6))=v at *;by_cases hv0:v=0
 ·have hn:y = { x with line:=3 }:=by rw [<- HY.out];subst hv0;unfold Wk.next;simp [hl]
  subst hn;exact Ea
 ·have hn:y=({ x with line:=3 }:Wk).head:=by rw [<- HY.out];unfold Wk.next;simp [hl,hv0]
  subst hn;go_wp2_with fail;refine (Jo { x with line:=3 } hc b _ h5).mono ?_;rintro e w7 ⟨rfl,h7,F7⟩;have A7:=(A5).kept F7 Li Lj;have D7:=zm (D5) F7 Lc;exact Ck
theorem q34 (x:Wk) (hl:x.line=3) (hc:x.c.Ok) (b p q:Nat) (s:St) (w:World) (h:Z2 w b x) (hA:Rar w p q s) (hp:b≠p) (hq:b≠q) :
  Calls Tryz.prog 90 #[.pointer (some ⟨b,0,none⟩),.pointer (some ⟨p,0,none⟩)] w fun e w'=>e = .returned (.bool (decide ((x.next (qw s.l (wrap64 x.x))).line=0)))/\Z2 w' b (x.next (qw s.l (wrap64 x.x)))/\Rar w' p q (s.load (wrap64 x.x))/\Fr [b,p,q] w w':=by
 generalize hy:x.next (qw s.l (wrap64 x.x))=y;have HY:=q9 hy;clear hy;obtain ⟨c0,c1,c2,c3,c4,c5,c6,c7,c8,c9⟩:=xc h;have z:=h.frozen;go_enter Tryz.func90,Tryz.ntmps90;go_wp2_with fail;clear c0 c1 c2 c3 c4 c5 c6 c7 c8 c9 z;refine z7 Le [p,q] (fun w2 F2=>?_);refine epq [true,true,true,true,true,true,false,true,true,true,true,false] 2 (F2.mono) ?_;apply qg;refine ⟨fun wf Ff=>?_,?_⟩
 ·exact Ih
 refine eoq 6 (fun w3 F3=>?_);have D3:=F2.trans F3;have A3:=hA.kept D3;have h3:=Ob.up h D3;clear hA h F2 F3;go_wp2_with fail;refine (Ref.zl _ p q s _ A3).mono ?_;rintro e w4 ⟨rfl,A4,F4⟩;have D4:=(D3.mono (T:=[p,q]) Lc).trans F4;have h4:=h3.kept F4 Lf;clear A3 h3 F4 D3;go_wp2_with fail;refine ql ⟨D4,?_⟩;refine eoq 11 (fun w5 F5=>?_);have D5:=D4.then F5;have h5:=h4.up F5;have A5:=A4.kept F5;clear A4 h4 F5 D4;go_wp2;refine ql ⟨D5,?_⟩;refine zr Le (fun w6 F6=>?_);have D6:Fr [b,p,q] w w6:=(D5.then F6).mono Lc;have h6:Z2 w6 b x:=h5.up F6;have A6:=A5.kept F6;clear A5 h5 F6 D5;obtain ⟨c0,c1,c2,c3,c4,c5,c6,c7,c8,c9⟩:=xc h6;have z:=h6.frozen;generalize hv:qw s.l (wrap64 x.x)=v at *;by_cases hv0:v<=x.key
 ·have hn:y = { x with cur:=x.x,line:=5 }:=by rw [<- HY.out];unfold Wk.next;simp [hl,hv0]
  exact Cr
 ·have hn:y=x.head:=by rw [<- HY.out];unfold Wk.next;simp [hl,hv0]
  subst hn;have g:decide (v<=x.key)=false:=by simpa using hv0
  go_wp2_with fail;refine (Jo x hc b _ h6).mono ?_;rintro e w7 ⟨rfl,h7,F7⟩;exact Bq
theorem q3j (x:Wk) (hl:x.line=6) (hc:x.c.Ok) (b p q:Nat) (s:St) (w:World) (h:Z2 w b x) (hA:Rar w p q s) (hp:b≠p) (hq:b≠q) :
  Calls Tryz.prog 90 #[.pointer (some ⟨b,0,none⟩),.pointer (some ⟨p,0,none⟩)] w fun e w'=>e = .returned (.bool (decide ((x.next (qw s.l (wrap64 x.n))).line=0)))/\Z2 w' b (x.next (qw s.l (wrap64 x.n)))/\Rar w' p q (s.load (wrap64 x.n))/\Fr [b,p,q] w w':=by
 generalize hy:x.next (qw s.l (wrap64 x.n))=y;have HY:=q9 hy;clear hy;obtain ⟨c0,c1,c2,c3,c4,c5,c6,c7,c8,c9⟩:=xc h;have z:=h.frozen;go_enter Tryz.func90,Tryz.ntmps90;go_wp2_with fail;clear c0 c1 c2 c3 c4 c5 c6 c7 c8 c9 z;refine z7 Le [p,q] (fun w2 F2=>?_);refine epq [true,true,true,true,true,true,false,true,true,true,true,false] 2 (F2.mono) ?_;apply qg;refine ⟨fun wf Ff=>?_,?_⟩
 ·exact Ih
 refine eoq 6 (fun w3 F3=>?_);have D3:=F2.trans F3;have A3:=hA.kept D3;have h3:=Ob.up h D3;clear hA h F2 F3;go_wp2_with fail;refine (Ref.zl _ p q s _ A3).mono ?_;rintro e w4 ⟨rfl,A4,F4⟩;have D4:=(D3.mono (T:=[p,q]) Lc).trans F4;have h4:=h3.kept F4 Lf;clear A3 h3 F4 D3;go_wp2_with fail;refine ql ⟨D4,?_⟩;refine eoq 11 (fun w5 F5=>?_);have D5:=D4.then F5;have h5:=h4.up F5;have A5:=A4.kept F5;clear A4 h4 F5 D4;go_wp2;refine ql ⟨D5,?_⟩;refine zr Le (fun w6 F6=>?_);have D6:Fr [b,p,q] w w6:=(D5.then F6).mono Lc;have h6:Z2 w6 b x:=h5.up F6;have A6:=A5.kept F6;clear A5 h5 F6 D5;obtain ⟨c0,c1,c2,c3,c4,c5,c6,c7,c8,c9⟩:=xc h6;have z:=h6.frozen;generalize hv:qw s.l (wrap64 x.n)=v at *;by_cases hv0:v<=x.key
 ·have hn:y = { x with cur:=x.n,line:=5 }:=by rw [<- HY.out];unfold Wk.next;simp [hl,hv0]
  exact Cr
 ·have hn:y=x.ends:=by rw [<- HY.out];unfold Wk.next;simp [hl,hv0]
  subst hn;have g:decide (v<=x.key)=false:=by simpa using hv0
  go_wp2_with fail;exact Iy
theorem q39 (x:Wk) (hl:x.line=5) (hc:x.c.Ok) (b p q:Nat) (s:St) (w:World) (h:Z2 w b x) (hA:Rar w p q s) (hp:b≠p) (hq:b≠q) :
  Calls Tryz.prog 90 #[.pointer (some ⟨b,0,none⟩),.pointer (some ⟨p,0,none⟩)] w fun e w'=>e = .returned (.bool (decide ((x.next (qw s.l (wrap64 (x.cur+2)))).line=0)))/\Z2 w' b (x.next (qw s.l (wrap64 (x.cur+2))))/\Rar w' p q (s.load (wrap64 (x.cur+2)))/\Fr [b,p,q] w w':=by
 generalize hy:x.next (qw s.l (wrap64 (x.cur+2)))=y;have HY:=q9 hy;clear hy;obtain ⟨c0,c1,c2,c3,c4,c5,c6,c7,c8,c9⟩:=xc h;have z:=h.frozen;go_enter Tryz.func90,Tryz.ntmps90;go_wp2_with fail;refine (Ref.zl _ p q s _ hA).mono ?_;rintro e w5 ⟨rfl,A5,F5⟩;have h5:Z2 w5 b x:=Ob.kept h F5 Lf;have D5:Fr [b,p,q] w w5:=F5.mono;clear c0 c1 c2 c3 c4 c5 c6 c7 c8 c9 z;clear F5 hA h;go_wp2_with fail;refine (Xt _ _).mono ?_;rintro e _ ⟨rfl,rfl⟩;obtain ⟨c0,c1,c2,c3,c4,c5,c6,c7,c8,c9⟩:=xc h5;have z:=h5.frozen;generalize hv:atW (qw s.l (wrap64 (x.cur+2)))=v at *;by_cases hv0:v=0
 ·have hn:y=({ x with n:=0,line:=6 }:Wk).ends:=by rw [<- HY.out];unfold Wk.next;simp [hl,hv,hv0]
  subst hn;go_wp2_with fail;have h6:Z2 _ b ({ x with n:=0,line:=6 }:Wk):=(h5.set (i:=8) (.int .i64 0)).set (i:=5) (.int .i64 6);have A6:=(A5.set hp hq (i:=8) (.int .i64 0)).set hp hq (i:=5) (.int .i64 6);have D6:=(D5.setCell' (b:=b) (i:=8) (.int .i64 0) Lc).setCell' (b:=b) (i:=5) (.int .i64 6) Lc;generalize ((w5.setCell ⟨b,8,none⟩ (.int .i64 0)).setCell ⟨b,5,none⟩ (.int .i64 6))=w6 at *;clear c0 c1 c2 c3 c4 c5 c6 c7 c8 c9 z h5 A5 D5;exact Iy
 ·have hn:y = { x with n:=v,line:=6 }:=by rw [<- HY.out];unfold Wk.next;simp [hl,hv,hv0]
  exact Dk
theorem q3x (x:Wk) (hl:x.live=false) (b p q:Nat) (w:World) (h:Z2 w b x) :
  Calls Tryz.prog 90 #[.pointer (some ⟨b,0,none⟩),.pointer (some ⟨p,0,none⟩)] w fun e w'=>e = .returned (.bool (decide (x.line=0)))/\w=w':=by
 obtain ⟨-,-,-,-,-,c5,-,-,-,-⟩:=xc h;unfold Wk.live at hl;simp only [Bool.or_eq_false_iff] at hl;obtain ⟨⟨⟨⟨l1,l2⟩,l3⟩,l5⟩,l6⟩:=hl;go_enter Tryz.func90,Tryz.ntmps90;simp only [decide_eq_false_iff_not] at l1 l2 l3 l5 l6;exact Ei
theorem Kw (x:Wk) (hc:x.c.Ok) (hk:0<=x.key/\x.key<=63) (b p q:Nat) (s:St) (w:World) (h:Z2 w b x) (hA:Rar w p q s) (hp:b≠p) (hq:b≠q) :
  Calls Tryz.prog 90 #[.pointer (some ⟨b,0,none⟩),.pointer (some ⟨p,0,none⟩)] w fun e w'=>e = .returned (.bool (decide ((x.step s).1.line=0)))/\Z2 w' b (x.step s).1/\Rar w' p q (x.step s).2/\Fr [b,p,q] w w':=by
 unfold Wk.step;cases hl:x.live with
 | false=>exact (q3x x hl b p q w h).mono (by rintro e w' ⟨rfl,rfl⟩;exact ⟨rfl,h,hA,Fr.refl _ _⟩)
 | true =>
  unfold Wk.live at hl;simp only [Bool.or_eq_true,decide_eq_true_eq] at hl;rcases hl with (((l | l) | l) | l) | l
  ·rw [qf rfl,show x.looks=Vr x.c x.key by unfold Wk.looks;simp [l]];exact q3a x l hc hk b p q s w h hA hp hq
  ·rw [qf rfl,show x.looks=wrap64 (x.x+6) by unfold Wk.looks;simp [l]];exact q3t x l hc b p q s w h hA hp hq
  ·rw [qf rfl,show x.looks=wrap64 x.x by unfold Wk.looks;simp [l]];exact q34 x l hc b p q s w h hA hp hq
  ·rw [qf rfl,show x.looks=wrap64 (x.cur+2) by unfold Wk.looks;simp [l]];exact q39 x l hc b p q s w h hA hp hq
  ·rw [qf rfl,show x.looks=wrap64 x.n by unfold Wk.looks;simp [l]];exact q3j x l hc b p q s w h hA hp hq
def ins (l:List Int) (v:Int):List Int :=
 match l with
 | []=>[v]
 | x :: r=>if x<v then x :: ins r v else if x=v then x :: r else v :: x :: r
theorem q9i {l:List Int} {v:Int} {k:Nat} (h1:∀ i x,i<k->l[i]? = some x->x<v) (h2:l[k]? = some v):ins l v=l:=by
 induction l generalizing k with
 | nil=>simp at h2
 | cons x r ih =>
  unfold ins;cases k with
  | zero=>simp at h2;subst h2;simp
  | succ k =>
   rw [qf (h1 0 x Lb rfl),ih (k:=k) (fun i y hi hy=>h1 (i+1) y Lb hy) (by simpa using h2)]
theorem q66 {l:List Int} {v:Int} {k:Nat} (hk:k<=l.length) (h1:∀ i x,i<k->l[i]? = some x->x<v) (h2:∀ x,l[k]? = some x->v<x):ins l v=l.take k++[v]++l.drop k:=by
 induction l generalizing k with
 | nil=>simp at hk;subst hk;rfl
 | cons x r ih =>
  unfold ins;cases k with
  | zero =>
   have:=h2 x rfl;rw [qd Lb,qd Lb];rfl
  | succ k =>
   rw [qf (h1 0 x Lb rfl),ih (k:=k) Mi (fun i y hi hy=>h1 (i+1) y Lb hy) (fun y hy=>h2 y (by simpa using hy))];simp
structure NdB where
 c:Cf
 t:Int
 line:Int
 e:Int
 v:Int
 l:List Int
def NdB.cells (x:NdB) (lv:Value):Array Value:=#[.int .i64 x.c.t,.int .i64 x.c.c,.int .i64 x.c.wd,.int .i64 x.c.v,.int .i64 x.t,.int .i64 x.line,.int .i64 x.e,.int .i64 x.v,lv]
theorem Ya {w:World} {b:Nat} {x:NdB} {lv:Value} (h:Ob w b 187 (x.cells lv)):w.cell? ⟨b,0,none⟩=some (.int .i64 x.c.t)/\w.cell? ⟨b,1,none⟩=some (.int .i64 x.c.c)/\w.cell? ⟨b,2,none⟩=some (.int .i64 x.c.wd)/\w.cell? ⟨b,3,none⟩=some (.int .i64 x.c.v)/\w.cell? ⟨b,4,none⟩=some (.int .i64 x.t)/\w.cell? ⟨b,5,none⟩=some (.int .i64 x.line)/\w.cell? ⟨b,6,none⟩=some (.int .i64 x.e)/\w.cell? ⟨b,7,none⟩=some (.int .i64 x.v)/\w.cell? ⟨b,8,none⟩=some lv :=
 ⟨h.cell rfl,h.cell rfl,h.cell rfl,h.cell rfl,h.cell rfl,h.cell rfl,h.cell rfl,h.cell rfl,h.cell rfl⟩
def MetAt (l:List Int) (v:Int) (u:Value) (w wr:World):Prop:=∃ k,k<=l.length/\u = .int .i64 (k:Nat)/\wr=w/\∀ i x,i<k->l[i]? = some x->x<v
theorem q9l (x:NdB) (v:Int) (b:Nat) (lv:Value) (w:World) (hl:x.l.length<=1000) (h:Ob w b 187 (x.cells lv)) (hs:Sq fI w lv x.l) (hb:b∉lv.ownBlock.toList) :
  Calls Tryz.prog 140 #[.pointer (some ⟨b,0,none⟩),.int .i64 v] w fun e w'=>e = .returned (.tuple #[])/\(∃ lv',Ob w' b 187 (({ x with l:=ins x.l v }:NdB).cells lv')/\Sq fI w' lv' (ins x.l v)/\(lv'=lv\/∀ g,g∈lv'.ownBlock.toList->w.heap.size<=g))/\Fr [b] w w':=by
 obtain ⟨a,cap,rfl,hcap,hmax,hc⟩:=id hs;obtain ⟨-,-,-,-,-,-,-,-,c8⟩:=Ya h;have HC:=q9 hc;clear hc;go_enter Tryz.func140,Tryz.ntmps140;go_wp2_with fail;go_loopw [4] (fun u wr=>MetAt x.l v u w wr) (fun u _=>x.l.length - (intOf u).toNat);case atStart=>exact ⟨0,Nat.zero_le _,rfl,rfl,by omega⟩
 case round =>
  obtain ⟨k,hk,rfl,rfl,h1⟩:=hrel;by_cases hlt:k<x.l.length
  ·obtain ⟨y,hy⟩:∃ y,x.l[k]? = some y:=⟨x.l[k],List.getElem?_eq_getElem hlt⟩;obtain ⟨-,g,off,rfl,hcell⟩:=Sq.cell yj hs hy;have d0:=hcell 0 (.int .i64 y) rfl;rw [Nat.mul_one,Nat.add_zero] at d0;by_cases hyv:y<v
   ·have g1:decide (y<v)=true:=by simpa using hyv
    go_wp2_with fail;go_roundw
    case rel=>exact ⟨k+1,by omega,by go_num,rfl,fun i z hi hz=>by
     by_cases e:i=k
     ·subst e;rw [hy] at hz;cases hz;exact hyv
     ·exact h1 i z Lb hz⟩
    case measure=>simp [intOf];omega
   have g1:decide (y<v)=false:=by simpa using hyv
   by_cases he:y=v
   ·subst he;have hi:=q9i h1 hy;have HI:=q9 hi;clear hi;have b0:(((k:Nat):Int) == ((x.l.length:Nat):Int))=false:=by simp;omega
    go_wp2_with fail;go_end0;exact ⟨rfl,⟨_,by rw [HI.out];exact h,by rw [HI.out];exact hs,.inl rfl⟩,Fr.refl _ _⟩
   have hn:=q9 (q66 Lb h1 (fun z hz=>by rw [hy] at hz;cases hz;omega));have b0:(((k:Nat):Int) == ((x.l.length:Nat):Int))=false:=by simp;omega
   have b1:(y != v)=true:=by simpa using he
   go_wp2_with fail;have HS:=q9 hs;clear c8 hs;refine qp Le ?_;refine za [] wr #[true,true,true,true,true,true,true,true,true,true,true,true,true,true,true,true,true,true,false,false,false] 18 3 rfl ?_;refine lpq [true,true,true,true,true,true,true,false,true,false,false,true,true,true,true,true,true,false,false,false,false] 4 ((Fr.refl _ wr).drew) ?_;apply qg;refine ⟨fun wf Ff=>?_,?_⟩
   ·exact Iq
   have HS1:=q9 (Sq.take yj HS.out k Lb);have HS2:=q9 (Sq.drop yj HS.out k Lb);rw [Nat.mul_one] at HS2;have HT:=q9 (show (x.l.take k).length<=1000/\(x.l.drop k).length<=1000/\ins x.l v=x.l.take k++[v]++x.l.drop k from ⟨by simp;omega,by simp;omega,hn.out⟩);generalize x.l.take k=T1 at HS1 HT;generalize x.l.drop k=T2 at HS2 HT;refine jo [7,9] Le Lc (fun w10 F10 i hi o ho=>?_);have G:=(Fr.refl [] wr).drew.trans F10;clear F10;simp only [List.mem_cons,List.not_mem_nil,or_false] at hi;rcases hi with rfl | rfl
   focus
    obtain rfl:=qi ho
    go_wp2_with (at_builtin;refine qq yj rfl _ _ 25 rfl Tryz.underlying25 q6z rfl (B:=wr.heap.size) (.slice none 0 0) [] rfl ⟨rfl,.inl ⟨rfl,rfl⟩⟩ _ T1 rfl (HS1.out.up G) Lh Lg G.size ?_;intro a21 c21 w21 r21 f21)
    rw [List.nil_append] at r21
    replace G:=G.trans f21
    clear f21
    refine ql ⟨G,?_⟩
    refine loq 9 (fun w11 F11=>?_)
    have r11:=qo r21 F11
    replace G:=G.trans F11
    clear r21 F11
    go_wp2_with fail
    have F12:=(Fr.refl [] w11).alloc (.cells #[.int .i64 v] 3)
    have B12:=Go.heap_alloc_new w11 (.cells #[.int .i64 v] 3)
    have r12:=qo r11 F12
    replace G:=G.trans F12
    clear r11 F12 ho
    refine ql ⟨G,?_⟩
    refine loq 10 (fun w13 F13=>?_)
    have r22:=qo r12 F13
    have B22:=F13.heap B12 Lc
    replace G:=G.trans F13
    clear r12 B12 F13
   rotate_left
   focus
    obtain rfl:=qi ho
    go_wp2_with fail
    have F12:=(Fr.refl [] w10).alloc (.cells #[.int .i64 v] 3)
    have B12:=Go.heap_alloc_new w10 (.cells #[.int .i64 v] 3)
    replace G:=G.trans F12
    clear F12 ho
    refine ql ⟨G,?_⟩
    refine loq 7 (fun w11 F11=>?_)
    have B13:=F11.heap B12 Lc
    replace G:=G.trans F11
    clear B12 F11
    go_wp2_with (at_builtin;refine qq yj rfl _ _ 25 rfl Tryz.underlying25 q6z rfl (B:=wr.heap.size) (.slice none 0 0) [] rfl ⟨rfl,.inl ⟨rfl,rfl⟩⟩ _ T1 rfl (HS1.out.up G) Lh Lg G.size ?_;intro a21 c21 w21 r21 f21)
    rw [List.nil_append] at r21
    have B21:=Fr.heap f21 B13 Lp
    replace G:=G.trans f21
    clear f21 B13
    refine ql ⟨G,?_⟩
    refine loq 10 (fun w13 F13=>?_)
    have r22:=qo r21 F13
    have B22:=F13.heap B21 Lc
    replace G:=G.trans F13
    clear r21 B21 F13
   rotate_left
   all_goals
    go_wp2_with (at_builtin;refine qq yj rfl _ _ 25 rfl Tryz.underlying25 q6z rfl (B:=wr.heap.size) _ T1 rfl r22 _ [v] rfl (Sq.block B22 rfl rfl (Nat.le_refl _) Lm) Lh Lg G.size ?_;intro a23 c23 w23 r23 f23;generalize hT3:T1++[v]=T3 at r23 ⊢)
    replace G:=G.own f23 (z8 r22)
    clear f23 r22 B22
    refine ql ⟨G,?_⟩
    refine loq 17 (fun w14 F14=>?_)
    have r24:=qo r23 F14
    replace G:=G.trans F14
    clear r23 F14
    go_wp2_with (at_builtin;refine qq yj rfl _ _ 25 rfl Tryz.underlying25 q6z rfl (B:=wr.heap.size) _ T3 rfl r24 _ T2 rfl (HS2.out.up G) Me Lg G.size ?_;intro a25 c25 w25 r25 f25;generalize hT4:T3++T2=T4 at r25 ⊢)
    replace G:=G.own f25 (z8 r24)
    clear f25 r24
    refine ql ⟨G,?_⟩
    refine qy (k:=18) rfl Le (fun w15 F15=>?_)
    have r26:=qo r25 F15
    replace G:=G.trans F15
    clear r25 F15
    have h26:=h.up G
    have z26:=h26.frozen
    obtain ⟨-,-,-,-,-,-,-,-,c8⟩:=Ya h26
    go_wp2_with fail
    go_end0
    have hlt26:b<wr.heap.size:=h.lt
    have e26:ins x.l v=T4:=by rw [HT.out.2.2,hT3,hT4]
    rw [<- e26] at r26 ⊢
    refine ⟨rfl,⟨_,Ob.set h26 (i:=8) _,(Sq.own r26).kept (Fr.setCell (S:=[b]) _ Lc) (fun g hg hi=>?_),.inr (z8 r26)⟩,(G.mono).trans (Fr.setCell _ Lc)⟩
    have:=z8 r26 g hg
    simp at hi
    omega
  ·obtain rfl:k=x.l.length:=by omega
   have hn:=q9 (q66 (Nat.le_refl _) h1 (fun z hz=>by simp at hz));have b0:(((x.l.length:Nat):Int) == ((x.l.length:Nat):Int))=true:=by simp
   go_wp2_with fail;have HS:=q9 hs;clear c8 hs;refine qp Le ?_;refine za [] wr #[true,true,true,true,true,true,true,true,true,true,true,true,true,true,true,true,true,true,false,false,false] 18 3 rfl ?_;refine lpq [true,true,true,true,true,true,true,false,true,false,false,true,true,true,true,true,true,false,false,false,false] 4 ((Fr.refl _ wr).drew) ?_;apply qg;refine ⟨fun wf Ff=>?_,?_⟩
   ·exact Iq
   have HS1:=HS;rw [List.take_length,List.drop_length] at hn;have HT:=q9 (show x.l.length<=1000/\([]:List Int).length<=1000/\ins x.l v=x.l++[v]++[] from ⟨hl,by simp,hn.out⟩);have hcm:cap - x.l.length<=maxLen:=by omega
   generalize (if cap=x.l.length then a else Option.map (fun y=>y.add x.l.length) a)=a2;generalize cap - x.l.length=c2 at hcm ⊢;have HS2:=q9 (Sq.empty (f:=fI) wr a2 hcm);refine jo [7,9] Le Lc (fun w10 F10 i hi o ho=>?_);have G:=(Fr.refl [] wr).drew.trans F10;clear F10;simp only [List.mem_cons,List.not_mem_nil,or_false] at hi;rcases hi with rfl | rfl
   focus
    obtain rfl:=qi ho
    go_wp2_with (at_builtin;refine qq yj rfl _ _ 25 rfl Tryz.underlying25 q6z rfl (B:=wr.heap.size) (.slice none 0 0) [] rfl ⟨rfl,.inl ⟨rfl,rfl⟩⟩ _ x.l rfl (HS1.out.up G) Lh Lg G.size ?_;intro a21 c21 w21 r21 f21)
    rw [List.nil_append] at r21
    replace G:=G.trans f21
    clear f21
    refine ql ⟨G,?_⟩
    refine loq 9 (fun w11 F11=>?_)
    have r11:=qo r21 F11
    replace G:=G.trans F11
    clear r21 F11
    go_wp2_with fail
    have F12:=(Fr.refl [] w11).alloc (.cells #[.int .i64 v] 3)
    have B12:=Go.heap_alloc_new w11 (.cells #[.int .i64 v] 3)
    have r12:=qo r11 F12
    replace G:=G.trans F12
    clear r11 F12 ho
    refine ql ⟨G,?_⟩
    refine loq 10 (fun w13 F13=>?_)
    have r22:=qo r12 F13
    have B22:=F13.heap B12 Lc
    replace G:=G.trans F13
    clear r12 B12 F13
   rotate_left
   focus
    obtain rfl:=qi ho
    go_wp2_with fail
    have F12:=(Fr.refl [] w10).alloc (.cells #[.int .i64 v] 3)
    have B12:=Go.heap_alloc_new w10 (.cells #[.int .i64 v] 3)
    replace G:=G.trans F12
    clear F12 ho
    refine ql ⟨G,?_⟩
    refine loq 7 (fun w11 F11=>?_)
    have B13:=F11.heap B12 Lc
    replace G:=G.trans F11
    clear B12 F11
    go_wp2_with (at_builtin;refine qq yj rfl _ _ 25 rfl Tryz.underlying25 q6z rfl (B:=wr.heap.size) (.slice none 0 0) [] rfl ⟨rfl,.inl ⟨rfl,rfl⟩⟩ _ x.l rfl (HS1.out.up G) Lh Lg G.size ?_;intro a21 c21 w21 r21 f21)
    rw [List.nil_append] at r21
    have B21:=Fr.heap f21 B13 Lp
    replace G:=G.trans f21
    clear f21 B13
    refine ql ⟨G,?_⟩
    refine loq 10 (fun w13 F13=>?_)
    have r22:=qo r21 F13
    have B22:=F13.heap B21 Lc
    replace G:=G.trans F13
    clear r21 B21 F13
   rotate_left
   all_goals
    go_wp2_with (at_builtin;refine qq yj rfl _ _ 25 rfl Tryz.underlying25 q6z rfl (B:=wr.heap.size) _ x.l rfl r22 _ [v] rfl (Sq.block B22 rfl rfl (Nat.le_refl _) Lm) Lh Lg G.size ?_;intro a23 c23 w23 r23 f23;generalize hT3:x.l++[v]=T3 at r23 ⊢)
    replace G:=G.own f23 (z8 r22)
    clear f23 r22 B22
    refine ql ⟨G,?_⟩
    refine loq 17 (fun w14 F14=>?_)
    have r24:=qo r23 F14
    replace G:=G.trans F14
    clear r23 F14
    go_wp2_with (at_builtin;refine qq yj rfl _ _ 25 rfl Tryz.underlying25 q6z rfl (B:=wr.heap.size) _ T3 rfl r24 _ [] rfl (HS2.out.up G) Me Lg G.size ?_;intro a25 c25 w25 r25 f25;generalize hT4:T3++([]:List Int)=T4 at r25 ⊢)
    replace G:=G.own f25 (z8 r24)
    clear f25 r24
    refine ql ⟨G,?_⟩
    refine qy (k:=18) rfl Le (fun w15 F15=>?_)
    have r26:=qo r25 F15
    replace G:=G.trans F15
    clear r25 F15
    have h26:=h.up G
    have z26:=h26.frozen
    obtain ⟨-,-,-,-,-,-,-,-,c8⟩:=Ya h26
    go_wp2_with fail
    go_end0
    have hlt26:b<wr.heap.size:=h.lt
    have e26:ins x.l v=T4:=by rw [HT.out.2.2,hT3,hT4]
    rw [<- e26] at r26 ⊢
    refine ⟨rfl,⟨_,Ob.set h26 (i:=8) _,(Sq.own r26).kept (Fr.setCell (S:=[b]) _ Lc) (fun g hg hi=>?_),.inr (z8 r26)⟩,(G.mono).trans (Fr.setCell _ Lc)⟩
    have:=z8 r26 g hg
    simp at hi
    omega
structure Nd where
 c:Cf
 t:Int
 line:Int
 e:Int
 v:Int
 lv:Value
 l:List Int
def Nd.cells (x:Nd):Array Value:=#[.int .i64 x.c.t,.int .i64 x.c.c,.int .i64 x.c.wd,.int .i64 x.c.v,.int .i64 x.t,.int .i64 x.line,.int .i64 x.e,.int .i64 x.v,x.lv]
def Vg (w:World) (b:Nat) (x:Nd):Prop:=Ob w b 187 x.cells
theorem xh {w:World} {b:Nat} {x:Nd} (h:Vg w b x):w.cell? ⟨b,0,none⟩=some (.int .i64 x.c.t)/\w.cell? ⟨b,1,none⟩=some (.int .i64 x.c.c)/\w.cell? ⟨b,2,none⟩=some (.int .i64 x.c.wd)/\w.cell? ⟨b,3,none⟩=some (.int .i64 x.c.v)/\w.cell? ⟨b,4,none⟩=some (.int .i64 x.t)/\w.cell? ⟨b,5,none⟩=some (.int .i64 x.line)/\w.cell? ⟨b,6,none⟩=some (.int .i64 x.e)/\w.cell? ⟨b,7,none⟩=some (.int .i64 x.v)/\w.cell? ⟨b,8,none⟩=some (x.lv) :=
 ⟨h.cell rfl,h.cell rfl,h.cell rfl,h.cell rfl,h.cell rfl,h.cell rfl,h.cell rfl,h.cell rfl,h.cell rfl⟩
def Nd.pa (x:Nd):Int:=q9t x.t
def Nd.base (x:Nd):NdB:=⟨x.c,x.t,x.line,x.e,x.v,x.l⟩
def Nd.on (x:Nd):Nd:=if x.c.t<=x.t+1 then { x with t:=x.t+1,line:=0 } else { x with t:=x.t+1,line:=1 }
def Nd.met (x:Nd) (v:Int):Nd:={ x with l:=ins x.l v }
def Nd.live (x:Nd):Bool:=decide (1<=x.line) && decide (x.line<=4)
def Nd.act (x:Nd) (s:St):St :=
 if x.line=1 then s.load x.pa else if x.line=2 then s.add 1 1 else if x.line=3 then s.swap x.pa x.e (ko (q4w x.e) (wrap64 (x.v+2))) else s.load x.pa
def Nd.told (x:Nd) (s:St):Int:=if x.line=2 then qw s.l 1 else qw s.l x.pa
def Nd.next (x:Nd) (v:Int):Nd :=
 if x.line=1 then (if kg v=1 then { x with e:=v,line:=2 } else if 1<kg v then Nd.on (Nd.met { x with e:=v,line:=2 } (kg v - 2)) else Nd.on { x with e:=v,line:=2 })
 else if x.line=2 then { x with v:=v,line:=3 } else if x.line=3 then { x with line:=4 }
 else (if q4w v=q4w x.e/\1<kg v then Nd.on (Nd.met x (kg v - 2)) else Nd.on x)
def Nd.step (x:Nd) (s:St):Nd×St:=if x.live=true then (x.next (x.told s),x.act s) else (x,s)
theorem Ti (x:Nd) (hc:x.c.Ok) (ht:0<=x.t/\x.t<=8) (b:Nat) (w:World) (h:Vg w b x):Calls Tryz.prog 141 #[.pointer (some ⟨b,0,none⟩)] w fun e w'=>e = .returned (.tuple #[])/\Vg w' b x.on/\Fr [b] w w':=by
 generalize hy:x.on=y;have HY:=q9 hy;clear hy;obtain ⟨c0,c1,c2,c3,c4,c5,c6,c7,c8⟩:=xh h;have z:=h.frozen;go_enter Tryz.func141,Tryz.ntmps141;go_wp2_with fail;have h1:Vg _ b { x with t:=x.t+1,line:=1 }:=Ob.set (Ob.set h (i:=4) (.int .i64 (x.t+1))) (i:=5) (.int .i64 1);have D1:Fr [b] w ((w.setCell ⟨b,4,none⟩ (.int .i64 (x.t+1))).setCell ⟨b,5,none⟩ (.int .i64 1)):=(Fr.setCell _ Lc).setCell' _ Lc;clear c0 c1 c2 c3 c4 c5 c6 c7 c8 z;generalize ((w.setCell ⟨b,4,none⟩ (.int .i64 (x.t+1))).setCell ⟨b,5,none⟩ (.int .i64 1))=w1 at *;obtain ⟨c0,-,-,-,c4,-,-,-,-⟩:=xh h1;have k0:=qb c0;have k4:=qb c4;clear c0 c4;refine wiq ?_;repeat (go_big_quiet_step (fail))
 refine wpQuiet_nil ?_;intro w2 F2;have h2:=Ob.up h1 F2;have D2:=D1.then F2;clear h1 D1 F2 k0 k4;obtain ⟨c0,c1,c2,c3,c4,c5,c6,c7,c8⟩:=xh h2;have z:=h2.frozen;by_cases hv:x.c.t<=x.t+1
 ·have hn:y = { x with t:=x.t+1,line:=0 }:=by rw [<- HY.out];unfold Nd.on;simp [hv]
  subst hn;have g:decide (x.t+1≥x.c.t)=true:=by simpa using hv
  exact Fp
 ·have hn:y = { x with t:=x.t+1,line:=1 }:=by rw [<- HY.out];unfold Nd.on;simp [hv]
  subst hn;have g:decide (x.t+1≥x.c.t)=false:=by simpa using hv
  exact I1
theorem q0g (c:Cf) (w:World):Calls Tryz.prog 129 #[c.val] w fun e w'=>∃ b,e = .returned (.pointer (some ⟨b,0,none⟩))/\w.heap.size<=b/\Vg w' b ⟨c,0,1,0,0,.slice none 0 0,[]⟩/\Fr [] w w':=by unfold Cf.val;have F0:=(Fr.refl [] w).alloc (.cells #[.int .i64 c.t,.int .i64 c.c,.int .i64 c.wd,.int .i64 c.v] 23);obtain ⟨c0,c1,c2,c3⟩:=Pl.yu (Go.heap_alloc_new w (.cells #[.int .i64 c.t,.int .i64 c.c,.int .i64 c.wd,.int .i64 c.v] 23));go_enter Tryz.func129,Tryz.ntmps129;exact Bj
theorem qdk (l:List Int) (v:Int):ins l v≠[]:=by
 cases l with
 | nil=>simp [ins]
 | cons x r=>unfold ins;split <;> (try split) <;> simp
theorem U7 (x:Nd) (v:Int) (b:Nat) (w:World) (hl:x.l.length<=1000) (h:Vg w b x) (hs:Sq fI w x.lv x.l) (hb:b∉x.lv.ownBlock.toList) :
  Calls Tryz.prog 140 #[.pointer (some ⟨b,0,none⟩),.int .i64 v] w fun e w'=>e = .returned (.tuple #[])/\(∃ lv',Vg w' b { x.met v with lv:=lv' } /\ Sq fI w' lv' (x.met v).l/\(lv'=x.lv\/((x.met v).l≠[]/\∀ g,g∈lv'.ownBlock.toList->w.heap.size<=g)))/\Fr [b] w w' :=
 (q9l x.base v b x.lv w hl h hs hb).mono fun e w' ⟨h1,⟨lv',h2,h3,h4⟩,h5⟩=>⟨h1,⟨lv',h2,h3,h4.imp id (fun a=>⟨qdk _ _,a⟩)⟩,h5⟩
theorem q3d (x:Nd) (hl:x.line=2) (hc:x.c.Ok) (ht:0<=x.t/\x.t<=8) (b p q:Nat) (s:St) (w:World) (h:Vg w b x) (hA:Rar w p q s) (hp:b≠p) (hq:b≠q) :
  Calls Tryz.prog 130 #[.pointer (some ⟨b,0,none⟩),.pointer (some ⟨p,0,none⟩)] w fun e w'=>e = .returned (.bool (decide ((x.next (qw s.l 1)).line=0)))/\Vg w' b (x.next (qw s.l 1))/\Rar w' p q (s.add 1 1)/\Fr [b,p,q] w w':=by
 generalize hy:x.next (qw s.l 1)=y;have HY:=q9 hy;clear hy;obtain ⟨c0,c1,c2,c3,c4,c5,c6,c7,c8⟩:=xh h;have z:=h.frozen;go_enter Tryz.func130,Tryz.ntmps130;go_wp2_with fail;have h0:=h;have A0:=hA;have D0:=Fr.refl [b,p,q] w;clear h hA;have hw0:=q9 (Eq.refl w);refine (Ref.ku x.t ht.1 ht.2 _).mono ?_;rintro e _ ⟨rfl,rfl⟩;rw [show (3:Int)+x.t=x.pa from rfl];go_wp2_with fail;have A1:=A0;have h1:=h0;have D1:=D0;clear c0 c1 c2 c3 c4 c5 c6 c7 c8 z;refine (Ref.Uy _ p q s 1 1 A1).mono ?_;rintro e w5 ⟨rfl,A5,F5⟩;have h5:=Ob.kept h1 F5 Lf;have D5:=zm D1 F5 Lc;clear A1 h1 D1 F5 A0 h0 D0;obtain ⟨c0,c1,c2,c3,c4,c5,c6,c7,c8⟩:=xh h5;have z:=h5.frozen;have hn:y = { x with v:=qw s.l 1,line:=3 }:=by rw [<- HY.out];unfold Nd.next;simp [hl]
 subst hn;go_wp2_with fail;go_ret;exact ⟨rfl,(Ob.set (Ob.set h5 _) (i:=5) (.int .i64 3)),(Rar.set (Rar.set A5 hp hq _) hp hq (i:=5) (.int .i64 3)),(Fr.setCell' (Fr.setCell' D5 _ Lc) (b:=b) (i:=5) (.int .i64 3) Lc)⟩
theorem q2t (x:Nd) (hl:x.line=3) (hc:x.c.Ok) (ht:0<=x.t/\x.t<=8) (b p q:Nat) (s:St) (w:World) (h:Vg w b x) (hA:Rar w p q s) (hp:b≠p) (hq:b≠q) :
  Calls Tryz.prog 130 #[.pointer (some ⟨b,0,none⟩),.pointer (some ⟨p,0,none⟩)] w fun e w'=>e = .returned (.bool (decide ((x.next (x.told s)).line=0)))/\Vg w' b (x.next (x.told s))/\Rar w' p q (s.swap x.pa x.e (ko (q4w x.e) (wrap64 (x.v+2))))/\Fr [b,p,q] w w':=by
 generalize hy:x.next (x.told s)=y;have HY:=q9 hy;clear hy;obtain ⟨c0,c1,c2,c3,c4,c5,c6,c7,c8⟩:=xh h;have z:=h.frozen;go_enter Tryz.func130,Tryz.ntmps130;go_wp2_with fail;have h0:=h;have A0:=hA;have D0:=Fr.refl [b,p,q] w;clear h hA;have hw0:=q9 (Eq.refl w);refine (Ref.ku x.t ht.1 ht.2 _).mono ?_;rintro e _ ⟨rfl,rfl⟩;rw [show (3:Int)+x.t=x.pa from rfl];go_wp2_with fail;have A1:=A0;have h1:=h0;have D1:=D0;clear c0 c1 c2 c3 c4 c5 c6 c7 c8 z;refine z7 Le [p,q] (fun w2 F2=>?_);refine epq [true,true,true,true,true,true,true,true,true,true,true,true,true,true,true,true,true,false] 1 (F2.mono) ?_;apply qg;refine ⟨fun wf Ff=>?_,?_⟩
 ·have hf:Vg wf b x:=Ob.kept h1 Ff Lf;obtain ⟨-,-,-,-,-,-,c6,c7,-⟩:=xh hf;have k6:=qb c6;have k7:=qb c7;clear hf c6 c7;simp only [sel];repeat (go_big_quiet_step ((first | (go_at_call 101;exact Calls.in_same (Vm _ _ _)) | (go_at_call 142;exact Calls.in_same (q09 _ _)))))
  exact wpQuiet_nil rfl
 refine eoq 17 (fun w3 F3=>?_);have E3:=F2.trans F3;have A3:=A1.kept E3;have h3:=Ob.up h1 E3;have G3:=zm D1 E3 Lc;clear F2 F3 A1 h1 D1 A0 h0 D0;go_wp2_with fail;refine (Ref.yn _ p q s _ _ _ A3).mono ?_;rintro e w4 ⟨rfl,A4,F4⟩;have E4:=(E3.mono (T:=[p,q]) Lc).trans F4;have h4:=h3.kept F4 Lf;have G4:=zm G3 F4 Lc;clear A3 h3 F4 G3 E3;go_wp2_with fail;refine ql ⟨E4,?_⟩;refine zr Le (fun w5 F5=>?_);have D5:=G4.then F5;have h5:Vg w5 b x:=h4.up F5;have A5:=A4.kept F5;clear A4 h4 F5 G4 E4;obtain ⟨c0,c1,c2,c3,c4,c5,c6,c7,c8⟩:=xh h5;have z:=h5.frozen;have hn:y = { x with line:=4 }:=by rw [<- HY.out];unfold Nd.next;simp [hl]
 exact Ae
theorem q96 (x:Nd) (lv:Value):({ x with lv:=lv }:Nd).on = { x.on with lv:=lv }:=by unfold Nd.on;simp only;split <;> rfl
theorem qc5 (x:Nd):x.on.l=x.l:=by unfold Nd.on;split <;> rfl
theorem sqK {b p q:Nat} {w w':World} {v:Value} {l:List Int} (h:Sq fI w v l) (D:Fr [b,p,q] w w') (hb:b∉v.ownBlock.toList) (hp:p∉v.ownBlock.toList) (hq:q∉v.ownBlock.toList):Sq fI w' v l :=
 h.kept D (fun g hg hi=>by simp at hi;rcases hi with rfl | rfl | rfl <;> contradiction)
theorem q4e (x:Nd) (hl:x.line=1) (hc:x.c.Ok) (ht:0<=x.t/\x.t<=8) (b p q:Nat) (s:St) (w:World) (h:Vg w b x) (hA:Rar w p q s) (hp:b≠p) (hq:b≠q) (hs:Sq fI w x.lv x.l) (hb:b∉x.lv.ownBlock.toList) (hp2:p∉x.lv.ownBlock.toList) (hq2:q∉x.lv.ownBlock.toList) (hlen:x.l.length<=1000) :
  Calls Tryz.prog 130 #[.pointer (some ⟨b,0,none⟩),.pointer (some ⟨p,0,none⟩)] w fun e w'=>e = .returned (.bool (decide ((x.next (qw s.l x.pa)).line=0)))/\(∃ lv',Vg w' b { x.next (qw s.l x.pa) with lv:=lv' } /\ Sq fI w' lv' (x.next (qw s.l x.pa)).l/\(lv'=x.lv\/((x.next (qw s.l x.pa)).l≠[]/\∀ g,g∈lv'.ownBlock.toList->w.heap.size<=g)))/\Rar w' p q (s.load x.pa)/\Fr [b,p,q] w w':=by
 generalize hy:x.next (qw s.l x.pa)=y;have HY:=q9 hy;clear hy;obtain ⟨c0,c1,c2,c3,c4,c5,c6,c7,c8⟩:=xh h;have z:=h.frozen;go_enter Tryz.func130,Tryz.ntmps130;go_wp2_with fail;have h0:=h;have A0:=hA;have D0:=Fr.refl [b,p,q] w;clear h hA;have hbw:=h0.lt;refine (Ref.ku x.t ht.1 ht.2 _).mono ?_;rintro e _ ⟨rfl,rfl⟩;rw [show (3:Int)+x.t=x.pa from rfl];go_wp2_with fail;have A1:=A0;have h1:=h0;have D1:=D0;clear c0 c1 c2 c3 c4 c5 c6 c7 c8 z;refine (Ref.zl _ p q s _ A1).mono ?_;rintro e w5 ⟨rfl,A5,F5⟩;have h5:=Ob.kept h1 F5 Lf;have D5:=zm D1 F5 Lc;clear A1 h1 D1 F5 A0 h0 D0;obtain ⟨c0,c1,c2,c3,c4,c5,c6,c7,c8⟩:=xh h5;have z:=h5.frozen;generalize hv:qw s.l x.pa=v at *;go_wp2_with fail;have h6:Vg _ b { x with e:=v,line:=2 }:=(Ob.set (Ob.set h5 (i:=6) (.int .i64 v)) (i:=5) (.int .i64 2));have A6:=(Rar.set (Rar.set A5 hp hq (i:=6) (.int .i64 v)) hp hq (i:=5) (.int .i64 2));have D6:=(Fr.setCell' (Fr.setCell' D5 (b:=b) (i:=6) (.int .i64 v) Lc) (b:=b) (i:=5) (.int .i64 2) Lc);generalize ((w5.setCell ⟨b,6,none⟩ (.int .i64 v)).setCell ⟨b,5,none⟩ (.int .i64 2))=w6 at *;clear c0 c1 c2 c3 c4 c5 c6 c7 c8 z;clear h5 A5 D5;refine (Yd _ _).mono ?_;rintro e _ ⟨rfl,rfl⟩;have hpb:=Int.emod_nonneg v (show (16777216:Int)≠0 by decide);have hpw:wrap64 (kg v - 2)=kg v - 2:=by unfold kg;exact w64 Lb Lb
 generalize hpv:kg v=pv at *;by_cases e1:pv=1
 ·have hn:y = { x with e:=v,line:=2 }:=by rw [<- HY.out];unfold Nd.next;simp [hl,hpv,e1]
  subst hn;obtain ⟨c0,c1,c2,c3,c4,c5,c6,c7,c8⟩:=xh h6;go_wp2_with fail;go_ret;exact ⟨rfl,⟨x.lv,h6,sqK hs D6 hb hp2 hq2,.inl rfl⟩,A6,D6⟩
 ·have b1:(pv != 1)=true:=by simpa using e1
  by_cases e2:1<pv
  ·have hn:y=Nd.on (Nd.met { x with e:=v,line:=2 } (pv - 2)):=by rw [<- HY.out];unfold Nd.next;simp [hl,hpv,e1,e2]
   subst hn;have b2:decide (pv>1)=true:=by simpa using e2
   go_wp2_with fail;have hlw:=D6.size;refine (U7 ({ x with e:=v,line:=2 }:Nd) (pv - 2) b _ hlen h6 (sqK hs D6 hb hp2 hq2) hb).mono ?_;rintro e w7 ⟨rfl,⟨lv',h7,hs7,hg7⟩,F7⟩;have A7:=A6.kept F7 Li Lj;have D7:=zm D6 F7 Lc;clear h6 A6 F7 D6;go_wp2_with fail;refine (Ti ({ Nd.met ({ x with e:=v,line:=2 }:Nd) (pv - 2) with lv:=lv' }) hc ht b _ h7).mono ?_;rintro e w8 ⟨rfl,h8,F8⟩;rw [q96] at h8
   have hb8:∀ g,g∈lv'.ownBlock.toList->g∉[b]:=fun g hg hi=>by
    rw [List.mem_singleton.1 hi] at hg;rcases hg7 with e7 | e7
    ·rw [e7] at hg;exact hb hg
    ·have:=e7.2 b hg;have:=hbw;omega
   have hs8:=hs7.kept F8 hb8;have A8:=A7.kept F8 Li Lj;have D8:=zm D7 F8 Lc;clear h7 A7 F8 D7 hs7;obtain ⟨-,-,-,-,-,c5,-,-,-⟩:=xh h8;go_wp2_with fail;go_ret;exact ⟨rfl,⟨lv',h8,by rw [qc5];exact hs8,hg7.imp id fun hh=>⟨by rw [qc5];exact hh.1,fun g hg=>by have:=hh.2 g hg;omega⟩⟩,A8,D8⟩
  have hn:y=Nd.on { x with e:=v,line:=2 }:=by rw [<- HY.out];unfold Nd.next;simp [hl,hpv,e1,e2]
  subst hn;have b2:decide (pv>1)=false:=by simpa using e2
  go_wp2_with fail;refine (Ti ({ x with e:=v,line:=2 }:Nd) hc ht b _ h6).mono ?_;rintro e w7 ⟨rfl,h7,F7⟩;have A7:=A6.kept F7 Li Lj;have D7:=zm D6 F7 Lc;clear h6 A6 F7 D6;obtain ⟨-,-,-,-,-,c5,-,-,-⟩:=xh h7;go_wp2_with fail;go_ret;exact ⟨rfl,⟨x.lv,by rw [show ({ Nd.on ({ x with e:=v,line:=2 }:Nd) with lv:=x.lv }:Nd)=Nd.on ({ x with e:=v,line:=2 }:Nd) from (q96 ({ x with e:=v,line:=2 }:Nd) x.lv).symm];exact h7,by rw [qc5];exact sqK hs D7 hb hp2 hq2,.inl rfl⟩,A7,D7⟩
theorem q2u (x:Nd) (hl:x.line=4) (hc:x.c.Ok) (ht:0<=x.t/\x.t<=8) (b p q:Nat) (s:St) (w:World) (h:Vg w b x) (hA:Rar w p q s) (hp:b≠p) (hq:b≠q) (hs:Sq fI w x.lv x.l) (hb:b∉x.lv.ownBlock.toList) (hp2:p∉x.lv.ownBlock.toList) (hq2:q∉x.lv.ownBlock.toList) (hlen:x.l.length<=1000) :
  Calls Tryz.prog 130 #[.pointer (some ⟨b,0,none⟩),.pointer (some ⟨p,0,none⟩)] w fun e w'=>e = .returned (.bool (decide ((x.next (qw s.l x.pa)).line=0)))/\(∃ lv',Vg w' b { x.next (qw s.l x.pa) with lv:=lv' } /\ Sq fI w' lv' (x.next (qw s.l x.pa)).l/\(lv'=x.lv\/((x.next (qw s.l x.pa)).l≠[]/\∀ g,g∈lv'.ownBlock.toList->w.heap.size<=g)))/\Rar w' p q (s.load x.pa)/\Fr [b,p,q] w w':=by
 generalize hy:x.next (qw s.l x.pa)=y;have HY:=q9 hy;clear hy;obtain ⟨c0,c1,c2,c3,c4,c5,c6,c7,c8⟩:=xh h;have z:=h.frozen;go_enter Tryz.func130,Tryz.ntmps130;go_wp2_with fail;have h0:=h;have A0:=hA;have D0:=Fr.refl [b,p,q] w;clear h hA;have hbw:=h0.lt;refine (Ref.ku x.t ht.1 ht.2 _).mono ?_;rintro e _ ⟨rfl,rfl⟩;rw [show (3:Int)+x.t=x.pa from rfl];go_wp2_with fail;have A1:=A0;have h1:=h0;have D1:=D0;clear c0 c1 c2 c3 c4 c5 c6 c7 c8 z;refine (Ref.zl _ p q s _ A1).mono ?_;rintro e w5 ⟨rfl,A5,F5⟩;have h5:=Ob.kept h1 F5 Lf;have D5:=zm D1 F5 Lc;clear A1 h1 D1 F5 A0 h0 D0;obtain ⟨c0,c1,c2,c3,c4,c5,c6,c7,c8⟩:=xh h5;have z:=h5.frozen;generalize hv:qw s.l x.pa=v at *;have hpb:=Int.emod_nonneg v (show (16777216:Int)≠0 by decide);have hpw:wrap64 (kg v - 2)=kg v - 2:=by unfold kg;exact w64 Lb Lb
 by_cases e1:q4w v=q4w x.e
 focus
  have b1:(q4w v == q4w x.e)=true:=by simpa using e1
  by_cases e2:1<kg v
  ·have HN:=q9 (show y=Nd.on (Nd.met x (kg v - 2)) by rw [<- HY.out];unfold Nd.next;simp [hl,e1,e2])
   have b2:decide (kg v>1)=true:=by simpa using e2
   clear e1
   go_wp2_with fail
   have k6:=qb c6
   clear c0 c1 c2 c3 c4 c5 c6 c7 c8 z
   refine wiq ?_
   repeat (go_big_quiet_step ((first | (go_at_call 142;exact Calls.in_same (q09 _ _)) | (go_at_call 122;exact Calls.in_same (Yd _ _)))))
   refine wpQuiet_nil ?_
   intro w6 F6
   have h6:Vg w6 b x:=Ob.up h5 F6
   have A6:=A5.kept F6
   have D6:=D5.then F6
   clear h5 A5 D5 k6 F6
   go_wp2_with fail
   refine (Yd _ _).mono ?_;rintro e _ ⟨rfl,rfl⟩
   go_wp2_with fail
   obtain rfl:=HN.out
   have hlw:=D6.size
   refine (U7 x (kg v - 2) b _ hlen h6 (sqK hs D6 hb hp2 hq2) hb).mono ?_;rintro e w7 ⟨rfl,⟨lv',h7,hs7,hg7⟩,F7⟩
   have A7:=A6.kept F7 Li Lj
   have D7:=zm D6 F7 Lc
   clear h6 A6 F7 D6
   go_wp2_with fail
   refine (Ti ({ Nd.met x (kg v - 2) with lv:=lv' }) hc ht b _ h7).mono ?_;rintro e w8 ⟨rfl,h8,F8⟩
   rw [q96] at h8
   have hb8:∀ g,g∈lv'.ownBlock.toList->g∉[b]:=fun g hg hi=>by
    rw [List.mem_singleton.1 hi] at hg
    rcases hg7 with e7 | e7
    ·rw [e7] at hg;exact hb hg
    ·have:=e7.2 b hg;have:=hbw;omega
   have hs8:=hs7.kept F8 hb8
   have A8:=A7.kept F8 Li Lj
   have D8:=zm D7 F8 Lc
   clear h7 A7 F8 D7 hs7
   obtain ⟨-,-,-,-,-,c5,-,-,-⟩:=xh h8
   go_wp2_with fail
   go_ret
   exact ⟨rfl,⟨lv',h8,by rw [qc5];exact hs8,hg7.imp id fun hh=>⟨by rw [qc5];exact hh.1,fun g hg=>by have:=hh.2 g hg;omega⟩⟩,A8,D8⟩
  have HN:=q9 (show y=Nd.on x by rw [<- HY.out];unfold Nd.next;simp [hl,e2])
  have b2:decide (kg v>1)=false:=by simpa using e2
  clear e1
 rotate_left
 focus
  have HN:=q9 (show y=Nd.on x by rw [<- HY.out];unfold Nd.next;simp [hl,e1])
  have b1:(q4w v == q4w x.e)=false:=by simpa using e1
 rotate_left
 all_goals
  go_wp2_with fail
  have k6:=qb c6
  clear c0 c1 c2 c3 c4 c5 c6 c7 c8 z
  refine wiq ?_
  repeat (go_big_quiet_step ((first | (go_at_call 142;exact Calls.in_same (q09 _ _)) | (go_at_call 122;exact Calls.in_same (Yd _ _)))))
  refine wpQuiet_nil ?_
  intro w6 F6
  have h6:Vg w6 b x:=Ob.up h5 F6
  have A6:=A5.kept F6
  have D6:=D5.then F6
  clear h5 A5 D5 k6 F6
  go_wp2_with fail
  obtain rfl:=HN.out
  refine (Ti x hc ht b _ h6).mono ?_;rintro e w7 ⟨rfl,h7,F7⟩
  have A7:=A6.kept F7 Li Lj
  have D7:=zm D6 F7 Lc
  clear h6 A6 F7 D6
  obtain ⟨-,-,-,-,-,c5,-,-,-⟩:=xh h7
  go_wp2_with fail
  go_ret
  exact ⟨rfl,⟨x.lv,by rw [show ({ Nd.on x with lv:=x.lv }:Nd)=Nd.on x from (q96 x x.lv).symm];exact h7,by rw [qc5];exact sqK hs D7 hb hp2 hq2,.inl rfl⟩,A7,D7⟩
theorem q3r (x:Nd) (hl:x.live=false) (ht:0<=x.t/\x.t<=8) (b p q:Nat) (w:World) (h:Vg w b x) :
  Calls Tryz.prog 130 #[.pointer (some ⟨b,0,none⟩),.pointer (some ⟨p,0,none⟩)] w fun e w'=>e = .returned (.bool (decide (x.line=0)))/\Fr [] w w':=by
 obtain ⟨c0,c1,c2,c3,c4,c5,c6,c7,c8⟩:=xh h;unfold Nd.live at hl;have l1:x.line≠1:=by intro h;rw [h] at hl;simp at hl
 have l2:x.line≠2:=by intro h;rw [h] at hl;simp at hl
 have l3:x.line≠3:=by intro h;rw [h] at hl;simp at hl
 have l4:x.line≠4:=by intro h;rw [h] at hl;simp at hl
 clear hl;go_enter Tryz.func130,Tryz.ntmps130;exact Cz
theorem q5r (x:Nd) (hc:x.c.Ok) (ht:0<=x.t/\x.t<=8) (b p q:Nat) (s:St) (w:World) (h:Vg w b x) (hA:Rar w p q s) (hp:b≠p) (hq:b≠q) (hs:Sq fI w x.lv x.l) (hb:b∉x.lv.ownBlock.toList) (hp2:p∉x.lv.ownBlock.toList) (hq2:q∉x.lv.ownBlock.toList) (hlen:x.l.length<=1000) :
  Calls Tryz.prog 130 #[.pointer (some ⟨b,0,none⟩),.pointer (some ⟨p,0,none⟩)] w fun e w'=>e = .returned (.bool (decide ((x.step s).1.line=0)))/\(∃ lv',Vg w' b { (x.step s).1 with lv:=lv' } /\ Sq fI w' lv' (x.step s).1.l/\(lv'=x.lv\/((x.step s).1.l≠[]/\∀ g,g∈lv'.ownBlock.toList->w.heap.size<=g)))/\Rar w' p q (x.step s).2/\Fr [b,p,q] w w':=by
 unfold Nd.step;cases hl:x.live with
 | false=>exact (q3r x hl ht b p q w h).mono Mt
 | true =>
  unfold Nd.live at hl;have hl':x.line=1\/x.line=2\/x.line=3\/x.line=4:=by simp only [Bool.and_eq_true,decide_eq_true_eq] at hl;omega
  rw [qf rfl];rcases hl' with l | l | l | l
  ·rw [show x.act s=s.load x.pa by unfold Nd.act;simp [l],show x.told s=qw s.l x.pa by unfold Nd.told;simp [l]];exact q4e x l hc ht b p q s w h hA hp hq hs hb hp2 hq2 hlen
  ·rw [show x.act s=s.add 1 1 by unfold Nd.act;simp [l],show x.told s=qw s.l 1 by unfold Nd.told;simp [l]];refine (q3d x l hc ht b p q s w h hA hp hq).mono ?_;rintro e w' ⟨rfl,h1,A1,D1⟩;have e1:x.next (qw s.l 1) = { x with v:=qw s.l 1,line:=3 }:=by unfold Nd.next;simp [l]
   exact Ga
  ·rw [show x.act s=s.swap x.pa x.e (ko (q4w x.e) (wrap64 (x.v+2))) by unfold Nd.act;simp [l]];refine (q2t x l hc ht b p q s w h hA hp hq).mono ?_;rintro e w' ⟨rfl,h1,A1,D1⟩;have e1:x.next (x.told s) = { x with line:=4 }:=by unfold Nd.next;simp [l]
   exact Ga
  ·rw [show x.act s=s.load x.pa by unfold Nd.act;simp [l],show x.told s=qw s.l x.pa by unfold Nd.told;simp [l]];exact q2u x l hc ht b p q s w h hA hp hq hs hb hp2 hq2 hlen
end Go.Proofs.YtleclbldlladmaaGreat.Mx
