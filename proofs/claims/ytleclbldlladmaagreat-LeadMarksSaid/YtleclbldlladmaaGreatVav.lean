/- Parts. -/
import Derived.Test.YtleclbldlladmaaGreatVas
import Derived.Test.YtleclbldlladmaaGreatVau
set_option linter.unusedVariables false
set_option linter.unusedSimpArgs false
set_option maxRecDepth 100000
set_option maxHeartbeats 12800000
namespace Go.Proofs.YtleclbldlladmaaGreat.Mx
open Go.RowKit Ar Ref Og Mp
def McC (m:Mc) (ov pv dv:Value) (pa:Nat) (tv kv ev:Value):Array Value:=#[.int .i64 m.c.t,.int .i64 m.c.c,.int .i64 m.c.wd,.int .i64 m.c.v,ov,pv,dv,.pointer (some ⟨pa,0,none⟩),tv,.int .i64 m.now,.int .i64 m.idle,kv,ev]
def qa7 (w:World) (b:Nat) (m:Mc) (ov pv dv:Value) (pa:Nat) (tv kv ev:Value):Prop:=Ob w b 61 (McC m ov pv dv pa tv kv ev)
theorem zw {w:World} {b:Nat} {m:Mc} {ov pv dv:Value} {pa:Nat} {tv kv ev:Value} (h:qa7 w b m ov pv dv pa tv kv ev):w.cell? ⟨b,0,none⟩=some (.int .i64 m.c.t)/\w.cell? ⟨b,1,none⟩=some (.int .i64 m.c.c)/\w.cell? ⟨b,2,none⟩=some (.int .i64 m.c.wd)/\w.cell? ⟨b,3,none⟩=some (.int .i64 m.c.v)/\w.cell? ⟨b,4,none⟩=some ov/\w.cell? ⟨b,5,none⟩=some pv/\w.cell? ⟨b,6,none⟩=some dv/\w.cell? ⟨b,7,none⟩=some (.pointer (some ⟨pa,0,none⟩))/\w.cell? ⟨b,8,none⟩=some tv/\w.cell? ⟨b,9,none⟩=some (.int .i64 m.now)/\w.cell? ⟨b,10,none⟩=some (.int .i64 m.idle)/\w.cell? ⟨b,11,none⟩=some kv/\w.cell? ⟨b,12,none⟩=some ev :=
 ⟨h.cell rfl,h.cell rfl,h.cell rfl,h.cell rfl,h.cell rfl,h.cell rfl,h.cell rfl,h.cell rfl,h.cell rfl,h.cell rfl,h.cell rfl,h.cell rfl,h.cell rfl⟩
structure Tv where
 next:Int
 busy:Bool
 scans:Int
 pp:Option Nat
 gp:Option Nat
 sp:Option Nat
def fTv (x:Tv):List Value:=[.int .i64 x.next,.bool x.busy,.int .i64 x.scans,vg x.pp,vg x.gp,vg x.sp]
theorem qbi (p:Option Nat):(vg p).oneCell'=true:=by cases p <;> rfl
theorem Ui:Lays fTv 6:=⟨fun _=>rfl,fun x u hu=>by simp [fTv] at hu;rcases hu with rfl | rfl | rfl | rfl | rfl | rfl <;> first | rfl | exact qbi _,by decide⟩
structure Evv where
 e:Ev
 s:Sv
def fEv (x:Evv):List Value:=[.int .i64 x.e.th,.int .i64 x.e.ix,.int .i64 x.e.op.1,.int .i64 x.e.op.2.1,.int .i64 x.e.op.2.2.1,.int .i64 x.e.op.2.2.2,.int .i64 x.e.begin_,.int .i64 x.e.end_,.int .i64 x.e.steps,.int .i64 x.e.alloc,.int .i64 x.e.at_,.int .i64 x.e.version,.int .i64 x.e.ans.code,.bool x.e.ans.found,.int .i64 x.e.ans.val,.int .i64 x.e.ans.writer,.int .i64 x.e.ans.version,x.s.v]
theorem Jg:Lays fEv 18:=⟨fun _=>rfl,fun x u hu=>by simp [fEv] at hu;rcases hu with rfl | rfl | rfl | rfl | rfl | rfl | rfl | rfl | rfl | rfl | rfl | rfl | rfl | rfl | rfl | rfl | rfl | rfl <;> rfl,by decide⟩
theorem tvI:(Tryz.prog.info? 93).map (fun i=>(i.zero,i.size,i.bytes))=some (some (.agg #[.int .i64 0,.bool false,.int .i64 0,.pointer none,.pointer none,.pointer none]),6,48):=by kernel_rfl
theorem q9b {w:World} {a:Option Addr} {n cap i:Nat} {xs:List Evv} {x:Evv} (h:Sq fEv w (.slice a n cap) xs) (hi:xs[i]? = some x) :
  ∃ g off,a=some ⟨g,off,none⟩/\w.cell? ⟨g,off+i * 18,none⟩=some (.int .i64 x.e.th)/\w.cell? ⟨g,off+i * 18+1,none⟩=some (.int .i64 x.e.ix):=by
 obtain ⟨-,g,off,rfl,hc⟩:=Sq.cell Jg h hi;exact H2
def evP (t i:Int) (x:Ev):Bool:=x.th == t && x.ix == i
def q4x (l:List Ev) (t i:Int):Int:=match l.findIdx? (evP t i) with | some k=>(k:Int) | none=>-1
theorem Ux (m:Mc) (t i:Int):m.event t i=m.e.findIdx? (evP t i):=rfl
theorem Ry {α:Type} {p:α->Bool} {l:List α} (h:∀ (j:Nat) (z:α),l[j]? = some z->p z=false):l.findIdx? p=none:=by rw [List.findIdx?_eq_none_iff];intro x hx;obtain ⟨j,hj,rfl⟩:=List.getElem_of_mem hx;exact h j _ (List.getElem?_eq_getElem hj)
theorem Rx {α:Type} {p:α->Bool} {l:List α} {k:Nat} {y:α} (hy:l[k]? = some y) (hp:p y=true) (h:∀ (j:Nat) (z:α),j<k->l[j]? = some z->p z=false):l.findIdx? p=some k:=by obtain ⟨hk,rfl⟩:=List.getElem?_eq_some_iff.1 hy;rw [List.findIdx?_eq_some_iff_getElem];exact ⟨hk,hp,fun j hj=>by rw [h j _ hj (List.getElem?_eq_getElem Lb)];simp⟩
def EvAt (l:List Evv) (t i:Int) (u:Value) (w wr:World):Prop:=∃ k,k<=l.length/\u = .int .i64 (k:Nat)/\wr=w/\∀ j z,j<k->l[j]? = some z->evP t i z.e=false
theorem Rs (m:Mc) (t i:Int) (b:Nat) (ov pv dv:Value) (pa:Nat) (tv kv ev:Value) (xs:List Evv) (w:World) (hl:xs.length<=100000000) (h:qa7 w b m ov pv dv pa tv kv ev) (hs:Sq fEv w ev xs) :
  Calls Tryz.prog 51 #[.pointer (some ⟨b,0,none⟩),.int .i64 t,.int .i64 i] w fun e w'=>e = .returned (.int .i64 (q4x (xs.map Evv.e) t i))/\w'=w:=by
 obtain ⟨a,cap,rfl,hcap,hmax,-⟩:=id hs;obtain ⟨-,-,-,-,-,-,-,-,-,-,-,-,c12⟩:=zw h;have HS:=q9 hs;clear hs;go_enter Tryz.func51,Tryz.ntmps51;go_wp2_with fail;go_loopw [7] (fun u wr=>EvAt xs t i u w wr) (fun u _=>xs.length - (intOf u).toNat);case atStart=>exact ⟨0,Nat.zero_le _,rfl,rfl,by omega⟩
 case round =>
  obtain ⟨k,hk,rfl,rfl,h1⟩:=hrel;by_cases hlt:k<xs.length
  ·have HI2:=q9 (show k+1<=xs.length/\xs.length - (k+1)<xs.length - k by omega);have hltz:(k:Int)<(xs.length:Int):=by omega
   have hk0:(0:Int)<=(k:Int):=by omega
   obtain ⟨y,hy⟩:∃ y,xs[k]? = some y:=⟨xs[k],List.getElem?_eq_getElem hlt⟩;obtain ⟨g,off,rfl,d0,d1⟩:=q9b HS.out hy;have HH:=q9 (qc hy h1);clear hy h1;by_cases e1:y.e.th=t
   ·have g1:(y.e.th == t)=true:=by simpa using e1
    by_cases e2:y.e.ix=i
    ·have g2:(y.e.ix == i)=true:=by simpa using e2
     have HP:=q9 (show evP t i y.e=true by unfold evP;simp [e1,e2]);clear e1 e2;go_wp2_with fail;go_ret;refine ⟨?_,rfl⟩;rw [show q4x (xs.map Evv.e) t i=(k:Int) by unfold q4x;rw [Rx (k:=k) (y:=y.e) (by rw [List.getElem?_map,HH.out.1];rfl) HP.out (fun j z hj hz=>by rw [List.getElem?_map] at hz;obtain ⟨z0,hz0,rfl⟩:=Option.map_eq_some_iff.1 hz;exact HH.out.2 j z0 hj hz0)]];rfl
    ·have g2:(y.e.ix == i)=false:=by simpa using e2
     have HP:=q9 (show evP t i y.e=false by unfold evP;simp [e2]);clear e1 e2;exact Bt
   ·have g1:(y.e.th == t)=false:=by simpa using e1
    have HP:=q9 (show evP t i y.e=false by unfold evP;simp [e1]);clear e1;exact Bt
  ·obtain rfl:k=xs.length:=by omega
   have HH:=q9 h1;clear h1;go_wp2_with fail;go_ret;refine ⟨?_,rfl⟩;rw [show q4x (xs.map Evv.e) t i = -1 by unfold q4x;rw [Ry (fun j z hz=>by rw [List.getElem?_map] at hz;obtain ⟨z0,hz0,rfl⟩:=Option.map_eq_some_iff.1 hz;exact HH.out j z0 (List.getElem?_eq_some_iff.1 hz0).1 hz0)]];rfl
def fO (o:O):List Value:=[.int .i64 o.1,.int .i64 o.2.1,.int .i64 o.2.2.1,.int .i64 o.2.2.2]
theorem q73:Lays fO 4:=⟨fun _=>rfl,fun x u hu=>by simp [fO] at hu;rcases hu with rfl | rfl | rfl | rfl <;> rfl,by decide⟩
structure Sb (w:World) (R:List Nat) (ov:Value) (ss:List Sv) (rs:List (List O)):Prop where
 sq:Sq fS w ov ss
 len:ss.length=rs.length
 row:∀ (i:Nat) (s:Sv) (r:List O),ss[i]? = some s->rs[i]? = some r->Sq fO w s.v r/\(r≠[]->∀ k,k∈s.v.ownBlock.toList->k∈R)
 own:rs≠[]->∀ k,k∈ov.ownBlock.toList->k∈R
theorem Sq.keptN {α:Type} {f:α->List Value} {S:List Nat} {w w':World} {v:Value} {xs:List α} (h:Sq f w v xs) (k:Fr S w w') (hS:xs≠[]->∀ g,g∈v.ownBlock.toList->g∉S):Sq f w' v xs:=by
 cases xs with
 | nil=>obtain ⟨a,cap,e,h1,h2,-⟩:=h;exact ⟨a,cap,e,h1,h2,.inl rfl⟩
 | cons x xs=>exact h.kept k (hS Lc)
theorem Sb.kept {S:List Nat} {w w':World} {R:List Nat} {ov:Value} {ss:List Sv} {rs:List (List O)} (h:Sb w R ov ss rs) (F:Fr S w w') (hS:∀ k,k∈R->k∉S):Sb w' R ov ss rs :=
 ⟨h.sq.keptN F (fun hne k hk=>hS k (h.own (fun e=>hne (List.eq_nil_of_length_eq_zero (by rw [h.len,e];rfl))) k hk)),h.len,fun i s r e1 e2=>⟨(h.row i s r e1 e2).1.keptN F (fun hne k hk=>hS k ((h.row i s r e1 e2).2 hne k hk)),(h.row i s r e1 e2).2⟩,h.own⟩
def opsV (ss:List Sv) (t:Int):Value:=if t<0\/(ss.length:Int)<=t then .slice none 0 0 else (ss.getD t.toNat ⟨none,0,0⟩).v
theorem q5b {w:World} {R:List Nat} {ov:Value} {ss:List Sv} {m:Mc} (h:Sb w R ov ss m.ops) (t:Int):Sq fO w (opsV ss t) (m.opsOf t):=by
 unfold opsV Mc.opsOf;by_cases h0:t<0
 ·rw [qf (.inl h0),qf h0];exact Sq.nil w
 ·rw [qd h0];by_cases h1:(ss.length:Int)<=t
  ·rw [qf (.inr h1),List.getD_eq_getElem?_getD,List.getElem?_eq_none (by rw [<- h.len];omega)];exact Sq.nil w
  rw [qd Lb];have hl:t.toNat<ss.length:=by omega
  have hr:t.toNat<m.ops.length:=by rw [<- h.len];exact hl
  rw [List.getD_eq_getElem?_getD,List.getD_eq_getElem?_getD,List.getElem?_eq_getElem hl,List.getElem?_eq_getElem hr];exact (h.row t.toNat _ _ (List.getElem?_eq_getElem hl) (List.getElem?_eq_getElem hr)).1
theorem Ku (m:Mc) (t:Int) (b:Nat) (ov pv dv:Value) (pa:Nat) (tv kv ev:Value) (R:List Nat) (ss:List Sv) (w:World) (h:qa7 w b m ov pv dv pa tv kv ev) (hO:Sb w R ov ss m.ops) :
  Calls Tryz.prog 67 #[.pointer (some ⟨b,0,none⟩),.int .i64 t] w fun e w'=>e = .returned (opsV ss t)/\w'=w:=by
 obtain ⟨a,cap,rfl,hcap,hmax,-⟩:=id hO.sq;obtain ⟨-,-,-,-,c4,-,-,-,-,-,-,-,-⟩:=zw h;unfold opsV;by_cases h0:t<0
 ·rw [qf (.inl h0)];exact Ec
 ·by_cases h1:(ss.length:Int)<=t
  ·rw [qf (.inr h1)];exact Ec
  obtain ⟨n,rfl⟩:∃ n:Nat,t=(n:Int):=⟨t.toNat,by omega⟩;have hl:n<ss.length:=by omega
  obtain ⟨s,hs⟩:∃ s,ss[n]? = some s:=⟨ss[n],List.getElem?_eq_getElem hl⟩;obtain ⟨g,off,rfl,d0⟩:=Kv hO.sq hs;rw [qd Lb,Int.toNat_natCast,List.getD_eq_getElem?_getD,hs,Option.getD_some];have hlz:(n:Int)<(ss.length:Int):=by omega
  unfold Sv.v;clear hs hl;exact Ec
theorem q88 {w:World} {a:Option Addr} {n cap i:Nat} {xs:List Tv} {x:Tv} (h:Sq fTv w (.slice a n cap) xs) (hi:xs[i]? = some x) :
  ∃ g off,a=some ⟨g,off,none⟩/\w.cell? ⟨g,off+i * 6,none⟩=some (.int .i64 x.next)/\w.cell? ⟨g,off+i * 6+1,none⟩=some (.bool x.busy):=by
 obtain ⟨-,g,off,rfl,hc⟩:=Sq.cell Ui h hi;exact H2
def qdp (x:Th) (y:Tv):Prop:=y.next=x.next/\y.busy=x.busy/\y.scans=x.scans
theorem q9k (m:Mc) (t:Int) (b:Nat) (ov pv dv:Value) (pa:Nat) (tv kv ev:Value) (R:List Nat) (ss:List Sv) (ts:List Tv) (w:World) (h:qa7 w b m ov pv dv pa tv kv ev) (hO:Sb w R ov ss m.ops) (hT:Sq fTv w tv ts) (hTl:ts.length=m.t.length) (hTi:∀ (i:Nat) (x:Th) (y:Tv),m.t[i]? = some x->ts[i]? = some y->qdp x y) :
  Calls Tryz.prog 48 #[.pointer (some ⟨b,0,none⟩),.int .i64 t] w fun e w'=>e = .returned (.bool (m.over t))/\Fr [] w w':=by
 have HTL:=q9 hTl;clear hTl;obtain ⟨a,cap,rfl,hcap,hmax,-⟩:=id hT;obtain ⟨tv0,htv⟩:∃ tv0,tv0=Value.slice a ts.length cap:=⟨_,rfl⟩;have HH:=q9 (qc h hO);have HV:=q9 htv;obtain ⟨-,-,-,-,-,-,-,-,c8,-,-,-,-⟩:=zw h;generalize hov:m.over t=o;have HO:=q9 hov;rw [<- htv] at HH;clear h hO hov htv;by_cases h0:t<0
 ·have g1:decide (t<0)=true:=by simpa using h0
  have HN:=q9 (show o=true by rw [<- HO.out];unfold Mc.over;simp [h0]);have k8:=qb c8;clear c8 h0
  ·skip;exact Ba
 ·have g1:decide (t<0)=false:=by simpa using h0
  by_cases h1:(ts.length:Int)<=t
  ·have g2:decide (t≥(ts.length:Int))=true:=by simpa using h1
   have g3:decide ((ts.length:Int)<=t)=true:=by simpa using h1
   have HN:=q9 (show o=true by rw [<- HO.out];unfold Mc.over;rw [HTL.out] at h1;simp [h1]);have k8:=qb c8;clear c8 h0 h1;exact Ba
  obtain ⟨n,rfl⟩:∃ n:Nat,t=(n:Int):=⟨t.toNat,by omega⟩;have hl:n<ts.length:=by omega
  have g2:decide ((n:Int)≥(ts.length:Int))=false:=by simpa using h1
  have g2n:decide (ts.length<=n)=false:=by simp;omega
  have hlz:(n:Int)<(ts.length:Int):=by omega
  obtain ⟨y,hy⟩:∃ y,ts[n]? = some y:=⟨ts[n],List.getElem?_eq_getElem hl⟩;obtain ⟨x,hx⟩:∃ x,m.t[n]? = some x:=⟨m.t[n]'(by rw [<- HTL.out];exact hl),List.getElem?_eq_getElem _⟩;obtain ⟨e1,e2,-⟩:=hTi n x y hx hy;obtain ⟨g,off,rfl,d0,d1⟩:=q88 hT hy;have hth:m.th (n:Int)=x:=by unfold Mc.th;rw [Int.toNat_natCast,List.getD_eq_getElem?_getD,hx];rfl
  have HM:=q9 (show m.over (n:Int)=(!x.busy && decide (((m.opsOf (n:Int)).length:Int)<=x.next)) by
   unfold Mc.over
   rw [hth,show decide ((n:Int)<0)=false from by simp,show decide ((m.t.length:Int)<=(n:Int))=false from by rw [<- HTL.out];simpa using h1];rfl)
  rw [e1] at d0;rw [e2] at d1;have HS:=q9 (q5b HH.out.2 (n:Int));have k8:=qb c8;have k0:=qb d0;have k1:=qb d1;clear c8 d0 d1 h0 h1 hl hy hx hth e1 e2 hT;obtain ⟨ao,co,hov,-,-,-⟩:=HS.out;have HOV:=q9 hov;clear hov;generalize (m.opsOf (n:Int)).length=len at *;cases hb:x.busy
  ·rw [hb] at k1;by_cases hn:(len:Int)<=x.next
   focus
    have g3:decide (x.next≥(len:Int))=true:=by simpa using hn
    have g4:decide ((len:Int)<=x.next)=true:=by simpa using hn
    have HN:=q9 (show o=true by rw [<- HO.out,HM.out,hb];simp [hn])
   rotate_left
   focus
    have g3:decide (x.next≥(len:Int))=false:=by simpa using hn
    have g4:decide ((len:Int)<=x.next)=false:=by simpa using hn
    have HN:=q9 (show o=false by rw [<- HO.out,HM.out,hb];simp;omega)
   rotate_left
   all_goals
    clear hb hn
    go_enter Tryz.func48,Tryz.ntmps48
    go_wp2_with fail
    refine wiq ?_
    repeat (go_big_quiet_step ((go_at_call 67;exact Calls.in_same ((Ku m _ b ov pv dv pa tv0 kv ev R ss _ (Ob.up HH.out.1 (In.fr _)) (HH.out.2.kept (In.fr _) Lc)).mono (fun e w' hh=>⟨hh.1.trans (by rw [HOV.out]),hh.2.symm⟩)))))
    refine wpQuiet_nil ?_
    intro w2 F2
    go_wp2_with fail
    go_ret
    exact ⟨by rw [HN.out];rfl,F2⟩
  have HN:=q9 (show o=false by rw [<- HO.out,HM.out,hb];rfl);rw [hb] at k1;clear hb;go_enter Tryz.func48,Tryz.ntmps48;go_wp2_with fail;refine wiq ?_;repeat (go_big_quiet_step ((go_at_call 67;exact Calls.in_same ((Ku m _ b ov pv dv pa tv0 kv ev R ss _ (Ob.up HH.out.1 (In.fr _)) (HH.out.2.kept (In.fr _) Lc)).mono (fun e w' hh=>⟨hh.1.trans (by rw [HOV.out]),hh.2.symm⟩)))))
  exact Ip
theorem q6h (x:Int) (w:World):Calls Tryz.prog 79 #[.int .i64 x] w fun e w'=>e = .returned (.tuple #[.int .i64 (ofP x).1,.int .i64 (ofP x).2])/\w=w':=by
 go_enter Tryz.func79,Tryz.ntmps79;by_cases h1:x<0
 ·have g1:decide (x<0)=true:=by simpa using h1
  have e1:ofP x=(-1,-1):=by unfold ofP;rw [qf (.inl h1)]
  exact Dm
 have g1:decide (x<0)=false:=by simpa using h1
 by_cases h2:8000<=x
 ·have g2:decide (x≥8000)=true:=by simpa using h2
  have e1:ofP x=(-1,-1):=by unfold ofP;rw [qf (.inr h2)]
  exact Dm
 have g2:decide (x≥8000)=false:=by simpa using h2
 have e1:ofP x=(x / 1000,x % 1000):=by unfold ofP;rw [qd Lb]
 have h0:0<=x/\x<8000:=by omega
 rw [e1];go_wp2;exact bodyPost_ret (v:=.tuple #[.int .i64 (x / 1000),.int .i64 (x % 1000)]) Od rfl ⟨rfl,rfl⟩
theorem q3w (t i:Int) (w:World):Calls Tryz.prog 68 #[.int .i64 t,.int .i64 i] w fun e w'=>e = .returned (.int .i64 (vn t i))/\w=w':=by
 go_enter Tryz.func68,Tryz.ntmps68;by_cases h1:t<0
 ·have g1:decide (t<0)=true:=by simpa using h1
  exact E0
 have g1:decide (t<0)=false:=by simpa using h1
 by_cases h2:t≥8
 ·have g2:decide (t≥8)=true:=by simpa using h2
  exact E0
 have g2:decide (t≥8)=false:=by simpa using h2
 by_cases h3:i<0
 ·have g3:decide (i<0)=true:=by simpa using h3
  exact E0
 have g3:decide (i<0)=false:=by simpa using h3
 by_cases h4:i≥1000
 ·have g4:decide (i≥1000)=true:=by simpa using h4
  exact E0
 have g4:decide (i≥1000)=false:=by simpa using h4
 go_wp2;go_ret;exact ⟨by unfold vn;rw [qd Lb];rfl,rfl⟩
def DrOf (w:World) (m:Mc) (dv:Value) (x:Int) (v:Value):Prop:=Sq fI w v (m.drawsOf x)/\∀ k,k∈v.ownBlock.toList->m.draws≠[]/\k∈dv.ownBlock.toList
theorem Rj (m:Mc) (x:Int) (hx:0<=x/\x<8000) (b:Nat) (ov pv dv:Value) (pa:Nat) (tv kv ev:Value) (w:World) (h:qa7 w b m ov pv dv pa tv kv ev) (hD:Sq fI w dv m.draws) :
  Calls Tryz.prog 71 #[.pointer (some ⟨b,0,none⟩),.int .i64 x] w fun e w'=>(∃ v,e = .returned v/\DrOf w m dv x v)/\Fr [] w w':=by
 obtain ⟨a,cap,rfl,hcap,hmax,-⟩:=id hD;obtain ⟨-,-,-,-,-,-,c6,-,-,-,-,-,-⟩:=zw h;by_cases h0:m.draws.length=0
 ·have e0:=List.eq_nil_of_length_eq_zero h0;have g0:((m.draws.length:Int) == 0)=true:=by simp [h0]
  go_enter Tryz.func71,Tryz.ntmps71;go_wp2_with fail;refine (q6h x w).mono ?_;rintro e w1 ⟨rfl,rfl⟩;go_wp2_with fail;go_ret;refine ⟨⟨_,rfl,?_,by simp [Value.ownBlock]⟩,Fr.refl _ _⟩;unfold Mc.drawsOf;rw [qf e0];exact Sq.nil w
 ·have g0:((m.draws.length:Int) == 0)=false:=by simpa using h0
  obtain ⟨d,hd⟩:∃ d,m.draws[0]? = some d:=⟨m.draws[0]'(by omega),List.getElem?_eq_getElem _⟩;obtain ⟨gd,od,rfl,d0⟩:=Zx hD hd;go_enter Tryz.func71,Tryz.ntmps71;go_wp2_with fail;refine (q6h x w).mono ?_;rintro e w1 ⟨rfl,rfl⟩;obtain ⟨i,hi⟩:∃ i:Nat,(ofP x).2=(i:Int):=⟨(x % 1000).toNat,by unfold ofP;rw [qd Lb];simp only;omega⟩
  have hi2:i<1000:=by
   have:(ofP x).2=x % 1000:=by unfold ofP;rw [qd Lb]
   omega
  rw [hi];have HI:=q9 hi;clear hi;have hk:Int.tmod (i:Int) (m.draws.length:Int)=((i % m.draws.length:Nat):Int):=by rw [Int.tmod_eq_emod_of_nonneg Lb];rfl
  have hlt:i % m.draws.length<m.draws.length:=Nat.mod_lt _ Lb;have HK:=q9 hk;generalize i % m.draws.length=k at *;have hkz:(k:Int)<(m.draws.length:Int):=by omega
  have hk0:(0:Int)<=(k:Int):=by omega
  have hkc:¬ k=cap:=by omega
  have k6:=qb c6;go_wp2_with fail;clear c6;refine wiq ?_;repeat (go_big_quiet_step (fail))
  refine wpQuiet_nil ?_;intro w2 F2;go_wp2_with fail;go_ret;refine ⟨⟨_,rfl,?_,fun k hk=>⟨fun e=>h0 Oj,by simpa [Value.ownBlock] using hk⟩⟩,F2⟩;have hs:=Sq.drop yj hD k Lb;rw [Nat.mul_one] at hs
  have e1:m.drawsOf x=m.draws.drop k:=by unfold Mc.drawsOf;rw [qd (fun e=>h0 Oj),HI.out,HK.out,Int.toNat_natCast]
  rw [e1];exact hs
section
variable {α:Type} {f:α->List Value} {sz:Nat}
theorem q6u (hL:Lays f sz) {w:World} {B n i:Nat} {E:TypeId} {v:Value} {xs:List α} {x:α} (h:w.ownsRow B E sz v n (xs.flatMap f)) (hn:n=xs.length) (hi:xs[i]? = some x) :
  ∃ g c,v = .slice (some ⟨g,0,none⟩) n c/\g<w.heap.size/\B<=g/\(∀ j u,(f x)[j]? = some u->w.cell? ⟨g,i * sz+j,none⟩=some u)/\∀ k,w.frozen? ⟨g,k,none⟩=false:=by
 subst hn;have hil:=(List.getElem?_eq_some_iff.1 hi).1;obtain ⟨-,h2⟩:=id h;have hc:=Qn h;rcases h2 with ⟨-,e0⟩ | ⟨g,cap,cur,rfl,hB,hh,hc1,hc2,-⟩
 ·omega
 ·obtain ⟨a,c,e,-,h3⟩:=hc;simp only [Value.slice.injEq] at e;obtain ⟨rfl,-,rfl⟩:=e;rcases h3 with h0 | ⟨g',e',hlt,hall⟩
  ·omega
  ·simp only [Option.some.injEq,Addr.mk.injEq] at e';obtain ⟨rfl,-⟩:=e';exact ⟨g,_,rfl,hlt,hB,fun j u hu=>hall _ _ (by rw [hL.at hi (by have:=(List.getElem?_eq_some_iff.1 hu).1;rw [hL.len] at this;exact this)];exact hu),fun i=>frozen_of_row _ _ _ _ _ hh⟩
theorem q8s (hL:Lays f sz) {w:World} {B n g c i j:Nat} {E:TypeId} {xs:List α} {x x':α} {u:Value} (h:w.ownsRow B E sz (.slice (some ⟨g,0,none⟩) n c) n (xs.flatMap f)) (hi:xs[i]? = some x) (hj:j<sz) (hf:f x'=(f x).set j u) :
  (w.setCell ⟨g,i * sz+j,none⟩ u).ownsRow B E sz (.slice (some ⟨g,0,none⟩) n c) n ((xs.set i x').flatMap f):=by
 rw [<- Tj hL hi hj hf];obtain ⟨h1,h2⟩:=h;refine ⟨by simpa using h1,?_⟩;rcases h2 with ⟨e,-⟩ | ⟨g',cap,cur,e,hB,hh,hc1,hc2,hs,ht⟩
 ·simp at e
 ·simp only [Value.slice.injEq,Option.some.injEq,Addr.mk.injEq] at e;obtain ⟨⟨rfl,-⟩,-,rfl⟩:=e;refine .inr ⟨g,c,_,rfl,hB,heap_setCell_same w g _ cur E u hh,hc1,hc2,by simpa using hs,?_⟩;rw [Array.toList_setIfInBounds,List.take_set,ht]
end
def Jl (w:World) (R B:List Nat) (x:Th) (y:Tv):Prop:=qdp x y/\(
 (∃ p b,x.p=some p/\x.g=none/\x.s=none/\y.pp=some b/\y.gp=none/\y.sp=none/\q8m w R B b p) \/
 (∃ g b,x.p=none/\x.g=some g/\x.s=none/\y.pp=none/\y.gp=some b/\y.sp=none/\q5c w B b g) \/
 (∃ s b,x.p=none/\x.g=none/\x.s=some s/\y.pp=none/\y.gp=none/\y.sp=some b/\Ky w B b s) \/
 (x.p=none/\x.g=none/\x.s=none/\y.pp=none/\y.gp=none/\y.sp=none/\B=[]))
theorem Jl.lt {w:World} {R B:List Nat} {x:Th} {y:Tv} (h:Jl w R B x y):∀ k,k∈B->k<w.heap.size:=by
 obtain ⟨-,⟨_,_,_,_,_,_,_,_,h⟩ | ⟨_,_,_,_,_,_,_,_,h⟩ | ⟨_,_,_,_,_,_,_,_,h⟩ | ⟨_,_,_,_,_,_,rfl⟩⟩:=h
 ·exact h.lt
 ·exact h.lt
 ·exact h.lt
 ·simp
theorem Jl.kept {S:List Nat} {w w':World} {R B:List Nat} {x:Th} {y:Tv} (h:Jl w R B x y) (F:Fr S w w') (hS:∀ k,k∈B->k∉S) (hR:∀ k,k∈R->k∉S):Jl w' R B x y:=by
 obtain ⟨h0,⟨p,b,e1,e2,e3,e4,e5,e6,h⟩ | ⟨p,b,e1,e2,e3,e4,e5,e6,h⟩ | ⟨p,b,e1,e2,e3,e4,e5,e6,h⟩ | h⟩:=h
 ·exact ⟨h0,.inl ⟨p,b,e1,e2,e3,e4,e5,e6,h.kept F hS hR⟩⟩
 ·exact ⟨h0,.inr (.inl ⟨p,b,e1,e2,e3,e4,e5,e6,h.kept F hS⟩)⟩
 ·exact ⟨h0,.inr (.inr (.inl ⟨p,b,e1,e2,e3,e4,e5,e6,h.kept F hS⟩))⟩
 ·exact ⟨h0,.inr (.inr (.inr h))⟩
structure Lay where
 R:List Nat
 ov:Value
 pv:Value
 dv:Value
 kv:Value
 ev:Value
 ss:List Sv
 p:Nat
 q:Nat
 tb:Nat
 ts:List Tv
 es:List Evv
def Lay.tv (y:Lay):Value:=.slice (some ⟨y.tb,0,none⟩) y.ts.length y.ts.length
structure Fz (w:World) (own:Nat->Nat) (m:Mc) (y:Lay):Prop where
 rows:Sb w y.R y.ov y.ss m.ops
 dr:Sq fI w y.dv m.draws
 drR:m.draws≠[]->∀ k,k∈y.dv.ownBlock.toList->k∈y.R
 cR:∀ k,k∈y.R->own k=0/\k<w.heap.size
theorem Fz.kept {S:List Nat} {w w':World} {own:Nat->Nat} {m:Mc} {y:Lay} (h:Fz w own m y) (F:Fr S w w') (hS:∀ k,k∈S->own k≠0):Fz w' own m y :=
 have hn:∀ k,k∈y.R->k∉S:=fun k hk hi=>hS k hi (h.cR k hk).1
 ⟨h.rows.kept F hn,h.dr.keptN F (fun hne k hk=>hn k (h.drR hne k hk)),h.drR,fun k hk=>⟨(h.cR k hk).1,qj (h.cR k hk).2 F.size⟩⟩
def Thr (w:World) (own:Nat->Nat) (R:List Nat) (mt:List Th) (ts:List Tv):Prop:=∀ (i:Nat) (x:Th) (z:Tv),mt[i]? = some x->ts[i]? = some z->∃ B,Jl w R B x z/\∀ k,k∈B->own k=i+6
theorem Thr.kept {S:List Nat} {w w':World} {own:Nat->Nat} {R:List Nat} {mt:List Th} {ts:List Tv} (h:Thr w own R mt ts) (F:Fr S w w') (hR:∀ k,k∈R->own k=0) (hS:∀ k,k∈S->own k≠0/\own k<6):Thr w' own R mt ts:=by intro i x z e1 e2;obtain ⟨B,h1,h2⟩:=h i x z e1 e2;exact ⟨B,h1.kept F (fun k hk hi=>by have:=h2 k hk;have:=hS k hi;omega) (fun k hk hi=>(hS k hi).1 (hR k hk)),h2⟩
def Ans (w:World) (own:Nat->Nat) (es:List Evv):Prop:=∀ x,x∈es->Sq fQ w x.s.v x.e.ans.pairs/\(x.e.ans.pairs≠[]->∀ k,k∈x.s.v.ownBlock.toList->own k=0)
theorem Ans.kept {S:List Nat} {w w':World} {own:Nat->Nat} {es:List Evv} (h:Ans w own es) (F:Fr S w w') (hS:∀ k,k∈S->own k≠0):Ans w' own es:=fun x hx =>
 ⟨(h x hx).1.keptN F (fun hne g hg hi=>hS g hi ((h x hx).2 hne g hg)),(h x hx).2⟩
def ju (N0:Nat->Prop) (n:Nat):Prop:=∀ k,n<=k->N0 k
theorem ju.up {N0:Nat->Prop} {n n':Nat} (h:ju N0 n) (e:n<=n'):ju N0 n':=fun k hk=>h k (qh e hk)
def Yq (n k:Nat):Prop:=n<=k
theorem Yq.new (n:Nat):ju (Yq n) n:=fun k h=>h
structure jc (N0:Nat->Prop) (own:Nat->Nat) (w:World) (b:Nat) (m:Mc) (y:Lay):Prop where
 ob:qa7 w b m y.ov y.pv y.dv y.p y.tv y.kv y.ev
 fz:Fz w own m y
 ar:Rar w y.p y.q m.a
 cb:own b=1
 cp:own y.p=2
 cq:own y.q=3
 ct:own y.tb=4
 th:Ob w y.tb 93 (y.ts.flatMap fTv).toArray
 thl:y.ts.length=m.t.length
 th8:m.t.length<=8
 thr:Thr w own y.R m.t y.ts
 tk:Sq fI w y.kv m.ticks
 tkc:m.ticks≠[]->∀ k,k∈y.kv.ownBlock.toList->own k=0
 ev:w.ownsRow 0 107 18 y.ev y.es.length (y.es.flatMap fEv)
 evo:∀ k,k∈y.ev.ownBlock.toList->own k=5
 evl:y.es.map Evv.e=m.e
 ans:Ans w own y.es
 base:∀ k,own k≠0->N0 k
theorem jc.R0 {N0:Nat->Prop} {own:Nat->Nat} {w:World} {b:Nat} {m:Mc} {y:Lay} (h:jc N0 own w b m y):∀ k,k∈y.R->own k=0:=fun k hk=>(h.fz.cR k hk).1
theorem jc.esl {N0:Nat->Prop} {own:Nat->Nat} {w:World} {b:Nat} {m:Mc} {y:Lay} (h:jc N0 own w b m y):y.es.length=m.e.length:=by rw [<- h.evl,List.length_map]
theorem jc.up {N0:Nat->Prop} {own:Nat->Nat} {w w':World} {b:Nat} {m:Mc} {y:Lay} (h:jc N0 own w b m y) (F:Fr [] w w'):jc N0 own w' b m y :=
 ⟨Ob.up h.ob F,h.fz.kept F Lc,h.ar.kept F Lc Lc,h.cb,h.cp,h.cq,h.ct,Ob.up h.th F,h.thl,h.th8,h.thr.kept F h.R0 Lc,h.tk.up F,h.tkc,qo h.ev F,h.evo,h.evl,h.ans.kept F Lc,h.base⟩
def xo (own:Nat->Nat) (n c:Nat):Nat->Nat:=fun k=>if k<n then own k else c
theorem xz {own:Nat->Nat} {n c k:Nat} (h:k<n):xo own n c k=own k:=qf h
theorem yh {own:Nat->Nat} {n c k:Nat} (h:n<=k):xo own n c k=c:=qd Lb
theorem jc.xo {N0:Nat->Prop} {own:Nat->Nat} {w:World} {b:Nat} {m:Mc} {y:Lay} (h:jc N0 own w b m y) (c:Nat) (hN:ju N0 w.heap.size):jc N0 (xo own w.heap.size c) w b m y:=by
 have hl:=h.ar.lt;refine ⟨h.ob,⟨h.fz.rows,h.fz.dr,h.fz.drR,fun k hk=>⟨(xz (h.fz.cR k hk).2).trans (h.fz.cR k hk).1,(h.fz.cR k hk).2⟩⟩,h.ar,(xz (Ob.lt h.ob)).trans h.cb,(xz hl.1).trans h.cp,(xz hl.2).trans h.cq,(xz (Ob.lt h.th)).trans h.ct,h.th,h.thl,h.th8,fun i x z e1 e2=>?_,h.tk,fun hne k hk=>(xz (Qx h.tk hne k hk)).trans (h.tkc hne k hk),h.ev,fun k hk=>(xz (Zk h.ev k hk)).trans (h.evo k hk),h.evl,fun x hx=>⟨(h.ans x hx).1,fun hne k hk=>(xz (Qx (h.ans x hx).1 hne k hk)).trans ((h.ans x hx).2 hne k hk)⟩,fun k hk=>?_⟩
 ·obtain ⟨B,h1,h2⟩:=h.thr i x z e1 e2;exact ⟨B,h1,fun k hk=>(xz (h1.lt k hk)).trans (h2 k hk)⟩
 ·by_cases hk':k<w.heap.size
  ·rw [xz hk'] at hk;exact h.base k hk
  ·exact hN k Lb
def FrO (N0:Nat->Prop) (w w':World):Prop:=∃ S,(∀ k,k∈S->N0 k)/\Fr S w w'
theorem FrO.of {N0:Nat->Prop} {S:List Nat} {w w':World} (F:Fr S w w') (h:∀ k,k∈S->N0 k):FrO N0 w w':=⟨S,h,F⟩
theorem FrO.refl (N0:Nat->Prop) (w:World):FrO N0 w w:=⟨[],by simp,Fr.refl _ _⟩
theorem FrO.trans {N0:Nat->Prop} {a b c:World} (h:FrO N0 a b) (k:FrO N0 b c):FrO N0 a c:=by obtain ⟨S,h1,h2⟩:=h;obtain ⟨T,k1,k2⟩:=k;exact ⟨S++T,fun x hx=>(List.mem_append.1 hx).elim (h1 x) (k1 x),(h2.mono (fun x hx=>List.mem_append.2 (.inl hx))).trans (k2.mono (fun x hx=>List.mem_append.2 (.inr hx)))⟩
theorem FrO.size {N0:Nat->Prop} {w w':World} (h:FrO N0 w w'):w.heap.size<=w'.heap.size:=by obtain ⟨S,-,h⟩:=h;exact h.size
theorem Thr.set {w w':World} {own:Nat->Nat} {R S:List Nat} {mt:List Th} {ts:List Tv} {t:Nat} {x':Th} {z':Tv} {B':List Nat} (h:Thr w own R mt ts) (F:Fr S w w') (hR:∀ k,k∈R->own k=0) (hS:∀ k,k∈S->own k≠0/\(own k<6\/own k=t+6)) (hx:Jl w' R B' x' z') (hB:∀ k,k∈B'->own k=t+6):Thr w' own R (mt.set t x') (ts.set t z'):=by
 intro i x z e1 e2;by_cases hi:i=t
 ·subst hi;have h1:=(List.getElem?_eq_some_iff.1 e1).1;have h2:=(List.getElem?_eq_some_iff.1 e2).1;rw [List.length_set] at h1 h2;rw [List.getElem?_set_self h1] at e1;rw [List.getElem?_set_self h2] at e2;cases e1;cases e2;exact ⟨B',hx,hB⟩
 ·rw [List.getElem?_set_ne (fun e=>hi e.symm)] at e1 e2;obtain ⟨B,h1,h2⟩:=h i x z e1 e2;exact ⟨B,h1.kept F (fun k hk hi'=>by have:=h2 k hk;have:=hS k hi';omega) (fun k hk hi'=>(hS k hi').1 (hR k hk)),h2⟩
theorem Xn {α:Type} {l:List α} {i:Nat} {x:α} (h:l[i]? = some x):l.set i x=l:=by obtain ⟨hi,rfl⟩:=List.getElem?_eq_some_iff.1 h;exact List.set_getElem_self hi
theorem jc.stepT {N0:Nat->Prop} {own:Nat->Nat} {w w':World} {b:Nat} {m:Mc} {y:Lay} (h:jc N0 own w b m y) (hN:ju N0 w.heap.size) {t:Nat} {z:Tv} (hz:y.ts[t]? = some z) {B B':List Nat} (hB:∀ k,k∈B->own k=t+6) {s':St} {x':Th} (F:Fr (y.p :: y.q :: B) w w') (hA:Rar w' y.p y.q s') (hx:Jl w' y.R B' x' z) (hB':∀ k,k∈B'->k∈B\/w.heap.size<=k) :
  jc N0 (Mx.xo own w.heap.size (t+6)) w' b { m with a:=s',t:=m.t.set t x' } y/\FrO N0 w w':=by
 have g:=h.xo (t+6) hN
 have hc:∀ k,k∈y.p :: y.q :: B->own k=2\/own k=3\/own k=t+6:=fun k hk=>by
  simp only [List.mem_cons] at hk;rcases hk with rfl | rfl | hk
  ·exact .inl h.cp
  ·exact .inr (.inl h.cq)
  ·exact .inr (.inr (hB k hk))
 have hlt:∀ k,k<w.heap.size->Mx.xo own w.heap.size (t+6) k=own k:=fun k hk=>xz hk
 have hSp:∀ k,k∈y.p :: y.q :: B->N0 k:=fun k hk=>h.base k (by have:=hc k hk;omega)
 have hS:∀ k,k∈y.p :: y.q :: B->Mx.xo own w.heap.size (t+6) k=2\/Mx.xo own w.heap.size (t+6) k=3\/Mx.xo own w.heap.size (t+6) k=t+6:=fun k hk=>by
  by_cases hk':k<w.heap.size
  ·rw [hlt k hk'];exact hc k hk
  ·exact .inr (.inr (yh Lb))
 have hB2:∀ k,k∈B'->Mx.xo own w.heap.size (t+6) k=t+6:=fun k hk=>by
  by_cases hk':k<w.heap.size
  ·rw [hlt k hk'];rcases hB' k hk with e | e
   ·exact hB k e
   ·omega
  ·exact yh Lb
 generalize Mx.xo own w.heap.size (t+6)=o2 at *;have hn:∀ k,own k=1\/own k=4->k∉y.p :: y.q :: B:=fun k hk hi=>by have:=hc k hi;omega
 refine ⟨⟨Ob.kept h.ob F (hn b (.inl h.cb)),?_,hA,g.cb,g.cp,g.cq,g.ct,Ob.kept h.th F (hn _ (.inr h.ct)),by simp only [List.length_set];exact h.thl,by simp only [List.length_set];exact h.th8,?_,g.tk.keptN F (fun hne k hk hi=>?_),g.tkc,Q4 h.ev F (fun k hk hi=>?_),g.evo,g.evl,g.ans.kept F (fun k hk=>by have:=hS k hk;omega),g.base⟩,FrO.of F hSp⟩
 ·have f:=g.fz.kept F (fun k hk=>by have:=hS k hk;omega);exact ⟨f.rows,f.dr,f.drR,f.cR⟩
 ·have k:=g.thr.set (t:=t) (x':=x') (z':=z) (B':=B') F g.R0 (fun k hk=>by have:=hS k hk;omega) hx hB2;rw [Xn hz] at k;exact k
 ·have:=hS k hi;have:=g.tkc hne k hk;omega
 ·have:=hc k hi;have:=h.evo k (by rw [hk];simp);omega
section
variable {N0:Nat->Prop} {own:Nat->Nat} {w:World} {b:Nat} {m:Mc} {y:Lay}
theorem jc.ev_open (h:jc N0 own w b m y) {k:Nat} {x:Evv} (hk:y.es[k]? = some x):∃ g c,y.ev = .slice (some ⟨g,0,none⟩) y.es.length c/\own g=5/\(∀ j u,(fEv x)[j]? = some u->w.cell? ⟨g,k * 18+j,none⟩=some u)/\∀ i,w.frozen? ⟨g,i,none⟩=false:=by obtain ⟨g,c,e,-,-,h3,h4⟩:=q6u Jg h.ev rfl hk;exact ⟨g,c,e,h.evo g (by rw [e];simp [Value.ownBlock]),h3,h4⟩
theorem Ans.set {es:List Evv} (h:Ans w own es) {k:Nat} {x':Evv} (hx:Sq fQ w x'.s.v x'.e.ans.pairs/\(x'.e.ans.pairs≠[]->∀ k,k∈x'.s.v.ownBlock.toList->own k=0)):Ans w own (es.set k x'):=fun x hm=>by
 rcases List.mem_or_eq_of_mem_set hm with e | rfl
 ·exact h x e
 ·exact hx
theorem jc.setE (h:jc N0 own w b m y) {k j g c:Nat} {x x':Evv} {u:Value} (hev:y.ev = .slice (some ⟨g,0,none⟩) y.es.length c) (hk:y.es[k]? = some x) (hj:j<18) (hf:fEv x'=(fEv x).set j u) (ha:Sq fQ w x'.s.v x'.e.ans.pairs/\(x'.e.ans.pairs≠[]->∀ k,k∈x'.s.v.ownBlock.toList->own k=0)) :
  jc N0 own (w.setCell ⟨g,k * 18+j,none⟩ u) b { m with e:=m.e.set k x'.e } { y with es:=y.es.set k x' } /\ FrO N0 w (w.setCell ⟨g,k * 18+j,none⟩ u):=by
 have hg:own g=5:=h.evo g (by rw [hev];simp [Value.ownBlock]);have F:Fr [g] w (w.setCell ⟨g,k * 18+j,none⟩ u):=Fr.setCell _ Lc;have hS:∀ i,i∈[g]->own i=5:=fun i hi=>by simp at hi;subst hi;exact hg
 have hn:∀ i,own i≠5->i∉[g]:=fun i hi hm=>hi (hS i hm)
 have fz:=h.fz.kept F (fun i hi=>by rw [hS i hi];decide);refine ⟨⟨Ob.kept h.ob F (hn b (by rw [h.cb];decide)),⟨fz.rows,fz.dr,fz.drR,fz.cR⟩,h.ar.kept F (hn _ P7) (hn _ P8),h.cb,h.cp,h.cq,h.ct,Ob.kept h.th F (hn _ (by rw [h.ct];decide)),h.thl,h.th8,h.thr.kept F h.R0 (fun i hi=>by rw [hS i hi];decide),h.tk.keptN F (fun hne i hi hm=>by have:=h.tkc hne i hi;rw [hS i hm] at this;cases this),h.tkc,?_,h.evo,?_,(h.ans.set (k:=k) ha).kept F (fun i hi=>by rw [hS i hi];decide),h.base⟩,FrO.of F (fun i hi=>h.base i Oz)⟩
 ·have hr:=h.ev;rw [hev] at hr;have:=q8s Jg hr hk hj hf;simp only [List.length_set];rw [hev];exact this
 ·simp only;rw [List.map_set,h.evl]
theorem jc.setT (h:jc N0 own w b m y) {t j:Nat} {x':Th} {z z':Tv} {u:Value} (hz:y.ts[t]? = some z) (hj:j<6) (hf:fTv z'=(fTv z).set j u) (hx:∀ w',Fr [y.tb] w w'->∃ B,Jl w' y.R B x' z'/\∀ k,k∈B->own k=t+6) :
  jc N0 own (w.setCell ⟨y.tb,t * 6+j,none⟩ u) b { m with t:=m.t.set t x' } { y with ts:=y.ts.set t z' } /\ FrO N0 w (w.setCell ⟨y.tb,t * 6+j,none⟩ u):=by
 have F:Fr [y.tb] w (w.setCell ⟨y.tb,t * 6+j,none⟩ u):=Fr.setCell _ Lc;have hS:∀ i,i∈[y.tb]->own i=4:=fun i hi=>by simp at hi;subst hi;exact h.ct
 have hn:∀ i,own i≠4->i∉[y.tb]:=fun i hi hm=>hi (hS i hm)
 have fz:=h.fz.kept F (fun i hi=>by rw [hS i hi];decide);obtain ⟨B,hx,hB⟩:=hx _ F;refine ⟨⟨?_,⟨fz.rows,fz.dr,fz.drR,fz.cR⟩,h.ar.kept F (hn _ P7) (hn _ P8),h.cb,h.cp,h.cq,h.ct,Ob.seg Ui h.th hz hj hf,by simp only [List.length_set];exact h.thl,by simp only [List.length_set];exact h.th8,h.thr.set F h.R0 (fun i hi=>by rw [hS i hi];exact ⟨by decide,.inl Lg⟩) hx hB,h.tk.keptN F (fun hne i hi hm=>by have:=h.tkc hne i hi;rw [hS i hm] at this;cases this),h.tkc,Q4 h.ev F (fun i hi hm=>by have:=h.evo i (by rw [hi];simp);rw [hS i hm] at this;cases this),h.evo,h.evl,h.ans.kept F (fun i hi=>by rw [hS i hi];decide),h.base⟩,FrO.of F (fun i hi=>h.base i Oz)⟩;have e:({ y with ts:=y.ts.set t z' }:Lay).tv=y.tv:=by unfold Lay.tv;simp only [List.length_set]
 rw [e];exact Ob.kept h.ob F (hn b (by rw [h.cb];decide))
theorem jc.setB (h:jc N0 own w b m y) {j:Nat} {u:Value}:Fz (w.setCell ⟨b,j,none⟩ u) own m y/\Rar (w.setCell ⟨b,j,none⟩ u) y.p y.q m.a/\Ob (w.setCell ⟨b,j,none⟩ u) y.tb 93 (y.ts.flatMap fTv).toArray/\Thr (w.setCell ⟨b,j,none⟩ u) own y.R m.t y.ts/\Sq fI (w.setCell ⟨b,j,none⟩ u) y.kv m.ticks/\(w.setCell ⟨b,j,none⟩ u).ownsRow 0 107 18 y.ev y.es.length (y.es.flatMap fEv)/\Ans (w.setCell ⟨b,j,none⟩ u) own y.es/\FrO N0 w (w.setCell ⟨b,j,none⟩ u):=by
 have F:Fr [b] w (w.setCell ⟨b,j,none⟩ u):=Fr.setCell _ Lc;have hS:∀ i,i∈[b]->own i=1:=fun i hi=>by simp at hi;subst hi;exact h.cb
 have hn:∀ i,own i≠1->i∉[b]:=fun i hi hm=>hi (hS i hm)
 exact ⟨h.fz.kept F (fun i hi=>by rw [hS i hi];decide),h.ar.kept F (hn _ P7) (hn _ P8),Ob.kept h.th F (hn _ (by rw [h.ct];decide)),h.thr.kept F h.R0 (fun i hi=>by rw [hS i hi];decide),h.tk.keptN F (fun hne i hi hm=>by have:=h.tkc hne i hi;rw [hS i hm] at this;cases this),Q4 h.ev F (fun i hi hm=>by have:=h.evo i (by rw [hi];simp);rw [hS i hm] at this;cases this),h.ans.kept F (fun i hi=>by rw [hS i hi];decide),FrO.of F (fun i hi=>h.base i Oz)⟩
theorem jc.setNow (h:jc N0 own w b m y) (n:Int):jc N0 own (w.setCell ⟨b,9,none⟩ (.int .i64 n)) b { m with now:=n } y/\FrO N0 w (w.setCell ⟨b,9,none⟩ (.int .i64 n)):=by obtain ⟨k1,k2,k3,k4,k5,k6,k7,k8⟩:=h.setB (j:=9) (u:=.int .i64 n);exact ⟨⟨Ob.set h.ob (i:=9) (.int .i64 n),⟨k1.rows,k1.dr,k1.drR,k1.cR⟩,k2,h.cb,h.cp,h.cq,h.ct,k3,h.thl,h.th8,k4,k5,h.tkc,k6,h.evo,h.evl,k7,h.base⟩,k8⟩
theorem jc.setIdle (h:jc N0 own w b m y) (n:Int):jc N0 own (w.setCell ⟨b,10,none⟩ (.int .i64 n)) b { m with idle:=n } y/\FrO N0 w (w.setCell ⟨b,10,none⟩ (.int .i64 n)):=by obtain ⟨k1,k2,k3,k4,k5,k6,k7,k8⟩:=h.setB (j:=10) (u:=.int .i64 n);exact ⟨⟨Ob.set h.ob (i:=10) (.int .i64 n),⟨k1.rows,k1.dr,k1.drR,k1.cR⟩,k2,h.cb,h.cp,h.cq,h.ct,k3,h.thl,h.th8,k4,k5,h.tkc,k6,h.evo,h.evl,k7,h.base⟩,k8⟩
theorem jc.setTk (h:jc N0 own w b m y) (ks:List Int) (kv:Value) (hk:Sq fI (w.setCell ⟨b,11,none⟩ kv) kv ks) (hc:ks≠[]->∀ k,k∈kv.ownBlock.toList->own k=0):jc N0 own (w.setCell ⟨b,11,none⟩ kv) b { m with ticks:=ks } { y with kv:=kv } /\ FrO N0 w (w.setCell ⟨b,11,none⟩ kv):=by obtain ⟨k1,k2,k3,k4,k5,k6,k7,k8⟩:=h.setB (j:=11) (u:=kv);exact ⟨⟨Ob.set h.ob (i:=11) kv,⟨k1.rows,k1.dr,k1.drR,k1.cR⟩,k2,h.cb,h.cp,h.cq,h.ct,k3,h.thl,h.th8,k4,hk,hc,k6,h.evo,h.evl,k7,h.base⟩,k8⟩
theorem jc.appE (h:jc N0 own w b m y) (hN:ju N0 w.heap.size) {w1:World} {v':Value} {x:Evv} (F:Fr y.ev.ownBlock.toList w w1) (hr:w1.ownsRow 0 107 18 v' (y.es++[x]).length ((y.es++[x]).flatMap fEv)) (hg:∀ g,g∈v'.ownBlock.toList->g∈y.ev.ownBlock.toList\/w.heap.size<=g) (hx:x.e.ans.pairs=[]/\x.s=⟨none,0,0⟩) :
  jc N0 (Mx.xo own w.heap.size 5) (w1.setCell ⟨b,12,none⟩ v') b { m with e:=m.e++[x.e] } { y with ev:=v',es:=y.es++[x] } /\ FrO N0 w (w1.setCell ⟨b,12,none⟩ v'):=by
 have g:=h.xo 5 hN;have hS:∀ k,k∈y.ev.ownBlock.toList->Mx.xo own w.heap.size 5 k=5:=g.evo
 have hV:∀ k,k∈v'.ownBlock.toList->Mx.xo own w.heap.size 5 k=5:=fun k hk=>by
  rcases hg k hk with e | e
  ·exact hS k e
  ·exact yh e
 have hN':=h.base;generalize Mx.xo own w.heap.size 5=o2 at *;have hn:∀ k,o2 k≠5->k∉y.ev.ownBlock.toList:=fun k hk hi=>hk (hS k hi)
 have FB:Fr [b] w1 (w1.setCell ⟨b,12,none⟩ v'):=Fr.setCell _ Lc;have FA:Fr (b :: y.ev.ownBlock.toList) w (w1.setCell ⟨b,12,none⟩ v'):=(F.mono (by intro k hk;exact List.mem_cons_of_mem _ hk)).trans (FB.mono (by intro k hk;simp at hk;subst hk;simp))
 have hA:∀ k,k∈b :: y.ev.ownBlock.toList->o2 k=1\/o2 k=5:=fun k hk=>by
  rcases List.mem_cons.1 hk with rfl | hk
  ·exact .inl g.cb
  ·exact .inr (hS k hk)
 have hnA:∀ k,o2 k≠1->o2 k≠5->k∉b :: y.ev.ownBlock.toList:=fun k h1 h2 hi=>by rcases hA k hi with e | e <;> contradiction
 have fz:=g.fz.kept FA (fun k hk=>by have:=hA k hk;omega);refine ⟨⟨?_,⟨fz.rows,fz.dr,fz.drR,fz.cR⟩,g.ar.kept FA (hnA _ (by rw [g.cp];decide) (by rw [g.cp];decide)) (hnA _ (by rw [g.cq];decide) (by rw [g.cq];decide)),g.cb,g.cp,g.cq,g.ct,Ob.kept g.th FA (hnA _ (by rw [g.ct];decide) (by rw [g.ct];decide)),g.thl,g.th8,g.thr.kept FA g.R0 (fun k hk=>by have:=hA k hk;omega),g.tk.keptN FA (fun hne k hk hi=>by have:=hA k hi;have:=g.tkc hne k hk;omega),g.tkc,Q4 hr FB (fun k hk hi=>by simp at hi;subst hi;have:=hV k (by rw [hk];simp);have:=g.cb;omega),hV,by simp [g.evl],fun z hz=>?_,g.base⟩,FrO.of FA (fun k hk=>g.base k (by have:=hA k hk;omega))⟩
 ·exact Ob.set (Ob.kept g.ob F (hn b (by rw [g.cb];decide))) (i:=12) v'
 ·rcases List.mem_append.1 hz with e | e
  ·exact g.ans.kept FA (fun k hk=>by have:=hA k hk;omega) z e
  ·simp only [List.mem_singleton] at e;subst e;rw [hx.1,hx.2];exact ⟨Sq.nil _,fun hne=>absurd rfl hne⟩
end
structure qaa (N:Nat) (len:Nat) (x:Th):Prop where
 n0:0<=x.next
 n1:x.next<=(len:Int)
 s0:0<=x.scans/\x.scans<=x.next
 p:∀ y,x.p=some y->V9 N y
 g:∀ y,x.g=some y->q7o y/\(y.over=true->y.l≠none)
 s:∀ y,x.s=some y->Y1 N y
structure MInv (N:Nat) (m:Mc):Prop where
 c:m.c.Ok
 tl:(m.t.length:Int)=m.c.t
 ol:m.ops.length<=8
 rl:∀ r,r∈m.ops->r.length<=1000/\∀ o:O,o∈r->0<=o.2.1/\o.2.1<=63
 th:∀ (i:Nat) (x:Th),m.t[i]? = some x->qaa N (m.opsOf (i:Int)).length x
 busy:∀ (i:Nat) (x:Th),m.t[i]? = some x->x.busy=true->(x.p≠none\/x.g≠none\/x.s≠none)/\∃ k,m.event (i:Int) (x.next - 1)=some k
 el:m.e.length<=N
 now:0<=m.now/\m.now<=N
 idle:0<=m.idle/\m.idle<=N
 tk:m.ticks.length<=N
 es:∀ x,x∈m.e->0<=x.steps/\x.steps<=N
theorem Y1.more {N:Nat} {x:Sn} (k:Y1 N x):Y1 (N+1) x:=⟨k.c,k.kc,k.kt,k.t0,k.lo,k.w,k.w1,k.l,k.l1,qh k.n Lb⟩
theorem V9.le {N M:Nat} {x:Pt} (h:V9 N x) (hl:N<=M):V9 M x:=Ep
theorem Y1.le {N M:Nat} {x:Sn} (h:Y1 N x) (hl:N<=M):Y1 M x:=Ep
theorem qaa.more {N len:Nat} {x:Th} (h:qaa N len x):qaa (N+1) len x:=⟨h.n0,h.n1,h.s0,fun y e=>(h.p y e).more,h.g,fun y e=>(h.s y e).more⟩
theorem q5v {g:Gt} (h:g.over=true->g.l≠none) (s:St):(g.step s).1.over=true->(g.step s).1.l≠none:=by
 unfold Gt.step;split
 ·exact h
 ·rename_i ho;split
  ·intro _;simp
  ·split
   ·intro _;simp
   ·intro e;exact absurd e ho
theorem Kq {α:Type} {p:α->Bool}:∀ {l l':List α},l.map p=l'.map p->l.findIdx? p=l'.findIdx? p
 | [],[],_=>rfl
 | [],_ :: _,h=>by simp at h
 | _ :: _,[],h=>by simp at h
 | x :: l,y :: l',h=>by
  simp only [List.map_cons,List.cons.injEq] at h;rw [List.findIdx?_cons,List.findIdx?_cons,h.1,Kq h.2]
theorem Rl {α β:Type} {p:α->β} {l:List α} {k:Nat} {x v:α} (hk:l[k]? = some x) (hv:p v=p x):(l.set k v).map p=l.map p:=by
 rw [List.map_set];have:(l.map p)[k]? = some (p v):=by rw [List.getElem?_map,hk,hv];rfl
 obtain ⟨hi,e⟩:=List.getElem?_eq_some_iff.1 this;rw [<- e];exact List.set_getElem_self hi
theorem q04 {l:List Ev} {k:Nat} {x v:Ev} (t i:Int) (hk:l[k]? = some x) (h1:v.th=x.th) (h2:v.ix=x.ix):(l.set k v).findIdx? (fun z=>z.th == t && z.ix == i)=l.findIdx? (fun z=>z.th == t && z.ix == i) :=
 Kq (Rl hk (by simp only [h1,h2]))
theorem q4y {l:List Ev} {k:Nat} {v:Ev} (t i:Int) (h:l.findIdx? (fun z=>z.th == t && z.ix == i)=some k):(l++[v]).findIdx? (fun z=>z.th == t && z.ix == i)=some k:=by rw [List.findIdx?_append,h];rfl
theorem q6g {l:List Ev} {v:Ev} (t i:Int) (h1:v.th=t) (h2:v.ix=i):∃ k,(l++[v]).findIdx? (fun z=>z.th == t && z.ix == i)=some k:=by
 have h:((l++[v]).findIdx? (fun z=>z.th == t && z.ix == i)).isSome:=by rw [List.findIdx?_isSome];simp [h1,h2]
 exact Option.isSome_iff_exists.1 h
theorem Jk {l:List Ev} {k:Nat} {t i:Int} (h:l.findIdx? (fun z=>z.th == t && z.ix == i)=some k):∃ x,l[k]? = some x/\x.th=t/\x.ix=i:=by rw [List.findIdx?_eq_some_iff_getElem] at h;obtain ⟨hk,h1,-⟩:=h;simp only [Bool.and_eq_true,beq_iff_eq] at h1;exact ⟨l[k],List.getElem?_eq_getElem hk,h1⟩
theorem MInv.t8 {N:Nat} {m:Mc} (h:MInv N m):m.t.length<=8:=by have:=h.tl;have:=h.c.t8;omega
theorem MInv.opsl {N:Nat} {m:Mc} (h:MInv N m) (t:Int):(m.opsOf t).length<=1000:=by
 unfold Mc.opsOf;split
 ·simp
 ·by_cases hl:t.toNat<m.ops.length
  ·rw [List.getD_eq_getElem?_getD,List.getElem?_eq_getElem hl];exact (h.rl _ (List.getElem_mem hl)).1
  ·rw [List.getD_eq_getElem?_getD,List.getElem?_eq_none Lb];simp
theorem MInv.opk {N:Nat} {m:Mc} (h:MInv N m) (t:Int) {o:O} (ho:o∈m.opsOf t):0<=o.2.1/\o.2.1<=63:=by
 unfold Mc.opsOf at ho;split at ho
 ·simp at ho
 ·by_cases hl:t.toNat<m.ops.length
  ·rw [List.getD_eq_getElem?_getD,List.getElem?_eq_getElem hl] at ho;exact (h.rl _ (List.getElem_mem hl)).2 o ho
  ·rw [List.getD_eq_getElem?_getD,List.getElem?_eq_none Lb] at ho;simp at ho
theorem Jc {m:Mc} {t:Int} (h:m.over t=false):∃ (n:Nat) (x:Th),t=(n:Int)/\m.t[n]? = some x/\m.th t=x/\(x.busy=false->x.next<((m.opsOf t).length:Int)):=by
 unfold Mc.over at h;simp only [Bool.or_eq_false_iff,decide_eq_false_iff_not,Bool.and_eq_false_iff,Bool.not_eq_false'] at h;obtain ⟨⟨h1,h2⟩,h3⟩:=h;have hl:t.toNat<m.t.length:=by omega
 refine ⟨t.toNat,m.t[t.toNat],by omega,List.getElem?_eq_getElem hl,?_,fun hb=>?_⟩
 ·unfold Mc.th;rw [List.getD_eq_getElem?_getD,List.getElem?_eq_getElem hl];rfl
 ·have e:m.th t=m.t[t.toNat]:=by unfold Mc.th;rw [List.getD_eq_getElem?_getD,List.getElem?_eq_getElem hl];rfl
  rw [e] at h3;rcases h3 with h3 | h3
  ·rw [hb] at h3;cases h3
  ·omega
theorem Us {α:Type} {l:List α} {i:Nat} (d:α) (h:i<l.length):l.getD i d∈l:=by rw [List.getD_eq_getElem?_getD,List.getElem?_eq_getElem h];exact List.getElem_mem h
theorem q2f {N:Nat} {m:Mc} (h:MInv N m) {n:Nat} {x:Th} (hx:m.t[n]? = some x) (hn:x.next<((m.opsOf (n:Int)).length:Int)):qaa (N+1) (m.opsOf (n:Int)).length (m.begun (n:Int))/\(m.begun (n:Int)).busy=true/\(m.begun (n:Int)).next=x.next+1/\((m.begun (n:Int)).p≠none\/(m.begun (n:Int)).g≠none\/(m.begun (n:Int)).s≠none):=by
 have ht:=h.th n x hx;have h0:=ht.n0;have hl8:=h.t8;have hnl:=(List.getElem?_eq_some_iff.1 hx).1;have e:m.th (n:Int)=x:=by unfold Mc.th;rw [Int.toNat_natCast,List.getD_eq_getElem?_getD,hx];rfl
 have hk:=h.opk (n:Int) (Us (l:=m.opsOf (n:Int)) (i:=x.next.toNat) (0,0,0,0) Lb);unfold Mc.begun;rw [e];simp only;generalize (m.opsOf (n:Int)).getD x.next.toNat (0,0,0,0)=o at *;have hs:=ht.s0;split
 ·exact Cq
 ·split
  ·exact Cq
  ·split
   ·exact ⟨⟨by simp only;omega,by simp only;omega,by simp only;omega,fun y e=>Lr,fun y e=>by cases e;exact ⟨q7o.new h.c hk,fun e=>by simp [Gt.new] at e⟩,fun y e=>Lr⟩,rfl,rfl,.inr (.inl Lc)⟩
   ·exact ⟨⟨by simp only;omega,by simp only;omega,by simp only;omega,fun y e=>Lr,fun y e=>Lr,fun y e=>by cases e;exact (Y1.new h.c ⟨by omega,by omega⟩ hk).le Lb⟩,rfl,rfl,.inr (.inr Lc)⟩
theorem MInv.begins {N:Nat} {m:Mc} (h:MInv N m) {n:Nat} {x:Th} (hx:m.t[n]? = some x) (hn:x.next<((m.opsOf (n:Int)).length:Int)):MInv (N+1) (m.begins (n:Int)):=by
 obtain ⟨b1,b2,b3,b4⟩:=q2f h hx hn;have e:m.th (n:Int)=x:=by unfold Mc.th;rw [Int.toNat_natCast,List.getD_eq_getElem?_getD,hx];rfl
 have hnl:=(List.getElem?_eq_some_iff.1 hx).1;have ho:∀ t,(m.begins (n:Int)).opsOf t=m.opsOf t:=fun t=>rfl
 have:=h.now;have:=h.idle;have:=h.tk;have:=h.el;unfold Mc.begins at *;simp only [e] at *;refine ⟨h.c,by simpa using h.tl,h.ol,h.rl,fun i y hy=>?_,fun i y hy hb=>?_,by simp;omega,by simp only;omega,by simp only;omega,by simp only;omega,fun z hz=>?_⟩
 ·simp only [Int.toNat_natCast] at hy;rw [ho];by_cases hi:i=n
  ·subst hi;rw [List.getElem?_set_self hnl] at hy;cases hy;exact b1
  ·exact Gp
 ·simp only [Int.toNat_natCast] at hy;by_cases hi:i=n
  ·subst hi;rw [List.getElem?_set_self hnl] at hy;cases hy;refine ⟨b4,?_⟩;rw [b3];unfold Mc.event;exact q6g _ _ rfl Lc
  ·rw [List.getElem?_set_ne (fun e=>hi e.symm)] at hy;obtain ⟨k1,k,k2⟩:=h.busy i y hy hb;exact ⟨k1,k,q4y _ _ k2⟩
 ·rcases List.mem_append.1 hz with hz | hz
  ·have:=h.es z hz;omega
  ·rw [List.mem_singleton.1 hz];simp only;omega
theorem MInv.turn {N:Nat} {m:Mc} (h:MInv N m) {n k:Nat} {x x':Th} {v v':Ev} (hx:m.t[n]? = some x) (hv:m.e[k]? = some v) (hx':qaa (N+1) (m.opsOf (n:Int)).length x') (hn:x'.next=x.next) (hb:x'.busy=true->x.busy=true/\(x'.p≠none\/x'.g≠none\/x'.s≠none)) (h1:v'.th=v.th) (h2:v'.ix=v.ix) (h3:0<=v'.steps/\v'.steps<=N+1) (s:St):MInv (N+1) { m with a:=s,t:=m.t.set n x',e:=m.e.set k v' }:=by
 have hnl:=(List.getElem?_eq_some_iff.1 hx).1;have:=h.now;have:=h.idle;have:=h.tk;have:=h.el;refine ⟨h.c,by simpa using h.tl,h.ol,h.rl,fun i y hy=>?_,fun i y hy hb'=>?_,by simp;omega,by simp only;omega,by simp only;omega,by simp only;omega,fun z hz=>?_⟩
 ·simp only at hy;show qaa (N+1) (m.opsOf (i:Int)).length y;by_cases hi:i=n
  ·subst hi;rw [List.getElem?_set_self hnl] at hy;cases hy;exact hx'
  ·exact Gp
 ·simp only at hy;unfold Mc.event;simp only;rw [q04 _ _ hv h1 h2];by_cases hi:i=n
  ·subst hi;rw [List.getElem?_set_self hnl] at hy;cases hy;exact ⟨(hb hb').2,by rw [hn];exact (h.busy i x hx (hb hb').1).2⟩
  ·rw [List.getElem?_set_ne (fun e=>hi e.symm)] at hy;exact h.busy i y hy hb'
 ·rcases List.mem_or_eq_of_mem_set hz with hz | rfl
  ·have:=h.es z hz;omega
  ·exact h3
theorem MInv.steps {N:Nat} (hN:1<=N) {m:Mc} (h:MInv N m) {n k:Nat} {x:Th} {v:Ev} (hx:m.t[n]? = some x) (hv:m.e[k]? = some v):MInv (N+1) (m.steps (n:Int) k):=by
 have e:m.th (n:Int)=x:=by unfold Mc.th;rw [Int.toNat_natCast,List.getD_eq_getElem?_getD,hx];rfl
 have e2:m.e.getD k qa6=v:=by rw [List.getD_eq_getElem?_getD,hv];rfl
 have ht:=h.th n x hx;have hes:=h.es v (List.mem_of_getElem? hv);unfold Mc.steps;simp only [e,e2,Int.toNat_natCast]
 have hm:MInv (N+1) m:=by have:=h.turn (s:=m.a) hx hv ht.more rfl (fun hb=>⟨hb,(h.busy n x hx hb).1⟩) rfl rfl Lb;rw [Xn hx,Xn hv] at this;exact this
 split
 ·rename_i p hp;refine h.turn hx hv ?_ ?_ (fun hb=>?_) ?_ ?_ ?_ _
  ·exact ⟨ht.n0,ht.n1,ht.s0,fun y e=>by cases e;exact (ht.p p hp).step hN _,ht.g,fun y e=>(ht.s y e).more⟩
  ·rfl
  ·simp only [Bool.and_eq_true] at hb;exact ⟨hb.2,.inl Lc⟩
  ·split <;> (split <;> rfl)
  ·split <;> (split <;> rfl)
  ·split <;> (split <;> (simp only;omega))
 ·split
  ·rename_i g hg;refine h.turn hx hv ?_ ?_ (fun hb=>?_) ?_ ?_ ?_ _
   ·exact ⟨ht.n0,ht.n1,ht.s0,fun y e=>(ht.p y e).more,fun y e=>by cases e;exact ⟨(ht.g g hg).1.step _,q5v (ht.g g hg).2 _⟩,fun y e=>(ht.s y e).more⟩
   ·rfl
   ·simp only [Bool.and_eq_true] at hb;exact ⟨hb.2,.inr (.inl Lc)⟩
   ·split <;> rfl
   ·split <;> rfl
   ·split <;> (simp only;omega)
  ·split
   ·rename_i y hy;refine h.turn hx hv ?_ ?_ (fun hb=>?_) ?_ ?_ ?_ _
    ·exact ⟨ht.n0,ht.n1,ht.s0,fun y e=>(ht.p y e).more,ht.g,fun z e=>by cases e;exact (ht.s y hy).step _⟩
    ·rfl
    ·simp only [Bool.and_eq_true] at hb;exact ⟨hb.2,.inr (.inr Lc)⟩
    ·split <;> rfl
    ·split <;> rfl
    ·split <;> (simp only;omega)
   ·exact hm
theorem MInv.evs {N:Nat} {m:Mc} (h:MInv N m) {k:Nat} {v v':Ev} (hv:m.e[k]? = some v) (h1:v'.th=v.th) (h2:v'.ix=v.ix) (h3:v'.steps=v.steps):MInv N { m with e:=m.e.set k v' }:=by
 refine ⟨h.c,h.tl,h.ol,h.rl,h.th,fun i y hy hb=>?_,by simpa using h.el,h.now,h.idle,h.tk,fun z hz=>?_⟩
 ·unfold Mc.event;simp only;rw [q04 _ _ hv h1 h2];exact h.busy i y hy hb
 ·rcases List.mem_or_eq_of_mem_set hz with hz | rfl
  ·exact h.es z hz
  ·rw [h3];exact h.es v (List.mem_of_getElem? hv)
theorem MInv.ticked {N:Nat} {m:Mc} (h:MInv N m):MInv (N+1) { m with ticks:=m.ticks++[m.now] }:=by have:=h.now;have:=h.idle;have:=h.tk;have:=h.el;exact ⟨h.c,h.tl,h.ol,h.rl,fun i x e=>(h.th i x e).more,h.busy,by simp only;omega,by simp only;omega,by simp only;omega,by simp;omega,fun z hz=>by have:=h.es z hz;omega⟩
theorem MInv.more {N:Nat} {m:Mc} (h:MInv N m):MInv (N+1) m:=by have:=h.now;have:=h.idle;have:=h.tk;have:=h.el;exact ⟨h.c,h.tl,h.ol,h.rl,fun i x e=>(h.th i x e).more,h.busy,by omega,by omega,by omega,by omega,fun z hz=>by have:=h.es z hz;omega⟩
theorem MInv.notes {N:Nat} {m:Mc} (h:MInv N m):MInv (N+1) m.notes:=by
 unfold Mc.notes;simp only
 have h1:MInv (N+1) (if m.a.a.kind=4/\m.a.a.at_=1 then { m with ticks:=m.ticks++[m.now] } else m):=by
  split
  ·exact h.ticked
  ·exact h.more
 generalize (if m.a.a.kind=4/\m.a.a.at_=1 then { m with ticks:=m.ticks++[m.now] } else m)=m1 at *;split
 ·split
  ·rename_i k hk;obtain ⟨v,hv,-,-⟩:=Jk hk;have e2:m1.e.getD k qa6=v:=by rw [List.getD_eq_getElem?_getD,hv];rfl
   rw [e2];exact h1.evs hv rfl rfl rfl
  ·exact h1
 ·exact h1
theorem MInv.pick {N:Nat} {m:Mc} (h:MInv N m) (t:Int):MInv (N+4) (m.pick t):=by
 unfold Mc.pick;have hm:=h.more.more.more.more;have hnw:=h.now;have hid:=h.idle;split
 ·exact ⟨hm.c,hm.tl,hm.ol,hm.rl,hm.th,hm.busy,hm.el,by simp only;omega,by simp only;omega,hm.tk,hm.es⟩
 ·rename_i ho;obtain ⟨n,x,rfl,hx,e,hb⟩:=Jc (by simpa using ho);simp only
  have h1:MInv (N+1) (if (m.th (n:Int)).busy=true then m else m.begins (n:Int)):=by
   split
   ·exact h.more
   ·rename_i hb';rw [e] at hb';exact h.begins hx (hb (by simpa using hb'))
  generalize hm1:(if (m.th (n:Int)).busy=true then m else m.begins (n:Int))=m1 at *;have hnw1:m1.now=m.now:=by rw [<- hm1];split <;> rfl
  have hl1:m1.t.length=m.t.length:=by rw [<- hm1];split;rfl;simp [Mc.begins]
  have hnl:=(List.getElem?_eq_some_iff.1 hx).1;split
  ·rename_i k hk;obtain ⟨v,hv,-,-⟩:=Jk hk;have hx1:m1.t[n]? = some m1.t[n]:=List.getElem?_eq_getElem Lb;have h2:=h1.steps Lb hx1 hv;generalize hm2:m1.steps (n:Int) k=m2 at *
   have h3:MInv (N+3) (if m1.a.n<m2.a.n then m2.notes else m2):=by
    split
    ·exact h2.notes
    ·exact h2.more
   have hnw3:(if m1.a.n<m2.a.n then m2.notes else m2).now=m.now:=by
    have e2:m2.now=m.now:=by rw [<- hm2,<- hnw1];unfold Mc.steps;simp only;exact L9
    split
    ·unfold Mc.notes;simp only;split
     ·split
      ·simp only;split <;> exact e2
      ·split <;> exact e2
     ·split <;> exact e2
    ·exact e2
   generalize (if m1.a.n<m2.a.n then m2.notes else m2)=m3 at *;have h4:=h3.more;exact ⟨h4.c,h4.tl,h4.ol,h4.rl,h4.th,h4.busy,h4.el,by simp only;omega,h4.idle,h4.tk,h4.es⟩
  ·exact h1.more.more.more
def Vs (N0:Nat->Prop) (w:World) (b:Nat) (m':Mc) (v:Value) (e:Ending) (w':World):Prop:=e = .returned v/\(∃ own' y',jc N0 own' w' b m' y')/\FrO N0 w w'
section
variable {N0:Nat->Prop} {own:Nat->Nat} {w:World} {b:Nat} {m:Mc} {y:Lay}
theorem Jl.num {R B:List Nat} {x:Th} {z:Tv} (h:Jl w R B x z) (n:Int) (u:Bool) (s:Int):Jl w R B { x with next:=n,busy:=u,scans:=s } { z with next:=n,busy:=u,scans:=s }:=⟨⟨rfl,rfl,rfl⟩,h.2⟩
theorem Jl.nilP {R B:List Nat} {x:Th} {z:Tv} (h:Jl w R B x z):∃ B',Jl w R B' { x with p:=none } { z with pp:=none } /\ ∀ k,k∈B'->k∈B:=by
 obtain ⟨h0,⟨p,b,e1,e2,e3,e4,e5,e6,h⟩ | ⟨p,b,e1,e2,e3,e4,e5,e6,h⟩ | ⟨p,b,e1,e2,e3,e4,e5,e6,h⟩ | ⟨e1,e2,e3,e4,e5,e6,h⟩⟩:=h
 ·exact ⟨[],⟨h0,.inr (.inr (.inr ⟨rfl,e2,e3,rfl,e5,e6,rfl⟩))⟩,by simp⟩
 ·exact ⟨B,⟨h0,.inr (.inl ⟨p,b,rfl,e2,e3,rfl,e5,e6,h⟩)⟩,fun k hk=>hk⟩
 ·exact ⟨B,⟨h0,.inr (.inr (.inl ⟨p,b,rfl,e2,e3,rfl,e5,e6,h⟩))⟩,fun k hk=>hk⟩
 ·exact ⟨B,⟨h0,.inr (.inr (.inr ⟨rfl,e2,e3,rfl,e5,e6,h⟩))⟩,fun k hk=>hk⟩
theorem Jl.nilG {R B:List Nat} {x:Th} {z:Tv} (h:Jl w R B x z):∃ B',Jl w R B' { x with g:=none } { z with gp:=none } /\ ∀ k,k∈B'->k∈B:=by
 obtain ⟨h0,⟨p,b,e1,e2,e3,e4,e5,e6,h⟩ | ⟨p,b,e1,e2,e3,e4,e5,e6,h⟩ | ⟨p,b,e1,e2,e3,e4,e5,e6,h⟩ | ⟨e1,e2,e3,e4,e5,e6,h⟩⟩:=h
 ·exact ⟨B,⟨h0,.inl ⟨p,b,e1,rfl,e3,e4,rfl,e6,h⟩⟩,fun k hk=>hk⟩
 ·exact ⟨[],⟨h0,.inr (.inr (.inr ⟨e1,rfl,e3,e4,rfl,e6,rfl⟩))⟩,by simp⟩
 ·exact ⟨B,⟨h0,.inr (.inr (.inl ⟨p,b,e1,rfl,e3,e4,rfl,e6,h⟩))⟩,fun k hk=>hk⟩
 ·exact ⟨B,⟨h0,.inr (.inr (.inr ⟨e1,rfl,e3,e4,rfl,e6,h⟩))⟩,fun k hk=>hk⟩
theorem Jl.nilS {R B:List Nat} {x:Th} {z:Tv} (h:Jl w R B x z):∃ B',Jl w R B' { x with s:=none } { z with sp:=none } /\ ∀ k,k∈B'->k∈B:=by
 obtain ⟨h0,⟨p,b,e1,e2,e3,e4,e5,e6,h⟩ | ⟨p,b,e1,e2,e3,e4,e5,e6,h⟩ | ⟨p,b,e1,e2,e3,e4,e5,e6,h⟩ | ⟨e1,e2,e3,e4,e5,e6,h⟩⟩:=h
 ·exact ⟨B,⟨h0,.inl ⟨p,b,e1,e2,rfl,e4,e5,rfl,h⟩⟩,fun k hk=>hk⟩
 ·exact ⟨B,⟨h0,.inr (.inl ⟨p,b,e1,e2,rfl,e4,e5,rfl,h⟩)⟩,fun k hk=>hk⟩
 ·exact ⟨[],⟨h0,.inr (.inr (.inr ⟨e1,e2,rfl,e4,e5,rfl,rfl⟩))⟩,by simp⟩
 ·exact ⟨B,⟨h0,.inr (.inr (.inr ⟨e1,e2,rfl,e4,e5,rfl,h⟩))⟩,fun k hk=>hk⟩
theorem jc.thK (h:jc N0 own w b m y) {n:Nat} {x:Th} {z:Tv} (hx:m.t[n]? = some x) (hz:y.ts[n]? = some z) (w':World) (F:Fr [y.tb] w w'):∃ B,Jl w' y.R B x z/\∀ k,k∈B->own k=n+6:=by obtain ⟨B,h1,h2⟩:=h.thr n x z hx hz;have hct:=h.ct;exact ⟨B,h1.kept F (fun k hk hi=>by simp at hi;subst hi;have:=h2 _ hk;omega) (fun k hk hi=>by simp at hi;subst hi;have:=h.R0 _ hk;omega),h2⟩
theorem jc.setT2 {x0:Th} {z0:Tv} {t j:Nat} (h:jc N0 own w b { m with t:=m.t.set t x0 } { y with ts:=y.ts.set t z0 }) (ht:t<m.t.length) {x':Th} {z':Tv} {u:Value} (hj:j<6) (hf:fTv z'=(fTv z0).set j u) (hx:∀ w',Fr [y.tb] w w'->∃ B,Jl w' y.R B x' z'/\∀ k,k∈B->own k=t+6) :
  jc N0 own (w.setCell ⟨y.tb,t * 6+j,none⟩ u) b { m with t:=m.t.set t x' } { y with ts:=y.ts.set t z' } /\ FrO N0 w (w.setCell ⟨y.tb,t * 6+j,none⟩ u):=by
 have hz:(y.ts.set t z0)[t]? = some z0:=List.getElem?_set_self (by have:=h.thl;simp at this;omega);obtain ⟨h1,h2⟩:=h.setT (t:=t) (x':=x') hz hj hf hx;simp only [List.set_set] at h1;exact ⟨h1,h2⟩
theorem jc.thK2 {x0:Th} {z0:Tv} {t:Nat} (h:jc N0 own w b { m with t:=m.t.set t x0 } { y with ts:=y.ts.set t z0 }) (ht:t<m.t.length) (w':World) (F:Fr [y.tb] w w'):∃ B,Jl w' y.R B x0 z0/\∀ k,k∈B->own k=t+6 :=
 h.thK (List.getElem?_set_self ht) (List.getElem?_set_self (by have:=h.thl;simp at this;omega)) w' F
theorem jc.five (h:jc N0 own w b m y) {n:Nat} {x:Th} {z:Tv} (hx:m.t[n]? = some x) (hz:y.ts[n]? = some z) :
  jc N0 own (((((w.setCell ⟨y.tb,n * 6+1,none⟩ (.bool true)).setCell ⟨y.tb,n * 6,none⟩ (.int .i64 (x.next+1))).setCell ⟨y.tb,n * 6+3,none⟩ (.pointer none)).setCell ⟨y.tb,n * 6+4,none⟩ (.pointer none)).setCell ⟨y.tb,n * 6+5,none⟩ (.pointer none)) b { m with t:=m.t.set n ⟨x.next+1,true,x.scans,none,none,none⟩ } { y with ts:=y.ts.set n ⟨x.next+1,true,x.scans,none,none,none⟩ } /\
   Fr [y.tb] w (((((w.setCell ⟨y.tb,n * 6+1,none⟩ (.bool true)).setCell ⟨y.tb,n * 6,none⟩ (.int .i64 (x.next+1))).setCell ⟨y.tb,n * 6+3,none⟩ (.pointer none)).setCell ⟨y.tb,n * 6+4,none⟩ (.pointer none)).setCell ⟨y.tb,n * 6+5,none⟩ (.pointer none)):=by
 have hn:=(List.getElem?_eq_some_iff.1 hx).1;obtain ⟨e1,e2,e3⟩:=(h.thr n x z hx hz).choose_spec.1.1;have hm:w.setCell ⟨y.tb,n * 6,none⟩ (.int .i64 (x.next+1))=w.setCell ⟨y.tb,n * 6+0,none⟩ (.int .i64 (x.next+1)):=rfl;obtain ⟨h1,-⟩:=h.setT (t:=n) (j:=1) (u:=.bool true) (x':={ x with next:=x.next,busy:=true,scans:=x.scans }) (z':={ z with next:=x.next,busy:=true,scans:=x.scans }) hz Lg (by simp [fTv,e1,e3]) (fun w' F=>by obtain ⟨B,k1,k2⟩:=h.thK hx hz w' F;exact ⟨B,k1.num _ _ _,k2⟩);obtain ⟨h2,-⟩:=h1.setT2 hn (j:=0) (u:=.int .i64 (x.next+1)) (x':={ x with next:=x.next+1,busy:=true,scans:=x.scans }) (z':={ z with next:=x.next+1,busy:=true,scans:=x.scans }) Lg (by simp [fTv]) (fun w' F=>by obtain ⟨B,k1,k2⟩:=h1.thK2 hn w' F;exact ⟨B,k1.num _ _ _,k2⟩);obtain ⟨h3,-⟩:=h2.setT2 hn (j:=3) (u:=.pointer none) (x':={ x with next:=x.next+1,busy:=true,scans:=x.scans,p:=none }) (z':={ z with next:=x.next+1,busy:=true,scans:=x.scans,pp:=none }) Lg Nv (fun w' F=>by obtain ⟨B,k1,k2⟩:=h2.thK2 hn w' F;obtain ⟨B',k3,k4⟩:=k1.nilP;exact ⟨B',k3,fun k hk=>k2 k (k4 k hk)⟩);obtain ⟨h4,-⟩:=h3.setT2 hn (j:=4) (u:=.pointer none) (x':={ x with next:=x.next+1,busy:=true,scans:=x.scans,p:=none,g:=none }) (z':={ z with next:=x.next+1,busy:=true,scans:=x.scans,pp:=none,gp:=none }) Lg Nv (fun w' F=>by obtain ⟨B,k1,k2⟩:=h3.thK2 hn w' F;obtain ⟨B',k3,k4⟩:=k1.nilG;exact ⟨B',k3,fun k hk=>k2 k (k4 k hk)⟩);obtain ⟨h5,-⟩:=h4.setT2 hn (j:=5) (u:=.pointer none) (x':={ x with next:=x.next+1,busy:=true,scans:=x.scans,p:=none,g:=none,s:=none }) (z':={ z with next:=x.next+1,busy:=true,scans:=x.scans,pp:=none,gp:=none,sp:=none }) Lg Nv (fun w' F=>by obtain ⟨B,k1,k2⟩:=h4.thK2 hn w' F;obtain ⟨B',k3,k4⟩:=k1.nilS;exact ⟨B',k3,fun k hk=>k2 k (k4 k hk)⟩);exact ⟨h5,((((Fr.setCell _ Lc).setCell' _ Lc).setCell' _ Lc).setCell' _ Lc).setCell' _ Lc⟩
end
end Go.Proofs.YtleclbldlladmaaGreat.Mx
