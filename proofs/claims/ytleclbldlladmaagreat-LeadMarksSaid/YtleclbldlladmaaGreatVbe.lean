/- Parts. -/
import Derived.Test.YtleclbldlladmaaGreatVbc
import Derived.Test.YtleclbldlladmaaGreatVbd
set_option linter.unusedVariables false
set_option linter.unusedSimpArgs false
set_option maxRecDepth 100000
set_option maxHeartbeats 12800000
namespace Go.Proofs.YtleclbldlladmaaGreat.Mx
open Go.RowKit Ar Ref Og Mp
structure q3s (w:World) (s:Value) (c:Cf) (rs:List (List O)) (ps ds:List Int) (ov pv dv:Value) (ss:List Sv) (R:List Nat):Prop where
 val:s = .agg #[.int .i64 c.t,.int .i64 c.c,.int .i64 c.wd,.int .i64 c.v,ov,pv,dv]
 scr:Scr w s c.t c.c c.wd c.v rs ps ds
 rows:Sb w R ov ss rs
 dr:Sq fI w dv ds
 drR:ds≠[]->∀ k,k∈dv.ownBlock.toList->k∈R
 pk:Sq fI w pv ps
 lt:∀ k,k∈R->k<w.heap.size
theorem q3s.up {w w':World} {s:Value} {c:Cf} {rs:List (List O)} {ps ds:List Int} {ov pv dv:Value} {ss:List Sv} {R:List Nat} (h:q3s w s c rs ps ds ov pv dv ss R) (F:Fr [] w w'):q3s w' s c rs ps ds ov pv dv ss R :=
 ⟨h.val,h.scr.up F,h.rows.kept F Lc,h.dr.up F,h.drR,h.pk.up F,fun k hk=>qj (h.lt k hk) F.size⟩
def Mc.new (c:Cf) (rs:List (List O)) (ds:List Int):Mc:=⟨c,rs,ds,Pl.begun c.t c.c c.wd,List.replicate c.t.toNat Th.new,0,0,[],[]⟩
theorem qbz {c:Cf} {rs:List (List O)} {ps:List Int} (h:Zj c.t c.c c.wd c.v rs ps=0):c.Ok/\Pl.form c.t c.c c.wd c.v=true/\large c.t rs ps=false/\rs.all qco=true:=by
 unfold Zj at h;split at h
 ·rename_i h0;unfold Pl.code at h0;split at h0
  ·rename_i hf;split at h0
   ·rename_i ht;split at h
    ·cases h
    rename_i hl;split at h
    ·rename_i ha;obtain ⟨t1,t2,c1,c2,v1,v2,w1,w2⟩:=Pl.Zv.1 hf;exact ⟨⟨t1,t2,c1,c2,w1,w2,v1,v2,ht⟩,hf,by simpa using hl,ha⟩
    cases h
   cases h0
  cases h0
 ·rename_i h0;exact absurd h h0
theorem qc2 {o:O} (h:qbv o=true):0<=o.2.1/\o.2.1<=63:=by
 have hk:∀ ky,Ro.Tq ky=true->0<=ky/\ky<=63:=fun ky h=>by unfold Ro.Tq at h;simpa using h
 unfold qbv at h;by_cases h1:o.1=1
 ·rw [h1,Ro.qdj] at h;simp only [Bool.and_eq_true] at h;exact hk _ h.1
 ·by_cases h2:o.1=2\/o.1=3
  ·rw [Ro.q1h _ _ _ _ h2] at h;simp only [Bool.and_eq_true] at h;exact hk _ h.1
  by_cases h4:o.1=4
  ·rw [h4,Ro.qdn] at h;simp only [Bool.and_eq_true] at h;exact hk _ h.1
  rw [Ro.fit0 _ _ _ _ ⟨h1,fun e=>h2 (.inl e),fun e=>h2 (.inr e),h4⟩] at h;cases h
theorem q7z {c:Cf} {rs:List (List O)} {ps:List Int} (ds:List Int) (h:Zj c.t c.c c.wd c.v rs ps=0):MInv 1 (Mc.new c rs ds):=by
 obtain ⟨hc,-,hl,ha⟩:=qbz h
 have hl2:(rs.length:Int)<=c.t/\rs.any long=false:=by unfold large at hl;simp only [Bool.or_eq_false_iff,decide_eq_false_iff_not] at hl;exact ⟨by omega,hl.2.2⟩
 have h8:=hc.t8;have h1:=hc.t1
 have hth:∀ (i:Nat) (x:Th),(Mc.new c rs ds).t[i]? = some x->x=Th.new:=fun i x hx=>by
  unfold Mc.new at hx;simp only [List.getElem?_replicate] at hx;split at hx
  ·exact (qi hx).symm
  ·cases hx
 refine ⟨hc,by unfold Mc.new;simp;omega,by unfold Mc.new;simp only;omega,fun r hr=>⟨?_,fun o ho=>?_⟩,fun i x hx=>?_,fun i x hx hb=>?_,by simp [Mc.new],by simp [Mc.new],by simp [Mc.new],by simp [Mc.new],fun x hx=>by simp [Mc.new] at hx⟩
 ·have:=List.any_eq_false.1 hl2.2 r hr;unfold long at this;simpa using this
 ·exact qc2 (List.all_eq_true.1 (by have:=List.all_eq_true.1 ha r hr;unfold qco at this;exact this) o ho)
 ·rw [hth i x hx];exact ⟨by simp [Th.new],by simp [Th.new],by simp [Th.new],fun y e=>Lr,fun y e=>Lr,fun y e=>Lr⟩
 ·rw [hth i x hx] at hb;cases hb
def tv0:Tv:=⟨0,false,0,none,none,none⟩
theorem q7q:(madeCells (Value.agg #[.int .i64 0,.bool false,.int .i64 0,.pointer none,.pointer none,.pointer none]).cells (0 * 6)).toList=(List.replicate 0 tv0).flatMap fTv:=by kernel_rfl
theorem q8e:(madeCells (Value.agg #[.int .i64 0,.bool false,.int .i64 0,.pointer none,.pointer none,.pointer none]).cells (1 * 6)).toList=(List.replicate 1 tv0).flatMap fTv:=by kernel_rfl
theorem q8a:(madeCells (Value.agg #[.int .i64 0,.bool false,.int .i64 0,.pointer none,.pointer none,.pointer none]).cells (2 * 6)).toList=(List.replicate 2 tv0).flatMap fTv:=by kernel_rfl
theorem q8g:(madeCells (Value.agg #[.int .i64 0,.bool false,.int .i64 0,.pointer none,.pointer none,.pointer none]).cells (3 * 6)).toList=(List.replicate 3 tv0).flatMap fTv:=by kernel_rfl
theorem q8k:(madeCells (Value.agg #[.int .i64 0,.bool false,.int .i64 0,.pointer none,.pointer none,.pointer none]).cells (4 * 6)).toList=(List.replicate 4 tv0).flatMap fTv:=by kernel_rfl
theorem q8u:(madeCells (Value.agg #[.int .i64 0,.bool false,.int .i64 0,.pointer none,.pointer none,.pointer none]).cells (5 * 6)).toList=(List.replicate 5 tv0).flatMap fTv:=by kernel_rfl
theorem q87:(madeCells (Value.agg #[.int .i64 0,.bool false,.int .i64 0,.pointer none,.pointer none,.pointer none]).cells (6 * 6)).toList=(List.replicate 6 tv0).flatMap fTv:=by kernel_rfl
theorem q97:(madeCells (Value.agg #[.int .i64 0,.bool false,.int .i64 0,.pointer none,.pointer none,.pointer none]).cells (7 * 6)).toList=(List.replicate 7 tv0).flatMap fTv:=by kernel_rfl
theorem q8x:(madeCells (Value.agg #[.int .i64 0,.bool false,.int .i64 0,.pointer none,.pointer none,.pointer none]).cells (8 * 6)).toList=(List.replicate 8 tv0).flatMap fTv:=by kernel_rfl
theorem q5t (n:Nat) (h:n<=8):(madeCells (Value.agg #[.int .i64 0,.bool false,.int .i64 0,.pointer none,.pointer none,.pointer none]).cells (n * 6)).toList=(List.replicate n tv0).flatMap fTv:=by
 match n,h with
 | 0,_=>exact q7q
 | 1,_=>exact q8e
 | 2,_=>exact q8a
 | 3,_=>exact q8g
 | 4,_=>exact q8k
 | 5,_=>exact q8u
 | 6,_=>exact q87
 | 7,_=>exact q97
 | 8,_=>exact q8x
theorem Rn {w:World} {B g n sz:Nat} {E:TypeId} {xs:List Value} (h:w.ownsRow B E sz (.slice (some ⟨g,0,none⟩) n n) n xs):w.heap[g]? = some (.cells xs.toArray E (0,0)):=by
 obtain ⟨h1,h2⟩:=h;rcases h2 with ⟨e,-⟩ | ⟨g',cap,cur,e,hB,hh,hc1,hc2,hs,ht⟩
 ·simp at e
 ·simp only [Value.slice.injEq,Option.some.injEq,Addr.mk.injEq,true_and] at e;obtain ⟨⟨rfl,-⟩,rfl⟩:=e;rw [hh];have:cur.toList=xs:=by rw [<- ht,List.take_of_length_le Ll]
  rw [<- this]
theorem qas {w w':World} {c:Cf} {rs:List (List O)} {ps ds:List Int} {ov pv dv:Value} {ss:List Sv} {R:List Nat} {s:Value} {b p q tb:Nat} (hS:q3s w s c rs ps ds ov pv dv ss R) (h0:Zj c.t c.c c.wd c.v rs ps=0) (F:Fr [] w w') (hO:qa7 w' b (Mc.new c rs ds) ov pv dv p (.slice (some ⟨tb,0,none⟩) c.t.toNat c.t.toNat) (.slice none 0 0) (.slice none 0 0)) (hA:Rar w' p q (Pl.begun c.t c.c c.wd)) (hT:Ob w' tb 93 ((List.replicate c.t.toNat tv0).flatMap fTv).toArray)
  (hb:w.heap.size<=b) (hp:w.heap.size<=p) (hq:w.heap.size<=q) (ht:w.heap.size<=tb) (hn:b≠p/\b≠q/\b≠tb/\p≠q/\p≠tb/\q≠tb) :
  ∃ own y,jc (Yq w.heap.size) own w' b (Mc.new c rs ds) y/\y.p=p/\y.q=q:=by
 obtain ⟨n1,n2,n3,n4,n5,n6⟩:=hn;have hc:=(qbz h0).1;have h8:=hc.t8
 have hz:∀ k,k∈R->(if k=b then 1 else if k=p then 2 else if k=q then 3 else if k=tb then 4 else 0)=0:=fun k hk=>by have:=hS.lt k hk;rw [qd Lb,qd Lb,qd Lb,qd Lb]
 refine ⟨fun k=>if k=b then 1 else if k=p then 2 else if k=q then 3 else if k=tb then 4 else 0,⟨R,ov,pv,dv,.slice none 0 0,.slice none 0 0,ss,p,q,tb,List.replicate c.t.toNat tv0,[]⟩,⟨?_,⟨hS.rows.kept F Lc,hS.dr.up F,hS.drR,fun k hk=>⟨hz k hk,qj (hS.lt k hk) F.size⟩⟩,hA,qf rfl,?_,?_,?_,hT,by simp [Mc.new],by simp [Mc.new];omega,fun i x z e1 e2=>?_,Sq.nil _,fun hne=>absurd rfl hne,⟨rfl,.inl ⟨rfl,rfl⟩⟩,fun k hk=>by simp [Value.ownBlock] at hk,rfl,fun x hx=>by simp at hx,fun k hk=>?_⟩,rfl,rfl⟩
 ·unfold Lay.tv;simp only [List.length_replicate];exact hO
 ·simp [Ne.symm n1]
 ·simp [Ne.symm n2,Ne.symm n4]
 ·simp [Ne.symm n3,Ne.symm n5,Ne.symm n6]
 ·have hx:x=Th.new:=by
   unfold Mc.new at e1;simp only [List.getElem?_replicate] at e1;split at e1
   ·exact (qi e1).symm
   ·cases e1
  have hzz:z=tv0:=by
   simp only [List.getElem?_replicate] at e2;split at e2
   ·exact (qi e2).symm
   ·cases e2
  rw [hx,hzz];exact ⟨[],⟨⟨rfl,rfl,rfl⟩,.inr (.inr (.inr ⟨rfl,rfl,rfl,rfl,rfl,rfl,rfl⟩))⟩,by simp⟩
 ·split at hk
  ·unfold Yq;omega
  split at hk
  ·unfold Yq;omega
  split at hk
  ·unfold Yq;omega
  split at hk
  ·unfold Yq;omega
  exact absurd rfl hk
theorem qdd:∃ i,Tryz.prog.info? 93=some i/\i.zero=some (.agg #[.int .i64 0,.bool false,.int .i64 0,.pointer none,.pointer none,.pointer none])/\i.size=6/\i.bytes=48:=by
 have h:=tvI;cases hi:Tryz.prog.info? 93 with
 | none=>rw [hi] at h;cases h
 | some i=>rw [hi] at h;simp only [Option.map_some,Option.some.injEq,Prod.mk.injEq] at h;exact ⟨i,rfl,h.1,h.2.1,h.2.2⟩
theorem W6 (c:Cf) (rs:List (List O)) (ps ds:List Int) (ov pv dv:Value) (ss:List Sv) (R:List Nat) (s:Value) (w:World) (hS:q3s w s c rs ps ds ov pv dv ss R) (h0:Zj c.t c.c c.wd c.v rs ps=0) :
  Calls Tryz.prog 24 #[s] w fun e w'=>∃ b own y,e = .returned (.tuple #[.pointer (some ⟨b,0,none⟩),.int .i64 0])/\jc (Yq w.heap.size) own w' b (Mc.new c rs ds) y/\Fr [] w w'/\w.heap.size<=b:=by
 obtain ⟨i,thI,thZ,thS,thB⟩:=qdd;obtain rfl:=hS.val;have HS:=q9 hS;have HC:=q9 h0;obtain ⟨hc,hfm,-,-⟩:=qbz h0;have HFM:=q9 hfm;have HTOP:=q9 (show 21+c.t+3 * c.c<=c.wd from hc.top);have HTN:=q9 (show c.t=((c.t.toNat:Nat):Int) by have:=hc.t1;omega);have HT8:=q9 (show c.t.toNat<=8 by have:=hc.t8;omega);obtain ⟨vo,vp,vd,hval,hr1,hp1,hd1⟩:=hS.scr;simp only [Value.agg.injEq,Array.mk.injEq,List.cons.injEq,and_true,true_and] at hval;obtain ⟨rfl,rfl,rfl⟩:=hval;obtain ⟨ao,co,hov,-,-,-⟩:=hS.rows.sq;obtain ⟨ap,cp,hpv,-,-,-⟩:=hS.pk;obtain ⟨ad,cd,hdv,-,-,-⟩:=hS.dr;subst hov hpv hdv;clear hr1 hp1 hd1 hfm hc hS h0;have F0:=(Fr.refl [] w).alloc (.cells #[.int .i64 c.t,.int .i64 c.c,.int .i64 c.wd,.int .i64 c.v,.slice ao ss.length co,.slice ap ps.length cp,.slice ad ds.length cd] 27);have o0:=Ob.new w 27 #[.int .i64 c.t,.int .i64 c.c,.int .i64 c.wd,.int .i64 c.v,.slice ao ss.length co,.slice ap ps.length cp,.slice ad ds.length cd];have HU:=q9 (HS.out.up F0);go_enter Tryz.func24,Tryz.ntmps24;go_wp2_with fail;generalize World.alloc w _=w0 at *;generalize w.heap.size=bs at o0 ⊢;refine (Ro.J4 c.t c.c c.wd c.v rs ps ds _ w0 HU.out.scr).mono ?_;rintro e w1 ⟨rfl,F1⟩;rw [HC.out];have HF:=q9 (F0.trans F1);replace o0:=Ob.up o0 F1;clear F1 F0;go_wp2_with fail;refine z7 Le [] (fun w2 F2=>?_);refine epq [true,true,true,false,true,true,true,false,false,false,false,false] 6 F2 ?_;apply qg;refine ⟨fun wf Ff=>?_,?_⟩
 ·have oF:=Ob.up o0 Ff;have k0:=qb (oF.cell (i:=0) rfl);have k1:=qb (oF.cell (i:=1) rfl);have k2:=qb (oF.cell (i:=2) rfl);have k3:=qb (oF.cell (i:=3) rfl);have k4:=qb (oF.cell (i:=4) rfl);have k5:=qb (oF.cell (i:=5) rfl);have k6:=qb (oF.cell (i:=6) rfl);exact Ab
 refine jd [3,7] Le Lc (fun w3 F3 j hj o ho=>?_);have E:=F2.trans F3;clear F2 F3 o0;simp only [List.mem_cons,List.not_mem_nil,or_false] at hj;rcases hj with rfl | rfl
 focus
  obtain rfl:=qi ho
  go_wp2_with fail
  refine (q2p c.t c.c c.wd c.v HFM.out HTOP.out w3).mono ?_;rintro e w4 ⟨p,q,rfl,hp,hq,A,F4⟩
  have hp1:=qh E.size hp
  have hq1:=qh E.size hq
  have hpq:=A.ne
  replace E:=E.trans F4
  clear F4 ho hp hq
  go_wp2_with fail
  refine ql ⟨E,?_⟩
  refine eoq 7 (fun w5 F5=>?_)
  replace E:=E.trans F5
  replace A:=A.kept F5
  clear F5
  go_wp2_with (refine wpList_make_full w5 rfl _ _ 58 rfl 0 93 _ _ 6 Tryz.underlying58 thI thZ thS .i64 .i64 c.t c.t c.t.toNat rfl rfl HTN.out HTN.out (by rw [thB];have:=HT8.out;omega) (by have:=HT8.out;unfold maxLen;omega) (Nat.zero_le _) ?_;intro w6 hown hgr)
  have htb:w1.heap.size<=w5.heap.size:=E.size
  have hlt5:=A.lt
  have B:=Rn hown
  rw [q5t _ HT8.out] at B
  have F6:=Fr.grown hgr
  replace E:=E.trans F6
  replace A:=A.kept F6
  clear F6 hown hgr
  generalize w5.heap.size=tb at *
  have HPQ:=q9 (show p≠q/\p≠tb/\q≠tb from ⟨hpq,by omega,by omega⟩)
  clear hpq hlt5
 rotate_left
 focus
  obtain rfl:=qi ho
  go_wp2_with (refine wpList_make_full w3 rfl _ _ 58 rfl 0 93 _ _ 6 Tryz.underlying58 thI thZ thS .i64 .i64 c.t c.t c.t.toNat rfl rfl HTN.out HTN.out (by rw [thB];have:=HT8.out;omega) (by have:=HT8.out;unfold maxLen;omega) (Nat.zero_le _) ?_;intro w4 hown hgr)
  have htb:w1.heap.size<=w3.heap.size:=E.size
  have B:=Rn hown
  rw [q5t _ HT8.out] at B
  have F4:=Fr.grown hgr
  replace E:=E.trans F4
  clear F4 hown hgr ho
  generalize w3.heap.size=tb at *
  refine ql ⟨E,?_⟩
  refine eoq 3 (fun w5 F5=>?_)
  replace E:=E.trans F5
  replace B:=F5.heap B Lc
  clear F5
  go_wp2_with fail
  refine (q2p c.t c.c c.wd c.v HFM.out HTOP.out w5).mono ?_;rintro e w6 ⟨p,q,rfl,hp,hq,A,F6⟩
  have hp1:=qh E.size hp
  have hq1:=qh E.size hq
  have hpq:=A.ne
  have hbl:=(Array.getElem?_eq_some_iff.1 B).1
  have HPQ:=q9 (show p≠q/\p≠tb/\q≠tb from ⟨hpq,by omega,by omega⟩)
  replace B:=F6.heap B Lc
  replace E:=E.trans F6
  clear F6 hp hq hpq hbl
  go_wp2_with fail
 rotate_left
 all_goals
  refine ql ⟨E,?_⟩
  refine eoq 8 (fun w11 F11=>?_)
  replace E:=E.trans F11
  replace A:=A.kept F11
  replace B:=F11.heap B Lc
  clear F11
  go_wp2_with fail
  refine ql ⟨E,?_⟩
  refine eoq 9 (fun w12 F12=>?_)
  replace E:=E.trans F12
  replace A:=A.kept F12
  replace B:=F12.heap B Lc
  clear F12
  go_wp2_with fail
  have FA:=(Fr.refl [] w12).alloc (.cells (McC (Mc.new c rs ds) (.slice ao ss.length co) (.slice ap ps.length cp) (.slice ad ds.length cd) p (.slice (some ⟨tb,0,none⟩) c.t.toNat c.t.toNat) (.slice none 0 0) (.slice none 0 0)) 61)
  have oM:qa7 _ w12.heap.size (Mc.new c rs ds) (.slice ao ss.length co) (.slice ap ps.length cp) (.slice ad ds.length cd) p (.slice (some ⟨tb,0,none⟩) c.t.toNat c.t.toNat) (.slice none 0 0) (.slice none 0 0):=Ob.new w12 61 _
  have hsz:w1.heap.size<=w12.heap.size/\tb<w12.heap.size/\p<w12.heap.size/\q<w12.heap.size:=⟨E.size,(Array.getElem?_eq_some_iff.1 B).1,A.lt.1,A.lt.2⟩
  replace A:=A.kept FA
  replace B:=FA.heap B Lc
  replace E:=E.trans FA
  unfold McC Mc.new at FA oM A B E
  simp only at FA oM A B E
  clear FA
  refine ql ⟨E,?_⟩
  refine eoq 10 (fun w13 F13=>?_)
  replace E:=E.trans F13
  replace A:=A.kept F13
  replace B:=F13.heap B Lc
  replace oM:=Ob.up oM F13
  clear F13
  generalize w12.heap.size=b at *
  go_wp2_with fail
  refine ql ⟨E,?_⟩
  refine eoq 11 (fun w14 F14=>?_)
  replace E:=E.trans F14
  replace A:=A.kept F14
  replace B:=F14.heap B Lc
  replace oM:=Ob.up oM F14
  clear F14
  go_wp2_with fail
  refine ql ⟨E,?_⟩
  refine zr Le (fun w15 F15=>?_)
  have HE:=q9 (qc (HF.out.trans (E.trans F15)) (qc (A.kept F15) (qc (F15.heap B Lc) (qc (Ob.up oM F15) hsz))))
  clear E A B oM F15 hsz
  go_wp2_with fail
  refine bodyPost_ret (v:=.tuple #[.pointer (some ⟨b,0,none⟩),.int .i64 0]) (by simp [results,Tryz.results24,go_sem]) rfl ?_
  obtain ⟨E,A,B,oM,s1,s2,s3,s4⟩:=HE.out
  have hw:=HF.out.size
  have hd:=HPQ.out
  obtain ⟨own,y,hM,e1,e2⟩:=qas (b:=b) (p:=p) (q:=q) (tb:=tb) HS.out HC.out E oM A B Lb Lb Lb Lb ⟨by omega,by omega,by omega,hd.1,hd.2.1,hd.2.2⟩
  exact ⟨b,own,y,rfl,hM,E,by omega⟩
theorem FrO.ob {N0:Nat->Prop} {w w':World} {b:Nat} {T:TypeId} {cs:Array Value} (h:FrO N0 w w') (ho:Ob w b T cs) (hb:¬ N0 b):Ob w' b T cs:=by obtain ⟨S,hS,F⟩:=h;exact Ob.kept ho F (fun hi=>hb (hS b hi))
theorem FrO.sq {α:Type} {f:α->List Value} {N0:Nat->Prop} {w w':World} {v:Value} {xs:List α} (h:FrO N0 w w') (hs:Sq f w v xs) (hb:xs≠[]->∀ k,k∈v.ownBlock.toList->¬ N0 k):Sq f w' v xs:=by obtain ⟨S,hS,F⟩:=h;exact hs.keptN F (fun hne g hg hi=>hb hne g hg (hS g hi))
def q7n (c:Cf) (rs:List (List O)) (ds:List Int) (ps:List Int):Mc:=ps.foldl Mc.pick (Mc.new c rs ds)
theorem q52 {c:Cf} {rs:List (List O)} {ds ps:List Int} {i:Nat} {p:Int} (h:ps[i]? = some p):q7n c rs ds (ps.take (i+1))=(q7n c rs ds (ps.take i)).pick p:=by unfold q7n;rw [List.take_add_one,h,Option.toList_some,List.foldl_append];rfl
theorem q2d {c:Cf} {rs:List (List O)} {ps0:List Int} (ds:List Int) (h0:Zj c.t c.c c.wd c.v rs ps0=0):∀ (ps:List Int) (N:Nat) (m:Mc),MInv N m->MInv (N+4 * ps.length) (ps.foldl Mc.pick m)
 | [],N,m,h=>h
 | p :: ps,N,m,h=>by
  have:=q2d ds h0 ps (N+4) (m.pick p) (h.pick p);rw [List.foldl_cons,List.length_cons,show N+4 * (ps.length+1)=N+4+4 * ps.length by omega];exact this
theorem q56 {c:Cf} {rs:List (List O)} {ps0:List Int} (ds:List Int) (h0:Zj c.t c.c c.wd c.v rs ps0=0) (ps:List Int):MInv (1+4 * ps.length) (q7n c rs ds ps):=q2d ds h0 ps 1 _ (q7z ds h0)
def PkAt (N0:Nat->Prop) (c:Cf) (rs:List (List O)) (ds ps:List Int) (b:Nat) (w1:World) (u:Value) (wr:World):Prop:=∃ i:Nat,i<=ps.length/\u = .int .i64 (i:Nat)/\(∃ own y,jc N0 own wr b (q7n c rs ds (ps.take i)) y)/\FrO N0 w1 wr
theorem left_any (c:Cf) (rs:List (List O)) (ps ds:List Int) (ov pv dv:Value) (ss:List Sv) (R:List Nat) (s:Value) (w:World) (hS:q3s w s c rs ps ds ov pv dv ss R) (h0:Zj c.t c.c c.wd c.v rs ps=0) (hp:ps.length<=8000) :
  Calls Tryz.prog 7 #[s] w (q6d w (q7n c rs ds ps).a):=by
 obtain rfl:=hS.val;have HS:=q9 hS;have HC:=q9 h0;obtain ⟨ao,co,hov,-,-,-⟩:=hS.rows.sq;obtain ⟨ap,cp,hpv,-,-,-⟩:=hS.pk;obtain ⟨ad,cd,hdv,-,-,-⟩:=hS.dr;subst hov hpv hdv;have hpk:=hS.pk;have hpl:=fun hne=>Qx hpk hne
 clear hS h0;have F0:=(Fr.refl [] w).alloc (.cells #[.int .i64 c.t,.int .i64 c.c,.int .i64 c.wd,.int .i64 c.v,.slice ao ss.length co,.slice ap ps.length cp,.slice ad ds.length cd] 27);have o0:=Ob.new w 27 #[.int .i64 c.t,.int .i64 c.c,.int .i64 c.wd,.int .i64 c.v,.slice ao ss.length co,.slice ap ps.length cp,.slice ad ds.length cd];have HU:=q9 (HS.out.up F0);have hbl:=Ob.lt o0;have HF0:=q9 F0;clear F0;go_enter Tryz.func7,Tryz.ntmps7;go_wp2_with fail;generalize World.alloc w _=w0 at *;have hw0:=HF0.out.size;generalize hbs:w.heap.size=bs at o0 hbl ⊢;refine (W6 c rs ps ds _ _ _ ss R _ w0 HU.out HC.out).mono ?_;rintro e w1 ⟨b,own,y,rfl,hM,F1,hb⟩;have o1:=Ob.up o0 F1;have HO:=q9 (qc o1 hbl);have HM:=q9 hM;have HF1:=q9 F1;have HP:=q9 (qc (HU.out.pk.up F1) (fun hne g hg=>qj (hpl hne g hg) hw0));clear o0 o1 hM F1 hpk hpl;have HBS:=q9 hbs;clear hbs hbl hb;go_wp2_with fail;go_loopw [5] (fun u wr=>PkAt (Yq w0.heap.size) c rs ds ps b w1 u wr) (fun u _=>ps.length - (intOf u).toNat);case atStart=>exact ⟨0,Nat.zero_le _,rfl,⟨own,y,HM.out⟩,FrO.refl _ _⟩
 case round =>
  obtain ⟨i,hi,rfl,⟨own2,y2,M2⟩,G⟩:=hrel;have o2:=G.ob HO.out.1 (Nat.not_le_of_lt HO.out.2);have c5:=o2.cell (i:=5) rfl;have hs2:=G.sq HP.out.1 (fun hne g hg=>Nat.not_le_of_lt (HP.out.2 hne g hg));have HG:=q9 G;have HM2:=q9 M2;clear M2 G o2;by_cases hlt:i<ps.length
  ·have HI2:=q9 (show i+1<=ps.length/\ps.length - (i+1)<ps.length - i by omega);have hltz:(i:Int)<(ps.length:Int):=by omega
   have hi0:(0:Int)<=(i:Int):=by omega
   obtain ⟨p,hpi⟩:∃ p,ps[i]? = some p:=⟨ps[i],List.getElem?_eq_getElem hlt⟩;obtain ⟨gp,op,rfl,d0⟩:=Zx hs2 hpi;have HPI:=q9 hpi;have hmv:=q56 ds HC.out (ps.take i);rw [List.length_take,Nat.min_eq_left hi] at hmv;have HMV:=q9 hmv;clear hpi hs2 hmv hlt;go_wp2_with fail;refine (q2g HMV.out Lb HM2.out (ju.up (Yq.new _) (qh HF1.out.size HG.out.size)) p).mono ?_;rintro e w3 ⟨rfl,hM3,G3⟩;rw [<- q52 HPI.out] at hM3;have HM3:=q9 (qc hM3 (HG.out.trans G3));clear hM3 G3 d0 c5;go_wp2_with fail;go_roundw;case rel=>exact ⟨i+1,HI2.out.1,by simp,HM3.out.1,HM3.out.2⟩
   case measure=>exact meas rfl HI2.out.2
  ·obtain rfl:i=ps.length:=by omega
   have c7:wr.cell? ⟨b,7,none⟩=some (.pointer (some ⟨y2.p,0,none⟩)):=(zw HM2.out.ob).2.2.2.2.2.2.2.1;clear hs2;go_wp2_with fail;go_ret;have hA:=HM2.out.ar;rw [List.take_length] at hA;have h1:w0.heap.size<=y2.p:=HM2.out.base y2.p (by rw [HM2.out.cp];decide);have h2:w0.heap.size<=y2.q:=HM2.out.base y2.q (by rw [HM2.out.cq];decide);have hb1:=HBS.out;obtain ⟨S,hS,F⟩:=HG.out;exact ⟨y2.p,y2.q,rfl,by omega,by omega,hA,(HF0.out.trans HF1.out).own F (fun k hk=>by have:w0.heap.size<=k:=hS k hk;omega)⟩
theorem jc.re {N0 N1:Nat->Prop} {own:Nat->Nat} {w:World} {b:Nat} {m:Mc} {y:Lay} (h:jc N0 own w b m y) (k:∀ k,own k≠0->N1 k):jc N1 own w b m y :=
 ⟨h.ob,h.fz,h.ar,h.cb,h.cp,h.cq,h.ct,h.th,h.thl,h.th8,h.thr,h.tk,h.tkc,h.ev,h.evo,h.evl,h.ans,k⟩
def qbw (n0:Nat) (own:Nat->Nat) (w:World) (b:Nat) (m':Mc) (v:Value) (e:Ending) (w':World):Prop :=
 e = .returned v/\∃ own' y',jc (Yq n0) own' w' b m' y'/\(∀ k,own k=0->k<w.heap.size->own' k=0)/\∃ S,(∀ k,k∈S->own k≠0\/w.heap.size<=k)/\Fr S w w'
theorem pick_own {n0:Nat} {own:Nat->Nat} {w:World} {b:Nat} {m:Mc} {y:Lay} {N:Nat} (hI:MInv N m) (hN:N+4<=4000000) (h:jc (Yq n0) own w b m y) (h0:n0<=w.heap.size) (t:Int) :
  Calls Tryz.prog 26 #[.pointer (some ⟨b,0,none⟩),.int .i64 t] w (qbw n0 own w b (m.pick t) (.bool (!m.over t))):=by
 have g:=h.xo 0 (ju.up (Yq.new n0) h0);have g2:=g.re (N1:=fun k=>Mx.xo own w.heap.size 0 k≠0\/w.heap.size<=k) (fun k hk=>.inl hk);have hz:∀ k,own k=0->k<w.heap.size->Mx.xo own w.heap.size 0 k=0:=fun k hk hl=>(xz hl).trans hk
 have hnz:∀ k,Mx.xo own w.heap.size 0 k≠0->own k≠0:=fun k hk=>by
  by_cases hl:k<w.heap.size
  ·rwa [xz hl] at hk
  ·exact absurd (yh Lb) hk
 have hb:=h.base;generalize Mx.xo own w.heap.size 0=o2 at *;refine (q2g hI hN g2 (fun k hk=>.inr hk) t).mono ?_;rintro e w' ⟨he,⟨own',y',M⟩,S,hS,F⟩;refine ⟨he,own',y',M.re (fun k hk=>?_),fun k hk hl=>?_,S,fun k hk=>?_,F⟩
 ·rcases M.base k hk with q | q
  ·exact hb k (hnz k q)
  ·exact qh h0 q
 ·by_cases q:own' k=0
  ·exact q
  ·exfalso;rcases M.base k q with r | r
   ·exact r (hz k hk hl)
   ·omega
 ·rcases hS k hk with q | q
  ·exact .inl (hnz k q)
  ·exact .inr q
end Go.Proofs.YtleclbldlladmaaGreat.Mx
