/- Parts. -/
import Derived.Test.YthokjbikomjhgaaGreatDoorVaq
import Derived.Test.YthokjbikomjhgaaGreatDoorVbc
set_option linter.unusedVariables false
set_option linter.unusedSimpArgs false
set_option maxRecDepth 100000
set_option maxHeartbeats 12800000
namespace Go.Proofs.YthokjbikomjhgaaGreatDoor.Mx
open Go.RowKit Ar Ref Og Mp
theorem q6e {N0:Nat} {own:Nat->Nat} {w:World} {b:Nat} {m:Mc} {y:Lay} {N:Nat} (hI:MInv N m) (hN:N<=40000) (h:je N0 own w b m y) (hN0:N0<=w.heap.size) {n k:Nat} {x:Th} {ve:Ev} (hx:m.t[n]? = some x) (hv:m.e[k]? = some ve) (ho:x.p≠none\/x.g≠none\/x.s≠none) :
  Calls Tryz.prog 76 #[.pointer (some ⟨b,0,none⟩),.int .i64 n,.int .i64 k] w (Y7 N0 w b (m.steps (n:Int) k) (.tuple #[])):=by
 cases hp:x.p with
 | some P=>exact qch hI hN h hN0 hx hv P hp
 | none =>
  cases hg:x.g with
  | some P=>exact qbu hI hN h hN0 hx hv P hp hg
  | none =>
   cases hs:x.s with
   | some P=>exact qbg hI hN h hN0 hx hv P hp hg hs
   | none=>rw [hp,hg,hs] at ho;simp at ho
theorem je.overC {N0:Nat} {own:Nat->Nat} {w:World} {b:Nat} {m:Mc} {y:Lay} (h:je N0 own w b m y) (t:Int):Calls Tryz.prog 53 #[.pointer (some ⟨b,0,none⟩),.int .i64 t] w fun e w'=>e = .returned (.bool (m.over t))/\Fr [] w w' :=
 q80 m t b y.ov y.pv y.dv y.p y.tv y.kv y.ev y.R y.ss y.ts w h.ob h.fz.rows (Sq.block (f:=fTv) (b:=y.tb) (T:=126) (cs:=(y.ts.flatMap fTv).toArray) h.th Ll rfl (Nat.le_refl _) (by have:=h.thl;have:=h.th8;unfold maxLen;omega)) h.thl (fun i x z e1 e2=>by obtain ⟨B,k,-⟩:=h.thr i x z e1 e2;exact k.1)
def C9 (b:Nat) (v:Value) (w:World):Prop:=w.cell? ⟨b,9,none⟩=some v
theorem C9.up {b:Nat} {v:Value} (w w2:World) (h:C9 b v w) (F:Fr [] w w2):C9 b v w2:=F.cell h Ll
theorem q69 {N0:Nat} {own:Nat->Nat} {w:World} {b:Nat} {m:Mc} {y:Lay} {N:Nat} (hI:MInv N m) (hN:N<=40000) (h:je N0 own w b m y) (t:Int) (ho:m.over t=true) :
  Calls Tryz.prog 15 #[.pointer (some ⟨b,0,none⟩),.int .i64 t] w (Y7 N0 w b (m.pick t) (.bool false)):=by
 have hX:m.pick t = { m with idle:=m.idle+1,now:=m.now+1 }:=by unfold Mc.pick;rw [qf ho]
 rw [hX];have hnw:=hI.now;have hid:=hI.idle;have H:=q9 h;clear h;go_enter Tryz.func15,Tryz.ntmps15;go_wp2_with fail;refine (H.out.overC t).mono ?_;rintro e w1 ⟨rfl,F1⟩;rw [ho];have H1:=q9 (H.out.up F1);have HF:=q9 F1;clear F1 ho;go_wp2_with fail;refine qp Lm ?_;obtain ⟨-,-,-,-,-,-,-,-,-,c9,-,-,-⟩:=zw H1.out.ob;refine q2o (C9 b (.int .i64 m.now)) #[true,true,true,true,true,true,true,true,true,true,true,true,true,true,true,true,true,false] 17 1 rfl ?_;refine Sw C9.up [true,true,true,true,true,false,false,true,true,true,true,true,false,false,false,false,false,false] 7 (n:=77) (listed':=#[true,true,true,true,true,false,false,true,true,true,true,true,false,false,false,false,false,false]) rfl Lm Lm Lm Lm rfl Lm (fun _ _ d _ _ h=>by cases d <;> exact h) (C9.up w1 _ c9 ((Fr.refl _ _).drew)) ?_;apply qg;refine ⟨fun wf Ff=>?_,?_⟩
 ·have k9:=qb (show wf.cell? ⟨b,9,none⟩=some (.int .i64 m.now) from Ff);exact Ab
 clear c9;refine ju 5 Lm rfl rfl (fun w3 F3=>?_);have F2:=(Fr.refl [] w1).drew.trans F3;clear F3;obtain ⟨-,-,-,-,-,-,-,-,-,c9,c10,-,-⟩:=zw (H1.out.up F2).ob;go_wp2_with fail;refine ql ⟨c9,?_⟩;clear c9 c10;refine ju 6 Lm rfl rfl (fun w4 FN=>?_);replace F2:=F2.trans FN;clear FN;obtain ⟨-,-,-,-,-,-,-,-,-,c9,c10,-,-⟩:=zw (H1.out.up F2).ob;go_wp2_with fail;refine ql ⟨c9,?_⟩;clear c9 c10;refine ju 12 Lm rfl rfl (fun w5 FN=>?_);replace F2:=F2.trans FN;clear FN;obtain ⟨-,-,-,-,-,-,-,-,-,c9,c10,-,-⟩:=zw (H1.out.up F2).ob;go_wp2_with fail;refine ql ⟨c9,?_⟩;clear c9 c10;refine ju 13 Lm rfl rfl (fun w6 FN=>?_);replace F2:=F2.trans FN;clear FN;obtain ⟨-,-,-,-,-,-,-,-,-,c9,c10,-,-⟩:=zw (H1.out.up F2).ob;go_wp2_with fail;refine ql ⟨c9,?_⟩;clear c9 c10;refine ju 14 Lm rfl rfl (fun w7 FN=>?_);replace F2:=F2.trans FN;clear FN;have H5:=H1.out.up F2;obtain ⟨-,-,-,-,-,-,-,-,-,c9,c10,-,-⟩:=zw H5.ob;have z:=H5.ob.frozen;have K5:=H5.setIdle (m.idle+1);obtain ⟨-,-,-,-,-,-,-,-,-,d9,-,-,-⟩:=zw K5.1.ob;have HF5:=q9 ((FrO.of HF.out Ll).trans ((FrO.of F2 Ll).trans K5.2));have HK5:=q9 K5.1;clear K5 H5 F2;go_wp2_with fail;clear c9 c10 z;generalize (w7.setCell ⟨b,10,none⟩ (.int .i64 (m.idle+1)))=w8 at *;refine ql ⟨d9,?_⟩;clear d9;refine ju 15 Lm rfl rfl (fun w9 F9=>?_);have G:=F9;clear F9;obtain ⟨-,-,-,-,-,-,-,-,-,c9,-,-,-⟩:=zw (HK5.out.up G).ob;go_wp2_with fail;refine ql ⟨c9,?_⟩;clear c9;refine ju 16 Lm rfl rfl (fun wA FN=>?_);replace G:=G.trans FN;clear FN;obtain ⟨-,-,-,-,-,-,-,-,-,c9,-,-,-⟩:=zw (HK5.out.up G).ob;go_wp2_with fail;refine ql ⟨c9,?_⟩;clear c9;refine Rl (k:=17) rfl Lm (fun wB FN=>?_);replace G:=G.trans FN;clear FN;have H9:=HK5.out.up G;obtain ⟨-,-,-,-,-,-,-,-,-,c9,-,-,-⟩:=zw H9.ob;have z:=H9.ob.frozen;have K9:=H9.setNow (m.now+1);have HE:=q9 (qc K9.1 (HF5.out.trans ((FrO.of G Ll).trans K9.2)));clear K9 H9 G;go_wp2_with fail;go_ret;exact ⟨rfl,⟨_,_,HE.out.1⟩,HE.out.2⟩
theorem q7s {N0:Nat} {own:Nat->Nat} {w:World} {b:Nat} {m:Mc} {y:Lay} {N:Nat} (hI:MInv N m) (hN:N+4<=40000) (h:je N0 own w b m y) (hN0:N0<=w.heap.size) (t:Int) (ho:m.over t=false) :
  Calls Tryz.prog 15 #[.pointer (some ⟨b,0,none⟩),.int .i64 t] w (Y7 N0 w b (m.pick t) (.bool true)):=by
 obtain ⟨n,x,rfl,hx,hth,hnb⟩:=Jf ho;have hnl:=(List.getElem?_eq_some_iff.1 hx).1;obtain ⟨z,hz⟩:∃ z,y.ts[n]? = some z:=⟨y.ts[n]'(by rw [h.thl];exact hnl),List.getElem?_eq_getElem _⟩;have hbz:=((h.thr n x z hx hz).choose_spec.1.1).2.1;have H:=q9 h;have HI:=q9 hI;have HO:=q9 ho;have hlz0:(n:Int)<(y.ts.length:Int):=by rw [h.thl];omega
 clear h hI ho;have HXX:=q9 (qc hx (qc hz (qc hth (qc hnb (qc hbz hnl)))));clear hx hz hth hnb hbz hnl;cases hb:x.busy
 focus
  have HB:=q9 hb
  clear hb
  go_enter Tryz.func15,Tryz.ntmps15
  go_wp2_with fail
  refine (H.out.overC (n:Int)).mono ?_;rintro e w0 ⟨rfl,F1⟩
  rw [HO.out]
  have M0:=H.out.up F1
  obtain ⟨-,-,-,-,-,-,-,-,c8,-,-,-,-⟩:=zw M0.ob
  unfold Lay.tv at c8
  have t1:=xm M0.th HXX.out.2.1 (j:=1) Lr rfl
  rw [HXX.out.2.2.2.2.1,HB.out] at t1
  have HF0:=q9 (FrO.of (N0:=N0) F1 Ll)
  have HM0:=q9 M0
  clear M0 F1
  go_wp2_with fail
  refine (q44 HI.out Lj HM0.out (qh hN0 HF0.out.size) HXX.out.1 (HXX.out.2.2.2.1 HB.out)).mono ?_;rintro e w1 ⟨rfl,hM,G⟩
  have HF1:=q9 (HF0.out.trans G)
  have HM1:=q9 hM
  obtain ⟨m1,hm1⟩:∃ m1,m1=m.begins (n:Int):=⟨_,rfl⟩
  have HE:=q9 (show (if (m.th (n:Int)).busy=true then m else m.begins (n:Int))=m1 by rw [HXX.out.2.2.1,HB.out];simp [hm1])
  have HI1:=q9 (show MInv (N+1) m1 by rw [hm1];exact HI.out.begins HXX.out.1 (HXX.out.2.2.2.1 HB.out))
  obtain ⟨x1,hx1e⟩:∃ x1,x1=m.begun (n:Int):=⟨_,rfl⟩
  have HX1:=q9 (show m1.t[n]? = some x1/\x1.busy=true by rw [hm1,hx1e];exact ⟨by unfold Mc.begins;simp only [Int.toNat_natCast];exact List.getElem?_set_self HXX.out.2.2.2.2.2,(q2q HI.out HXX.out.1 (HXX.out.2.2.2.1 HB.out)).2.1⟩)
  have HN1:=q9 (show m1.th (n:Int)=x1 by unfold Mc.th;rw [Int.toNat_natCast,List.getD_eq_getElem?_getD,HX1.out.1];rfl)
  rw [<- hm1] at HM1
  clear hm1 hx1e G hM c8 t1 hlz0
  clear HF0 HM0
 rotate_left
 focus
  have HB:=q9 hb
  clear hb
  go_enter Tryz.func15,Tryz.ntmps15
  go_wp2_with fail
  refine (H.out.overC (n:Int)).mono ?_;rintro e w1 ⟨rfl,F1⟩
  rw [HO.out]
  have M0:=H.out.up F1
  have HF1:=q9 (FrO.of (N0:=N0) F1 Ll)
  have HM1:=q9 (show ∃ own1 y1,je N0 own1 w1 b m y1 from ⟨_,_,M0⟩)
  obtain ⟨m1,hm1⟩:∃ m1,m1=m:=⟨_,rfl⟩
  have HE:=q9 (show (if (m.th (n:Int)).busy=true then m else m.begins (n:Int))=m1 by rw [HXX.out.2.2.1,HB.out];simp [hm1])
  have HI1:=q9 (show MInv (N+1) m1 by rw [hm1];exact HI.out.more)
  obtain ⟨x1,hx1e⟩:∃ x1,x1=x:=⟨_,rfl⟩
  have HX1:=q9 (show m1.t[n]? = some x1/\x1.busy=true by rw [hm1,hx1e];exact ⟨HXX.out.1,HB.out⟩)
  have HN1:=q9 (show m1.th (n:Int)=x1 by rw [hm1,hx1e];exact HXX.out.2.2.1)
  rw [<- hm1] at HM1
  clear M0 hm1 hx1e F1 hlz0
 rotate_left
 all_goals
  obtain ⟨hx1,hb1⟩:=HX1.out
  obtain ⟨ho1,k,hk⟩:=HI1.out.busy n x1 hx1 hb1
  obtain ⟨ve,hve,-,-⟩:=Jj hk
  obtain ⟨own1,y1,M1⟩:=HM1.out
  obtain ⟨z1,hz1⟩:∃ z1,y1.ts[n]? = some z1:=⟨y1.ts[n]'(by rw [M1.thl];exact (List.getElem?_eq_some_iff.1 hx1).1),List.getElem?_eq_getElem _⟩
  have hnx:=((M1.thr n x1 z1 hx1 hz1).choose_spec.1.1).1
  have ht1:=HI1.out.th n x1 hx1
  have hn0:=ht1.n0
  have hn1:x1.next<=1000:=by have:=HI1.out.opsl (n:Int);have:=ht1.n1;omega
  obtain ⟨-,-,-,-,-,-,-,c7,c8,-,-,-,-⟩:=zw M1.ob
  unfold Lay.tv at c8
  have t0:=xm M1.th hz1 (j:=0) Lr rfl
  rw [Nat.add_zero,hnx] at t0
  have t1:=xm M1.th hz1 (j:=1) Lr rfl
  rw [((M1.thr n x1 z1 hx1 hz1).choose_spec.1.1).2.1,hb1] at t1
  obtain ⟨-,-,-,r1,-,-,-,-,-,-⟩:=Qk M1.ar
  have hlz:(n:Int)<(y1.ts.length:Int):=by rw [M1.thl];have:=(List.getElem?_eq_some_iff.1 hx1).1;omega
  have hel:y1.es.length<=1000000:=by rw [M1.esl];have:=HI1.out.el;omega
  have HM:=q9 M1
  have HV:=q9 (qc hk (qc hve (qc ho1 hel)))
  clear M1 hk hve ho1 hx1 hb1 hz1 hnx ht1 hel
  go_wp2_with fail
  refine (q04 m1 (n:Int) (x1.next - 1) b _ _ _ _ _ _ _ y1.es w1 HV.out.2.2.2 HM.out.ob (Sq.own (f:=fEv) HM.out.ev)).mono ?_;rintro e w2 ⟨rfl,rfl⟩
  rw [HM.out.evl,show q58 m1.e (n:Int) (x1.next - 1)=(k:Int) from q2a (by rw [<- Ux];exact HV.out.1)]
  go_wp2_with fail
  refine (q6e HI1.out Lj HM.out (qh hN0 HF1.out.size) HX1.out.1 HV.out.2.1 HV.out.2.2.1).mono ?_;rintro e w3 ⟨rfl,⟨own2,y2,M2⟩,G2⟩
  have HI2:=q9 (HI1.out.steps Lj HX1.out.1 HV.out.2.1)
  have HST:=q9 (show m1.steps (n:Int) k=m1.steps (n:Int) k from rfl)
  generalize hm2:m1.steps (n:Int) k=m2 at *
  have HM2:=q9 hm2
  obtain ⟨-,-,-,-,-,-,-,d7,-,-,-,-,-⟩:=zw M2.ob
  obtain ⟨-,-,-,s1,-,-,-,-,-,-⟩:=Qk M2.ar
  have HMM:=q9 M2
  have HG2:=q9 (HF1.out.trans G2)
  clear M2 G2 hm2 c7 c8 t0 t1 r1
  have hP:m.pick (n:Int)=(let m3:=if m1.a.n<m2.a.n then m2.notes else m2;{ m3 with now:=m3.now+1 }):=by
   unfold Mc.pick
   rw [qd Oa]
   simp only [HE.out]
   rw [HN1.out,HV.out.1]
   simp only [HM2.out]
  have HP:=q9 hP
  clear hP
  by_cases hlt:m1.a.n<m2.a.n
  ·have g1:decide (m2.a.n>m1.a.n)=true:=by simpa using hlt
   have g2:decide (m1.a.n<m2.a.n)=true:=by simpa using hlt
   have HL:=q9 hlt
   clear hlt
   go_wp2_with fail
   refine (q6x HI2.out Lj HMM.out (qh hN0 HG2.out.size)).mono ?_;rintro e w4 ⟨rfl,⟨own3,y3,M3⟩,G3⟩
   have hnw:=HI2.out.notes.now
   obtain ⟨-,-,-,-,-,-,-,-,-,f9,-,-,-⟩:=zw M3.ob
   have z:=M3.ob.frozen
   have HM3:=q9 M3
   have HG3:=q9 (HG2.out.trans G3)
   clear M3 G3
   generalize hm3:m2.notes=m3 at *
   have HMN:=q9 hm3
   clear hm3
   go_wp2_with fail
   go_ret
   obtain ⟨K,G⟩:=HM3.out.setNow (m3.now+1)
   rw [HP.out];simp only [qf HL.out,HMN.out]
   exact ⟨rfl,⟨_,_,K⟩,HG3.out.trans G⟩
  have g1:decide (m2.a.n>m1.a.n)=false:=by simpa using hlt
  have g2:decide (m1.a.n<m2.a.n)=false:=by simpa using hlt
  have HL:=q9 hlt
  clear hlt
  have hnw:=HI2.out.now
  obtain ⟨-,-,-,-,-,-,-,-,-,f9,-,-,-⟩:=zw HMM.out.ob
  have z:=HMM.out.ob.frozen
  go_wp2_with fail
  go_ret
  obtain ⟨K,G⟩:=HMM.out.setNow (m2.now+1)
  rw [HP.out];simp only [qd (show ¬ m1.a.n<m2.a.n by have:=HL.out;omega)]
  exact ⟨rfl,⟨_,_,K⟩,HG2.out.trans G⟩
theorem q98 {N0:Nat} {own:Nat->Nat} {w:World} {b:Nat} {m:Mc} {y:Lay} {N:Nat} (hI:MInv N m) (hN:N+4<=40000) (h:je N0 own w b m y) (hN0:N0<=w.heap.size) (t:Int) :
  Calls Tryz.prog 15 #[.pointer (some ⟨b,0,none⟩),.int .i64 t] w (Y7 N0 w b (m.pick t) (.bool (!m.over t))):=by
 cases ho:m.over t with
 | true=>exact q69 hI Lj h t ho
 | false=>exact q7s hI hN h hN0 t ho
structure q4k (w:World) (s:Value) (c:Cf) (rs:List (List O)) (ps ds:List Int) (ov pv dv:Value) (ss:List Sv) (R:List Nat):Prop where
 val:s = .agg #[.int .i64 c.t,.int .i64 c.c,.int .i64 c.wd,.int .i64 c.v,ov,pv,dv]
 scr:Scr w s c.t c.c c.wd c.v rs ps ds
 rows:R6 w R ov ss rs
 dr:Sq fI w dv ds
 drR:ds≠[]->∀ k,k∈dv.ownBlock.toList->k∈R
 pk:Sq fI w pv ps
 lt:∀ k,k∈R->k<w.heap.size
theorem q4k.up {w w':World} {s:Value} {c:Cf} {rs:List (List O)} {ps ds:List Int} {ov pv dv:Value} {ss:List Sv} {R:List Nat} (h:q4k w s c rs ps ds ov pv dv ss R) (F:Fr [] w w'):q4k w' s c rs ps ds ov pv dv ss R :=
 ⟨h.val,h.scr.up F,h.rows.kept F Ll,h.dr.up F,h.drR,h.pk.up F,fun k hk=>qj (h.lt k hk) F.size⟩
def Mc.new (c:Cf) (rs:List (List O)) (ds:List Int):Mc:=⟨c,rs,ds,Pl.begun c.t c.c c.wd,List.replicate c.t.toNat Th.new,0,0,[],[]⟩
theorem qbs {c:Cf} {rs:List (List O)} {ps:List Int} (h:Zm c.t c.c c.wd c.v rs ps=0):c.Ok/\Pl.form c.t c.c c.wd c.v=true/\large c.t rs ps=false/\rs.all qdn=true:=by
 unfold Zm at h;split at h
 ·rename_i h0;unfold Pl.code at h0;split at h0
  ·rename_i hf;split at h0
   ·rename_i ht;split at h
    ·cases h
    rename_i hl;split at h
    ·rename_i ha;obtain ⟨t1,t2,c1,c2,v1,v2,w1,w2⟩:=Pl.Zw.1 hf;exact ⟨⟨t1,t2,c1,c2,w1,w2,v1,v2,ht⟩,hf,by simpa using hl,ha⟩
    cases h
   cases h0
  cases h0
 ·rename_i h0;exact absurd h h0
theorem qap {o:O} (h:qaq o=true):0<=o.2.1/\o.2.1<=63:=by
 have hk:∀ ky,Ro.S0 ky=true->0<=ky/\ky<=63:=fun ky h=>by unfold Ro.S0 at h;simpa using h
 unfold qaq at h;by_cases h1:o.1=1
 ·rw [h1,Ro.qdp] at h;simp only [Bool.and_eq_true] at h;exact hk _ h.1
 ·by_cases h2:o.1=2\/o.1=3
  ·rw [Ro.q1n _ _ _ _ h2] at h;simp only [Bool.and_eq_true] at h;exact hk _ h.1
  by_cases h4:o.1=4
  ·rw [h4,Ro.qec] at h;simp only [Bool.and_eq_true] at h;exact hk _ h.1
  rw [Ro.fit0 _ _ _ _ ⟨h1,fun e=>h2 (.inl e),fun e=>h2 (.inr e),h4⟩] at h;cases h
theorem q8v {c:Cf} {rs:List (List O)} {ps:List Int} (ds:List Int) (h:Zm c.t c.c c.wd c.v rs ps=0):MInv 1 (Mc.new c rs ds):=by
 obtain ⟨hc,-,hl,ha⟩:=qbs h
 have hl2:(rs.length:Int)<=c.t/\rs.any long=false:=by unfold large at hl;simp only [Bool.or_eq_false_iff,decide_eq_false_iff_not] at hl;exact ⟨by omega,hl.2.2⟩
 have h8:=hc.t8;have h1:=hc.t1
 have hth:∀ (i:Nat) (x:Th),(Mc.new c rs ds).t[i]? = some x->x=Th.new:=fun i x hx=>by
  unfold Mc.new at hx;simp only [List.getElem?_replicate] at hx;split at hx
  ·exact (qi hx).symm
  ·cases hx
 refine ⟨hc,by unfold Mc.new;simp;omega,by unfold Mc.new;simp only;omega,fun r hr=>⟨?_,fun o ho=>?_⟩,fun i x hx=>?_,fun i x hx hb=>?_,by simp [Mc.new],by simp [Mc.new],by simp [Mc.new],by simp [Mc.new],fun x hx=>by simp [Mc.new] at hx⟩
 ·have:=List.any_eq_false.1 hl2.2 r hr;unfold long at this;simpa using this
 ·exact qap (List.all_eq_true.1 (by have:=List.all_eq_true.1 ha r hr;unfold qdn at this;exact this) o ho)
 ·rw [hth i x hx];exact ⟨by simp [Th.new],by simp [Th.new],by simp [Th.new],fun y e=>Ma,fun y e=>Ma,fun y e=>Ma⟩
 ·rw [hth i x hx] at hb;cases hb
def tv0:Tv:=⟨0,false,0,none,none,none⟩
theorem q8p:(madeCells (Value.agg #[.int .i64 0,.bool false,.int .i64 0,.pointer none,.pointer none,.pointer none]).cells (0 * 6)).toList=(List.replicate 0 tv0).flatMap fTv:=by kernel_rfl
theorem q8e:(madeCells (Value.agg #[.int .i64 0,.bool false,.int .i64 0,.pointer none,.pointer none,.pointer none]).cells (1 * 6)).toList=(List.replicate 1 tv0).flatMap fTv:=by kernel_rfl
theorem q93:(madeCells (Value.agg #[.int .i64 0,.bool false,.int .i64 0,.pointer none,.pointer none,.pointer none]).cells (2 * 6)).toList=(List.replicate 2 tv0).flatMap fTv:=by kernel_rfl
theorem q8y:(madeCells (Value.agg #[.int .i64 0,.bool false,.int .i64 0,.pointer none,.pointer none,.pointer none]).cells (3 * 6)).toList=(List.replicate 3 tv0).flatMap fTv:=by kernel_rfl
theorem q8z:(madeCells (Value.agg #[.int .i64 0,.bool false,.int .i64 0,.pointer none,.pointer none,.pointer none]).cells (4 * 6)).toList=(List.replicate 4 tv0).flatMap fTv:=by kernel_rfl
theorem q8o:(madeCells (Value.agg #[.int .i64 0,.bool false,.int .i64 0,.pointer none,.pointer none,.pointer none]).cells (5 * 6)).toList=(List.replicate 5 tv0).flatMap fTv:=by kernel_rfl
theorem q9i:(madeCells (Value.agg #[.int .i64 0,.bool false,.int .i64 0,.pointer none,.pointer none,.pointer none]).cells (6 * 6)).toList=(List.replicate 6 tv0).flatMap fTv:=by kernel_rfl
theorem q8c:(madeCells (Value.agg #[.int .i64 0,.bool false,.int .i64 0,.pointer none,.pointer none,.pointer none]).cells (7 * 6)).toList=(List.replicate 7 tv0).flatMap fTv:=by kernel_rfl
theorem q9o:(madeCells (Value.agg #[.int .i64 0,.bool false,.int .i64 0,.pointer none,.pointer none,.pointer none]).cells (8 * 6)).toList=(List.replicate 8 tv0).flatMap fTv:=by kernel_rfl
theorem q6v (n:Nat) (h:n<=8):(madeCells (Value.agg #[.int .i64 0,.bool false,.int .i64 0,.pointer none,.pointer none,.pointer none]).cells (n * 6)).toList=(List.replicate n tv0).flatMap fTv:=by
 match n,h with
 | 0,_=>exact q8p
 | 1,_=>exact q8e
 | 2,_=>exact q93
 | 3,_=>exact q8y
 | 4,_=>exact q8z
 | 5,_=>exact q8o
 | 6,_=>exact q9i
 | 7,_=>exact q8c
 | 8,_=>exact q9o
theorem q00 {w:World} {B g n sz:Nat} {E:TypeId} {xs:List Value} (h:w.ownsRow B E sz (.slice (some ⟨g,0,none⟩) n n) n xs):w.heap[g]? = some (.cells xs.toArray E (0,0)):=by
 obtain ⟨h1,h2⟩:=h;rcases h2 with ⟨e,-⟩ | ⟨g',cap,cur,e,hB,hh,hc1,hc2,hs,ht⟩
 ·simp at e
 ·simp only [Value.slice.injEq,Option.some.injEq,Addr.mk.injEq,true_and] at e;obtain ⟨⟨rfl,-⟩,rfl⟩:=e;rw [hh];have:cur.toList=xs:=by rw [<- ht,List.take_of_length_le Lu]
  rw [<- this]
theorem qbo {w w':World} {c:Cf} {rs:List (List O)} {ps ds:List Int} {ov pv dv:Value} {ss:List Sv} {R:List Nat} {s:Value} {b p q tb:Nat} (hS:q4k w s c rs ps ds ov pv dv ss R) (h0:Zm c.t c.c c.wd c.v rs ps=0) (F:Fr [] w w') (hO:qal w' b (Mc.new c rs ds) ov pv dv p (.slice (some ⟨tb,0,none⟩) c.t.toNat c.t.toNat) (.slice none 0 0) (.slice none 0 0)) (hA:Rar w' p q (Pl.begun c.t c.c c.wd)) (hT:Ob w' tb 126 ((List.replicate c.t.toNat tv0).flatMap fTv).toArray)
  (hb:w.heap.size<=b) (hp:w.heap.size<=p) (hq:w.heap.size<=q) (ht:w.heap.size<=tb) (hn:b≠p/\b≠q/\b≠tb/\p≠q/\p≠tb/\q≠tb) :
  ∃ own y,je w.heap.size own w' b (Mc.new c rs ds) y/\y.p=p/\y.q=q:=by
 obtain ⟨n1,n2,n3,n4,n5,n6⟩:=hn;have hc:=(qbs h0).1;have h8:=hc.t8
 have hz:∀ k,k∈R->(if k=b then 1 else if k=p then 2 else if k=q then 3 else if k=tb then 4 else 0)=0:=fun k hk=>by have:=hS.lt k hk;rw [qd Lj,qd Lj,qd Lj,qd Lj]
 refine ⟨fun k=>if k=b then 1 else if k=p then 2 else if k=q then 3 else if k=tb then 4 else 0,⟨R,ov,pv,dv,.slice none 0 0,.slice none 0 0,ss,p,q,tb,List.replicate c.t.toNat tv0,[]⟩,⟨?_,⟨hS.rows.kept F Ll,hS.dr.up F,hS.drR,fun k hk=>⟨hz k hk,qj (hS.lt k hk) F.size⟩⟩,hA,qf rfl,?_,?_,?_,hT,by simp [Mc.new],by simp [Mc.new];omega,fun i x z e1 e2=>?_,Sq.nil _,fun hne=>absurd rfl hne,⟨rfl,.inl ⟨rfl,rfl⟩⟩,fun k hk=>by simp [Value.ownBlock] at hk,rfl,fun x hx=>by simp at hx,fun k hk=>?_⟩,rfl,rfl⟩
 ·unfold Lay.tv;simp only [List.length_replicate];exact hO
 ·simp [Ne.symm n1]
 ·simp [Ne.symm n2,Ne.symm n4]
 ·simp [Ne.symm n3,Ne.symm n5,Ne.symm n6]
 ·have hx:x=Th.new:=by
   unfold Mc.new at e1;simp only [List.getElem?_replicate] at e1;split at e1
   ·exact (qi e1).symm
   ·cases e1
  have hzz:z=tv0:=by
   simp only [List.getElem?_replicate] at e2;split at e2
   ·exact (qi e2).symm
   ·cases e2
  rw [hx,hzz];exact ⟨[],⟨⟨rfl,rfl,rfl⟩,.inr (.inr (.inr ⟨rfl,rfl,rfl,rfl,rfl,rfl,rfl⟩))⟩,by simp⟩
 ·split at hk
  ·omega
  split at hk
  ·omega
  split at hk
  ·omega
  split at hk
  ·omega
  exact absurd rfl hk
theorem qdj:∃ i,Tryz.prog.info? 126=some i/\i.zero=some (.agg #[.int .i64 0,.bool false,.int .i64 0,.pointer none,.pointer none,.pointer none])/\i.size=6/\i.bytes=48:=by
 have h:=tvI;cases hi:Tryz.prog.info? 126 with
 | none=>rw [hi] at h;cases h
 | some i=>rw [hi] at h;simp only [Option.map_some,Option.some.injEq,Prod.mk.injEq] at h;exact ⟨i,rfl,h.1,h.2.1,h.2.2⟩
theorem Wl (c:Cf) (rs:List (List O)) (ps ds:List Int) (ov pv dv:Value) (ss:List Sv) (R:List Nat) (s:Value) (w:World) (hS:q4k w s c rs ps ds ov pv dv ss R) (h0:Zm c.t c.c c.wd c.v rs ps=0) :
  Calls Tryz.prog 14 #[s] w fun e w'=>∃ b own y,e = .returned (.tuple #[.pointer (some ⟨b,0,none⟩),.int .i64 0])/\je w.heap.size own w' b (Mc.new c rs ds) y/\Fr [] w w'/\w.heap.size<=b:=by
 obtain ⟨i,thI,thZ,thS,thB⟩:=qdj;obtain rfl:=hS.val;have HS:=q9 hS;have HC:=q9 h0;obtain ⟨hc,hfm,-,-⟩:=qbs h0;have HFM:=q9 hfm;have HTOP:=q9 (show 21+c.t+3 * c.c<=c.wd from hc.top);have HTN:=q9 (show c.t=((c.t.toNat:Nat):Int) by have:=hc.t1;omega);have HT8:=q9 (show c.t.toNat<=8 by have:=hc.t8;omega);obtain ⟨vo,vp,vd,hval,hr1,hp1,hd1⟩:=hS.scr;simp only [Value.agg.injEq,Array.mk.injEq,List.cons.injEq,and_true,true_and] at hval;obtain ⟨rfl,rfl,rfl⟩:=hval;obtain ⟨ao,co,hov,-,-,-⟩:=hS.rows.sq;obtain ⟨ap,cp,hpv,-,-,-⟩:=hS.pk;obtain ⟨ad,cd,hdv,-,-,-⟩:=hS.dr;subst hov hpv hdv;clear hr1 hp1 hd1 hfm hc hS h0;have F0:=(Fr.refl [] w).alloc (.cells #[.int .i64 c.t,.int .i64 c.c,.int .i64 c.wd,.int .i64 c.v,.slice ao ss.length co,.slice ap ps.length cp,.slice ad ds.length cd] 27);have o0:=Ob.new w 27 #[.int .i64 c.t,.int .i64 c.c,.int .i64 c.wd,.int .i64 c.v,.slice ao ss.length co,.slice ap ps.length cp,.slice ad ds.length cd];have HU:=q9 (HS.out.up F0);go_enter Tryz.func14,Tryz.ntmps14;go_wp2_with fail;generalize World.alloc w _=w0 at *;generalize w.heap.size=bs at o0 ⊢;refine (Ro.J5 c.t c.c c.wd c.v rs ps ds _ w0 HU.out.scr).mono ?_;rintro e w1 ⟨rfl,F1⟩;rw [HC.out];have HF:=q9 (F0.trans F1);replace o0:=Ob.up o0 F1;clear F1 F0;go_wp2_with fail;refine z7 Lm [] (fun w2 F2=>?_);refine epq [true,true,true,false,true,true,true,false,false,false,false,false] 6 F2 ?_;apply qg;refine ⟨fun wf Ff=>?_,?_⟩
 ·have oF:=Ob.up o0 Ff;have k0:=qb (oF.cell (i:=0) rfl);have k1:=qb (oF.cell (i:=1) rfl);have k2:=qb (oF.cell (i:=2) rfl);have k3:=qb (oF.cell (i:=3) rfl);have k4:=qb (oF.cell (i:=4) rfl);have k5:=qb (oF.cell (i:=5) rfl);have k6:=qb (oF.cell (i:=6) rfl);exact Ab
 refine jc [3,7] Lm Ll (fun w3 F3 j hj o ho=>?_);have E:=F2.trans F3;clear F2 F3 o0;simp only [List.mem_cons,List.not_mem_nil,or_false] at hj;rcases hj with rfl | rfl
 focus
  obtain rfl:=qi ho
  go_wp2_with fail
  refine (q2k c.t c.c c.wd c.v HFM.out HTOP.out w3).mono ?_;rintro e w4 ⟨p,q,rfl,hp,hq,A,F4⟩
  have hp1:=qh E.size hp
  have hq1:=qh E.size hq
  have hpq:=A.ne
  replace E:=E.trans F4
  clear F4 ho hp hq
  go_wp2_with fail
  refine ql ⟨E,?_⟩
  refine eoq 7 (fun w5 F5=>?_)
  replace E:=E.trans F5
  replace A:=A.kept F5
  clear F5
  go_wp2_with (refine wpList_make_full w5 rfl _ _ 39 rfl 0 126 _ _ 6 Tryz.underlying39 thI thZ thS .i64 .i64 c.t c.t c.t.toNat rfl rfl HTN.out HTN.out (by rw [thB];have:=HT8.out;omega) (by have:=HT8.out;unfold maxLen;omega) (Nat.zero_le _) ?_;intro w6 hown hgr)
  have htb:w1.heap.size<=w5.heap.size:=E.size
  have hlt5:=A.lt
  have B:=q00 hown
  rw [q6v _ HT8.out] at B
  have F6:=Fr.grown hgr
  replace E:=E.trans F6
  replace A:=A.kept F6
  clear F6 hown hgr
  generalize w5.heap.size=tb at *
  have HPQ:=q9 (show p≠q/\p≠tb/\q≠tb from ⟨hpq,by omega,by omega⟩)
  clear hpq hlt5
 rotate_left
 focus
  obtain rfl:=qi ho
  go_wp2_with (refine wpList_make_full w3 rfl _ _ 39 rfl 0 126 _ _ 6 Tryz.underlying39 thI thZ thS .i64 .i64 c.t c.t c.t.toNat rfl rfl HTN.out HTN.out (by rw [thB];have:=HT8.out;omega) (by have:=HT8.out;unfold maxLen;omega) (Nat.zero_le _) ?_;intro w4 hown hgr)
  have htb:w1.heap.size<=w3.heap.size:=E.size
  have B:=q00 hown
  rw [q6v _ HT8.out] at B
  have F4:=Fr.grown hgr
  replace E:=E.trans F4
  clear F4 hown hgr ho
  generalize w3.heap.size=tb at *
  refine ql ⟨E,?_⟩
  refine eoq 3 (fun w5 F5=>?_)
  replace E:=E.trans F5
  replace B:=F5.heap B Ll
  clear F5
  go_wp2_with fail
  refine (q2k c.t c.c c.wd c.v HFM.out HTOP.out w5).mono ?_;rintro e w6 ⟨p,q,rfl,hp,hq,A,F6⟩
  have hp1:=qh E.size hp
  have hq1:=qh E.size hq
  have hpq:=A.ne
  have hbl:=(Array.getElem?_eq_some_iff.1 B).1
  have HPQ:=q9 (show p≠q/\p≠tb/\q≠tb from ⟨hpq,by omega,by omega⟩)
  replace B:=F6.heap B Ll
  replace E:=E.trans F6
  clear F6 hp hq hpq hbl
  go_wp2_with fail
 rotate_left
 all_goals
  refine ql ⟨E,?_⟩
  refine eoq 8 (fun w11 F11=>?_)
  replace E:=E.trans F11
  replace A:=A.kept F11
  replace B:=F11.heap B Ll
  clear F11
  go_wp2_with fail
  refine ql ⟨E,?_⟩
  refine eoq 9 (fun w12 F12=>?_)
  replace E:=E.trans F12
  replace A:=A.kept F12
  replace B:=F12.heap B Ll
  clear F12
  go_wp2_with fail
  have FA:=(Fr.refl [] w12).alloc (.cells (McC (Mc.new c rs ds) (.slice ao ss.length co) (.slice ap ps.length cp) (.slice ad ds.length cd) p (.slice (some ⟨tb,0,none⟩) c.t.toNat c.t.toNat) (.slice none 0 0) (.slice none 0 0)) 42)
  have oM:qal _ w12.heap.size (Mc.new c rs ds) (.slice ao ss.length co) (.slice ap ps.length cp) (.slice ad ds.length cd) p (.slice (some ⟨tb,0,none⟩) c.t.toNat c.t.toNat) (.slice none 0 0) (.slice none 0 0):=Ob.new w12 42 _
  have hsz:w1.heap.size<=w12.heap.size/\tb<w12.heap.size/\p<w12.heap.size/\q<w12.heap.size:=⟨E.size,(Array.getElem?_eq_some_iff.1 B).1,A.lt.1,A.lt.2⟩
  replace A:=A.kept FA
  replace B:=FA.heap B Ll
  replace E:=E.trans FA
  unfold McC Mc.new at FA oM A B E
  simp only at FA oM A B E
  clear FA
  refine ql ⟨E,?_⟩
  refine eoq 10 (fun w13 F13=>?_)
  replace E:=E.trans F13
  replace A:=A.kept F13
  replace B:=F13.heap B Ll
  replace oM:=Ob.up oM F13
  clear F13
  generalize w12.heap.size=b at *
  go_wp2_with fail
  refine ql ⟨E,?_⟩
  refine eoq 11 (fun w14 F14=>?_)
  replace E:=E.trans F14
  replace A:=A.kept F14
  replace B:=F14.heap B Ll
  replace oM:=Ob.up oM F14
  clear F14
  go_wp2_with fail
  refine ql ⟨E,?_⟩
  refine zq Lm (fun w15 F15=>?_)
  have HE:=q9 (qc (HF.out.trans (E.trans F15)) (qc (A.kept F15) (qc (F15.heap B Ll) (qc (Ob.up oM F15) hsz))))
  clear E A B oM F15 hsz
  go_wp2_with fail
  refine bodyPost_ret (v:=.tuple #[.pointer (some ⟨b,0,none⟩),.int .i64 0]) (by simp [results,Tryz.results14,go_sem]) rfl ?_
  obtain ⟨E,A,B,oM,s1,s2,s3,s4⟩:=HE.out
  have hw:=HF.out.size
  have hd:=HPQ.out
  obtain ⟨own,y,hM,e1,e2⟩:=qbo (b:=b) (p:=p) (q:=q) (tb:=tb) HS.out HC.out E oM A B Lj Lj Lj Lj ⟨by omega,by omega,by omega,hd.1,hd.2.1,hd.2.2⟩
  exact ⟨b,own,y,rfl,hM,E,by omega⟩
theorem FrO.ob {N0:Nat} {w w':World} {b:Nat} {T:TypeId} {cs:Array Value} (h:FrO N0 w w') (ho:Ob w b T cs) (hb:b<N0):Ob w' b T cs:=by obtain ⟨S,hS,F⟩:=h;exact Ob.kept ho F (fun hi=>by have:=hS b hi;omega)
theorem FrO.sq {α:Type} {f:α->List Value} {N0:Nat} {w w':World} {v:Value} {xs:List α} (h:FrO N0 w w') (hs:Sq f w v xs) (hb:xs≠[]->∀ k,k∈v.ownBlock.toList->k<N0):Sq f w' v xs:=by obtain ⟨S,hS,F⟩:=h;exact hs.keptN F (fun hne g hg hi=>by have:=hS g hi;have:=hb hne g hg;omega)
def q7x (c:Cf) (rs:List (List O)) (ds:List Int) (ps:List Int):Mc:=ps.foldl Mc.pick (Mc.new c rs ds)
theorem q5y {c:Cf} {rs:List (List O)} {ds ps:List Int} {i:Nat} {p:Int} (h:ps[i]? = some p):q7x c rs ds (ps.take (i+1))=(q7x c rs ds (ps.take i)).pick p:=by unfold q7x;rw [List.take_add_one,h,Option.toList_some,List.foldl_append];rfl
theorem q2x {c:Cf} {rs:List (List O)} {ps0:List Int} (ds:List Int) (h0:Zm c.t c.c c.wd c.v rs ps0=0):∀ (ps:List Int) (N:Nat) (m:Mc),MInv N m->MInv (N+4 * ps.length) (ps.foldl Mc.pick m)
 | [],N,m,h=>h
 | p :: ps,N,m,h=>by
  have:=q2x ds h0 ps (N+4) (m.pick p) (h.pick p);rw [List.foldl_cons,List.length_cons,show N+4 * (ps.length+1)=N+4+4 * ps.length by omega];exact this
theorem q6l {c:Cf} {rs:List (List O)} {ps0:List Int} (ds:List Int) (h0:Zm c.t c.c c.wd c.v rs ps0=0) (ps:List Int):MInv (1+4 * ps.length) (q7x c rs ds ps):=q2x ds h0 ps 1 _ (q8v ds h0)
def PkAt (N0:Nat) (c:Cf) (rs:List (List O)) (ds ps:List Int) (b:Nat) (w1:World) (u:Value) (wr:World):Prop:=∃ i:Nat,i<=ps.length/\u = .int .i64 (i:Nat)/\(∃ own y,je N0 own wr b (q7x c rs ds (ps.take i)) y)/\FrO N0 w1 wr
theorem left_any (c:Cf) (rs:List (List O)) (ps ds:List Int) (ov pv dv:Value) (ss:List Sv) (R:List Nat) (s:Value) (w:World) (hS:q4k w s c rs ps ds ov pv dv ss R) (h0:Zm c.t c.c c.wd c.v rs ps=0) (hp:ps.length<=8000) :
  Calls Tryz.prog 24 #[s] w (q4e w (q7x c rs ds ps).a):=by
 obtain rfl:=hS.val;have HS:=q9 hS;have HC:=q9 h0;obtain ⟨ao,co,hov,-,-,-⟩:=hS.rows.sq;obtain ⟨ap,cp,hpv,-,-,-⟩:=hS.pk;obtain ⟨ad,cd,hdv,-,-,-⟩:=hS.dr;subst hov hpv hdv;have hpk:=hS.pk;have hpl:=fun hne=>Qw hpk hne
 clear hS h0;have F0:=(Fr.refl [] w).alloc (.cells #[.int .i64 c.t,.int .i64 c.c,.int .i64 c.wd,.int .i64 c.v,.slice ao ss.length co,.slice ap ps.length cp,.slice ad ds.length cd] 27);have o0:=Ob.new w 27 #[.int .i64 c.t,.int .i64 c.c,.int .i64 c.wd,.int .i64 c.v,.slice ao ss.length co,.slice ap ps.length cp,.slice ad ds.length cd];have HU:=q9 (HS.out.up F0);have hbl:=Ob.lt o0;have HF0:=q9 F0;clear F0;go_enter Tryz.func24,Tryz.ntmps24;go_wp2_with fail;generalize World.alloc w _=w0 at *;have hw0:=HF0.out.size;generalize hbs:w.heap.size=bs at o0 hbl ⊢;refine (Wl c rs ps ds _ _ _ ss R _ w0 HU.out HC.out).mono ?_;rintro e w1 ⟨b,own,y,rfl,hM,F1,hb⟩;have o1:=Ob.up o0 F1;have HO:=q9 (qc o1 hbl);have HM:=q9 hM;have HF1:=q9 F1;have HP:=q9 (qc (HU.out.pk.up F1) (fun hne g hg=>qj (hpl hne g hg) hw0));clear o0 o1 hM F1 hpk hpl;have HBS:=q9 hbs;clear hbs hbl hb;go_wp2_with fail;go_loopw [5] (fun u wr=>PkAt w0.heap.size c rs ds ps b w1 u wr) (fun u _=>ps.length - (intOf u).toNat);case atStart=>exact ⟨0,Nat.zero_le _,rfl,⟨own,y,HM.out⟩,FrO.refl _ _⟩
 case round =>
  obtain ⟨i,hi,rfl,⟨own2,y2,M2⟩,G⟩:=hrel;have o2:=G.ob HO.out.1 HO.out.2;have c5:=o2.cell (i:=5) rfl;have hs2:=G.sq HP.out.1 HP.out.2;have HG:=q9 G;have HM2:=q9 M2;clear M2 G o2;by_cases hlt:i<ps.length
  ·have HI2:=q9 (show i+1<=ps.length/\ps.length - (i+1)<ps.length - i by omega);have hltz:(i:Int)<(ps.length:Int):=by omega
   have hi0:(0:Int)<=(i:Int):=by omega
   obtain ⟨p,hpi⟩:∃ p,ps[i]? = some p:=⟨ps[i],List.getElem?_eq_getElem hlt⟩;obtain ⟨gp,op,rfl,d0⟩:=X0 hs2 hpi;have HPI:=q9 hpi;have hmv:=q6l ds HC.out (ps.take i);rw [List.length_take,Nat.min_eq_left hi] at hmv;have HMV:=q9 hmv;clear hpi hs2 hmv hlt;go_wp2_with fail;refine (q98 HMV.out Lj HM2.out (qh HF1.out.size HG.out.size) p).mono ?_;rintro e w3 ⟨rfl,hM3,G3⟩;rw [<- q5y HPI.out] at hM3;have HM3:=q9 (qc hM3 (HG.out.trans G3));clear hM3 G3 d0 c5;go_wp2_with fail;go_roundw;case rel=>exact ⟨i+1,HI2.out.1,by simp,HM3.out.1,HM3.out.2⟩
   case measure=>exact meas rfl HI2.out.2
  ·obtain rfl:i=ps.length:=by omega
   have c7:wr.cell? ⟨b,7,none⟩=some (.pointer (some ⟨y2.p,0,none⟩)):=(zw HM2.out.ob).2.2.2.2.2.2.2.1;clear hs2;go_wp2_with fail;go_ret;have hA:=HM2.out.ar;rw [List.take_length] at hA;have h1:=HM2.out.base y2.p (by rw [HM2.out.cp];decide);have h2:=HM2.out.base y2.q (by rw [HM2.out.cq];decide);have hb1:=HBS.out;obtain ⟨S,hS,F⟩:=HG.out;exact ⟨y2.p,y2.q,rfl,by omega,by omega,hA,(HF0.out.trans HF1.out).own F (fun k hk=>by have:=hS k hk;omega)⟩
end Go.Proofs.YthokjbikomjhgaaGreatDoor.Mx
