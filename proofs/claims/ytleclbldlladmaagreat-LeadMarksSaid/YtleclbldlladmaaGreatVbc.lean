/- Parts. -/
import Derived.Test.YtleclbldlladmaaGreatVbb
set_option linter.unusedVariables false
set_option linter.unusedSimpArgs false
set_option maxRecDepth 100000
set_option maxHeartbeats 12800000
namespace Go.Proofs.YtleclbldlladmaaGreat.Mx
open Go.RowKit Ar Ref Og Mp
theorem q69 {N0:Nat->Prop} {own:Nat->Nat} {w:World} {b:Nat} {m:Mc} {y:Lay} {N:Nat} (hI:MInv N m) (hN:N<=4000000) (h:jc N0 own w b m y) (hN0:ju N0 w.heap.size) {n k:Nat} {x:Th} {ve:Ev} (hx:m.t[n]? = some x) (hv:m.e[k]? = some ve) (ho:x.p≠none\/x.g≠none\/x.s≠none) :
  Calls Tryz.prog 50 #[.pointer (some ⟨b,0,none⟩),.int .i64 n,.int .i64 k] w (Vs N0 w b (m.steps (n:Int) k) (.tuple #[])):=by
 cases hp:x.p with
 | some P=>exact qad hI hN h hN0 hx hv P hp
 | none =>
  cases hg:x.g with
  | some P=>exact qbx hI hN h hN0 hx hv P hp hg
  | none =>
   cases hs:x.s with
   | some P=>exact qam hI hN h hN0 hx hv P hp hg hs
   | none=>rw [hp,hg,hs] at ho;simp at ho
theorem jc.overC {N0:Nat->Prop} {own:Nat->Nat} {w:World} {b:Nat} {m:Mc} {y:Lay} (h:jc N0 own w b m y) (t:Int):Calls Tryz.prog 48 #[.pointer (some ⟨b,0,none⟩),.int .i64 t] w fun e w'=>e = .returned (.bool (m.over t))/\Fr [] w w' :=
 q9k m t b y.ov y.pv y.dv y.p y.tv y.kv y.ev y.R y.ss y.ts w h.ob h.fz.rows (Sq.block (f:=fTv) (b:=y.tb) (T:=93) (cs:=(y.ts.flatMap fTv).toArray) h.th Lc rfl (Nat.le_refl _) (by have:=h.thl;have:=h.th8;unfold maxLen;omega)) h.thl (fun i x z e1 e2=>by obtain ⟨B,k,-⟩:=h.thr i x z e1 e2;exact k.1)
def C9 (b:Nat) (v:Value) (w:World):Prop:=w.cell? ⟨b,9,none⟩=some v
theorem C9.up {b:Nat} {v:Value} (w w2:World) (h:C9 b v w) (F:Fr [] w w2):C9 b v w2:=F.cell h Lc
theorem q5n {N0:Nat->Prop} {own:Nat->Nat} {w:World} {b:Nat} {m:Mc} {y:Lay} {N:Nat} (hI:MInv N m) (hN:N<=4000000) (h:jc N0 own w b m y) (t:Int) (ho:m.over t=true) :
  Calls Tryz.prog 26 #[.pointer (some ⟨b,0,none⟩),.int .i64 t] w (Vs N0 w b (m.pick t) (.bool false)):=by
 have hX:m.pick t = { m with idle:=m.idle+1,now:=m.now+1 }:=by unfold Mc.pick;rw [qf ho]
 rw [hX];have hnw:=hI.now;have hid:=hI.idle;have H:=q9 h;clear h;go_enter Tryz.func26,Tryz.ntmps26;go_wp2_with fail;refine (H.out.overC t).mono ?_;rintro e w1 ⟨rfl,F1⟩;rw [ho];have H1:=q9 (H.out.up F1);have HF:=q9 F1;clear F1 ho;go_wp2_with fail;refine qp Le ?_;obtain ⟨-,-,-,-,-,-,-,-,-,c9,-,-,-⟩:=zw H1.out.ob;refine q1s (C9 b (.int .i64 m.now)) #[true,true,true,true,true,true,true,true,true,true,true,true,true,true,true,true,true,false] 17 1 rfl ?_;refine Rk C9.up [true,true,true,true,true,false,false,true,true,true,true,true,false,false,false,false,false,false] 7 (n:=77) (listed':=#[true,true,true,true,true,false,false,true,true,true,true,true,false,false,false,false,false,false]) rfl Le Le Le Le rfl Le (fun _ _ d _ _ h=>by cases d <;> exact h) (C9.up w1 _ c9 ((Fr.refl _ _).drew)) ?_;apply qg;refine ⟨fun wf Ff=>?_,?_⟩
 ·have k9:=qb (show wf.cell? ⟨b,9,none⟩=some (.int .i64 m.now) from Ff);exact Ab
 clear c9;refine jl 5 Le rfl rfl (fun w3 F3=>?_);have F2:=(Fr.refl [] w1).drew.trans F3;clear F3;obtain ⟨-,-,-,-,-,-,-,-,-,c9,c10,-,-⟩:=zw (H1.out.up F2).ob;go_wp2_with fail;refine ql ⟨c9,?_⟩;clear c9 c10;refine jl 6 Le rfl rfl (fun w4 FN=>?_);replace F2:=F2.trans FN;clear FN;obtain ⟨-,-,-,-,-,-,-,-,-,c9,c10,-,-⟩:=zw (H1.out.up F2).ob;go_wp2_with fail;refine ql ⟨c9,?_⟩;clear c9 c10;refine jl 12 Le rfl rfl (fun w5 FN=>?_);replace F2:=F2.trans FN;clear FN;obtain ⟨-,-,-,-,-,-,-,-,-,c9,c10,-,-⟩:=zw (H1.out.up F2).ob;go_wp2_with fail;refine ql ⟨c9,?_⟩;clear c9 c10;refine jl 13 Le rfl rfl (fun w6 FN=>?_);replace F2:=F2.trans FN;clear FN;obtain ⟨-,-,-,-,-,-,-,-,-,c9,c10,-,-⟩:=zw (H1.out.up F2).ob;go_wp2_with fail;refine ql ⟨c9,?_⟩;clear c9 c10;refine jl 14 Le rfl rfl (fun w7 FN=>?_);replace F2:=F2.trans FN;clear FN;have H5:=H1.out.up F2;obtain ⟨-,-,-,-,-,-,-,-,-,c9,c10,-,-⟩:=zw H5.ob;have z:=H5.ob.frozen;have K5:=H5.setIdle (m.idle+1);obtain ⟨-,-,-,-,-,-,-,-,-,d9,-,-,-⟩:=zw K5.1.ob;have HF5:=q9 ((FrO.of HF.out Lc).trans ((FrO.of F2 Lc).trans K5.2));have HK5:=q9 K5.1;clear K5 H5 F2;go_wp2_with fail;clear c9 c10 z;generalize (w7.setCell ⟨b,10,none⟩ (.int .i64 (m.idle+1)))=w8 at *;refine ql ⟨d9,?_⟩;clear d9;refine jl 15 Le rfl rfl (fun w9 F9=>?_);have G:=F9;clear F9;obtain ⟨-,-,-,-,-,-,-,-,-,c9,-,-,-⟩:=zw (HK5.out.up G).ob;go_wp2_with fail;refine ql ⟨c9,?_⟩;clear c9;refine jl 16 Le rfl rfl (fun wA FN=>?_);replace G:=G.trans FN;clear FN;obtain ⟨-,-,-,-,-,-,-,-,-,c9,-,-,-⟩:=zw (HK5.out.up G).ob;go_wp2_with fail;refine ql ⟨c9,?_⟩;clear c9;refine Rm (k:=17) rfl Le (fun wB FN=>?_);replace G:=G.trans FN;clear FN;have H9:=HK5.out.up G;obtain ⟨-,-,-,-,-,-,-,-,-,c9,-,-,-⟩:=zw H9.ob;have z:=H9.ob.frozen;have K9:=H9.setNow (m.now+1);have HE:=q9 (qc K9.1 (HF5.out.trans ((FrO.of G Lc).trans K9.2)));clear K9 H9 G;go_wp2_with fail;go_ret;exact ⟨rfl,⟨_,_,HE.out.1⟩,HE.out.2⟩
theorem q6s {N0:Nat->Prop} {own:Nat->Nat} {w:World} {b:Nat} {m:Mc} {y:Lay} {N:Nat} (hI:MInv N m) (hN:N+4<=4000000) (h:jc N0 own w b m y) (hN0:ju N0 w.heap.size) (t:Int) (ho:m.over t=false) :
  Calls Tryz.prog 26 #[.pointer (some ⟨b,0,none⟩),.int .i64 t] w (Vs N0 w b (m.pick t) (.bool true)):=by
 obtain ⟨n,x,rfl,hx,hth,hnb⟩:=Jc ho;have hnl:=(List.getElem?_eq_some_iff.1 hx).1;obtain ⟨z,hz⟩:∃ z,y.ts[n]? = some z:=⟨y.ts[n]'(by rw [h.thl];exact hnl),List.getElem?_eq_getElem _⟩;have hbz:=((h.thr n x z hx hz).choose_spec.1.1).2.1;have H:=q9 h;have HI:=q9 hI;have HO:=q9 ho;have hlz0:(n:Int)<(y.ts.length:Int):=by rw [h.thl];omega
 clear h hI ho;have HXX:=q9 (qc hx (qc hz (qc hth (qc hnb (qc hbz hnl)))));clear hx hz hth hnb hbz hnl;cases hb:x.busy
 focus
  have HB:=q9 hb
  clear hb
  go_enter Tryz.func26,Tryz.ntmps26
  go_wp2_with fail
  refine (H.out.overC (n:Int)).mono ?_;rintro e w0 ⟨rfl,F1⟩
  rw [HO.out]
  have M0:=H.out.up F1
  obtain ⟨-,-,-,-,-,-,-,-,c8,-,-,-,-⟩:=zw M0.ob
  unfold Lay.tv at c8
  have t1:=xj M0.th HXX.out.2.1 (j:=1) Lg rfl
  rw [HXX.out.2.2.2.2.1,HB.out] at t1
  have HF0:=q9 (FrO.of (N0:=N0) F1 Lc)
  have HM0:=q9 M0
  clear M0 F1
  go_wp2_with fail
  refine (q4h HI.out Lb HM0.out (ju.up hN0 HF0.out.size) HXX.out.1 (HXX.out.2.2.2.1 HB.out)).mono ?_;rintro e w1 ⟨rfl,hM,G⟩
  have HF1:=q9 (HF0.out.trans G)
  have HM1:=q9 hM
  obtain ⟨m1,hm1⟩:∃ m1,m1=m.begins (n:Int):=⟨_,rfl⟩
  have HE:=q9 (show (if (m.th (n:Int)).busy=true then m else m.begins (n:Int))=m1 by rw [HXX.out.2.2.1,HB.out];simp [hm1])
  have HI1:=q9 (show MInv (N+1) m1 by rw [hm1];exact HI.out.begins HXX.out.1 (HXX.out.2.2.2.1 HB.out))
  obtain ⟨x1,hx1e⟩:∃ x1,x1=m.begun (n:Int):=⟨_,rfl⟩
  have HX1:=q9 (show m1.t[n]? = some x1/\x1.busy=true by rw [hm1,hx1e];exact ⟨by unfold Mc.begins;simp only [Int.toNat_natCast];exact List.getElem?_set_self HXX.out.2.2.2.2.2,(q2f HI.out HXX.out.1 (HXX.out.2.2.2.1 HB.out)).2.1⟩)
  have HN1:=q9 (show m1.th (n:Int)=x1 by unfold Mc.th;rw [Int.toNat_natCast,List.getD_eq_getElem?_getD,HX1.out.1];rfl)
  rw [<- hm1] at HM1
  clear hm1 hx1e G hM c8 t1 hlz0
  clear HF0 HM0
 rotate_left
 focus
  have HB:=q9 hb
  clear hb
  go_enter Tryz.func26,Tryz.ntmps26
  go_wp2_with fail
  refine (H.out.overC (n:Int)).mono ?_;rintro e w1 ⟨rfl,F1⟩
  rw [HO.out]
  have M0:=H.out.up F1
  have HF1:=q9 (FrO.of (N0:=N0) F1 Lc)
  have HM1:=q9 (show ∃ own1 y1,jc N0 own1 w1 b m y1 from ⟨_,_,M0⟩)
  obtain ⟨m1,hm1⟩:∃ m1,m1=m:=⟨_,rfl⟩
  have HE:=q9 (show (if (m.th (n:Int)).busy=true then m else m.begins (n:Int))=m1 by rw [HXX.out.2.2.1,HB.out];simp [hm1])
  have HI1:=q9 (show MInv (N+1) m1 by rw [hm1];exact HI.out.more)
  obtain ⟨x1,hx1e⟩:∃ x1,x1=x:=⟨_,rfl⟩
  have HX1:=q9 (show m1.t[n]? = some x1/\x1.busy=true by rw [hm1,hx1e];exact ⟨HXX.out.1,HB.out⟩)
  have HN1:=q9 (show m1.th (n:Int)=x1 by rw [hm1,hx1e];exact HXX.out.2.2.1)
  rw [<- hm1] at HM1
  clear M0 hm1 hx1e F1 hlz0
 rotate_left
 all_goals
  obtain ⟨hx1,hb1⟩:=HX1.out
  obtain ⟨ho1,k,hk⟩:=HI1.out.busy n x1 hx1 hb1
  obtain ⟨ve,hve,-,-⟩:=Jk hk
  obtain ⟨own1,y1,M1⟩:=HM1.out
  obtain ⟨z1,hz1⟩:∃ z1,y1.ts[n]? = some z1:=⟨y1.ts[n]'(by rw [M1.thl];exact (List.getElem?_eq_some_iff.1 hx1).1),List.getElem?_eq_getElem _⟩
  have hnx:=((M1.thr n x1 z1 hx1 hz1).choose_spec.1.1).1
  have ht1:=HI1.out.th n x1 hx1
  have hn0:=ht1.n0
  have hn1:x1.next<=1000:=by have:=HI1.out.opsl (n:Int);have:=ht1.n1;omega
  obtain ⟨-,-,-,-,-,-,-,c7,c8,-,-,-,-⟩:=zw M1.ob
  unfold Lay.tv at c8
  have t0:=xj M1.th hz1 (j:=0) Lg rfl
  rw [Nat.add_zero,hnx] at t0
  have t1:=xj M1.th hz1 (j:=1) Lg rfl
  rw [((M1.thr n x1 z1 hx1 hz1).choose_spec.1.1).2.1,hb1] at t1
  obtain ⟨-,-,-,r1,-,-,-,-,-,-⟩:=Xj M1.ar
  have hlz:(n:Int)<(y1.ts.length:Int):=by rw [M1.thl];have:=(List.getElem?_eq_some_iff.1 hx1).1;omega
  have hel:y1.es.length<=100000000:=by rw [M1.esl];have:=HI1.out.el;omega
  have HM:=q9 M1
  have HV:=q9 (qc hk (qc hve (qc ho1 hel)))
  clear M1 hk hve ho1 hx1 hb1 hz1 hnx ht1 hel
  go_wp2_with fail
  refine (Rs m1 (n:Int) (x1.next - 1) b _ _ _ _ _ _ _ y1.es w1 HV.out.2.2.2 HM.out.ob (Sq.own (f:=fEv) HM.out.ev)).mono ?_;rintro e w2 ⟨rfl,rfl⟩
  rw [HM.out.evl,show q4x m1.e (n:Int) (x1.next - 1)=(k:Int) from q1t (by rw [<- Ux];exact HV.out.1)]
  go_wp2_with fail
  refine (q69 HI1.out Lb HM.out (ju.up hN0 HF1.out.size) HX1.out.1 HV.out.2.1 HV.out.2.2.1).mono ?_;rintro e w3 ⟨rfl,⟨own2,y2,M2⟩,G2⟩
  have HI2:=q9 (HI1.out.steps Lb HX1.out.1 HV.out.2.1)
  have HST:=q9 (show m1.steps (n:Int) k=m1.steps (n:Int) k from rfl)
  generalize hm2:m1.steps (n:Int) k=m2 at *
  have HM2:=q9 hm2
  obtain ⟨-,-,-,-,-,-,-,d7,-,-,-,-,-⟩:=zw M2.ob
  obtain ⟨-,-,-,s1,-,-,-,-,-,-⟩:=Xj M2.ar
  have HMM:=q9 M2
  have HG2:=q9 (HF1.out.trans G2)
  clear M2 G2 hm2 c7 c8 t0 t1 r1
  have hP:m.pick (n:Int)=(let m3:=if m1.a.n<m2.a.n then m2.notes else m2;{ m3 with now:=m3.now+1 }):=by
   unfold Mc.pick
   rw [qd O2]
   simp only [HE.out]
   rw [HN1.out,HV.out.1]
   simp only [HM2.out]
  have HP:=q9 hP
  clear hP
  by_cases hlt:m1.a.n<m2.a.n
  ·have g1:decide (m2.a.n>m1.a.n)=true:=by simpa using hlt
   have g2:decide (m1.a.n<m2.a.n)=true:=by simpa using hlt
   have HL:=q9 hlt
   clear hlt
   go_wp2_with fail
   refine (q5e HI2.out Lb HMM.out (ju.up hN0 HG2.out.size)).mono ?_;rintro e w4 ⟨rfl,⟨own3,y3,M3⟩,G3⟩
   have hnw:=HI2.out.notes.now
   obtain ⟨-,-,-,-,-,-,-,-,-,f9,-,-,-⟩:=zw M3.ob
   have z:=M3.ob.frozen
   have HM3:=q9 M3
   have HG3:=q9 (HG2.out.trans G3)
   clear M3 G3
   generalize hm3:m2.notes=m3 at *
   have HMN:=q9 hm3
   clear hm3
   go_wp2_with fail
   go_ret
   obtain ⟨K,G⟩:=HM3.out.setNow (m3.now+1)
   rw [HP.out];simp only [qf HL.out,HMN.out]
   exact ⟨rfl,⟨_,_,K⟩,HG3.out.trans G⟩
  have g1:decide (m2.a.n>m1.a.n)=false:=by simpa using hlt
  have g2:decide (m1.a.n<m2.a.n)=false:=by simpa using hlt
  have HL:=q9 hlt
  clear hlt
  have hnw:=HI2.out.now
  obtain ⟨-,-,-,-,-,-,-,-,-,f9,-,-,-⟩:=zw HMM.out.ob
  have z:=HMM.out.ob.frozen
  go_wp2_with fail
  go_ret
  obtain ⟨K,G⟩:=HMM.out.setNow (m2.now+1)
  rw [HP.out];simp only [qd (show ¬ m1.a.n<m2.a.n by have:=HL.out;omega)]
  exact ⟨rfl,⟨_,_,K⟩,HG2.out.trans G⟩
theorem q2g {N0:Nat->Prop} {own:Nat->Nat} {w:World} {b:Nat} {m:Mc} {y:Lay} {N:Nat} (hI:MInv N m) (hN:N+4<=4000000) (h:jc N0 own w b m y) (hN0:ju N0 w.heap.size) (t:Int) :
  Calls Tryz.prog 26 #[.pointer (some ⟨b,0,none⟩),.int .i64 t] w (Vs N0 w b (m.pick t) (.bool (!m.over t))):=by
 cases ho:m.over t with
 | true=>exact q5n hI Lb h t ho
 | false=>exact q6s hI hN h hN0 t ho
end Go.Proofs.YtleclbldlladmaaGreat.Mx
