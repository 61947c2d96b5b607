/- Parts. -/
import Derived.Test.YtbddhncgemeohaaGreatDoorYad
import Derived.Test.YtbddhncgemeohaaGreatDoorYah
import Derived.Test.YtbddhncgemeohaaGreatDoorYbc
import Derived.Test.YtbddhncgemeohaaGreatDoorYbe
import Derived.Test.YtbddhncgemeohaaGreatDoorYbf
set_option linter.unusedVariables false
set_option linter.unusedSimpArgs false
set_option maxRecDepth 100000
set_option maxHeartbeats 12800000
namespace Go.Proofs.YtbddhncgemeohaaGreatDoor.Mx
open Go.RowKit Ar Ref Og Mp
theorem q6b {N0:Nat} {own:Nat->Nat} {w:World} {b:Nat} {m:Mc} {y:Lay} {N:Nat} (hI:MInv N m) (hN:N<=40000) (h:ji N0 own w b m y) (hN0:N0<=w.heap.size) {n k:Nat} {x:Th} {ve:Ev} (hx:m.t[n]? = some x) (hv:m.e[k]? = some ve) (ho:x.p≠none\/x.g≠none\/x.s≠none) :
  Calls Tryz.prog 49 #[.pointer (some ⟨b,0,none⟩),.int .i64 n,.int .i64 k] w (Vx N0 w b (m.steps (n:Int) k) (.tuple #[])):=by
 cases hp:x.p with
 | some P=>exact qc8 hI hN h hN0 hx hv P hp
 | none =>
  cases hg:x.g with
  | some P=>exact qc5 hI hN h hN0 hx hv P hp hg
  | none =>
   cases hs:x.s with
   | some P=>exact qay hI hN h hN0 hx hv P hp hg hs
   | none=>rw [hp,hg,hs] at ho;simp at ho
theorem ji.overC {N0:Nat} {own:Nat->Nat} {w:World} {b:Nat} {m:Mc} {y:Lay} (h:ji N0 own w b m y) (t:Int):Calls Tryz.prog 47 #[.pointer (some ⟨b,0,none⟩),.int .i64 t] w fun e w'=>e = .returned (.bool (m.over t))/\Fr [] w w' :=
 q8o m t b y.ov y.pv y.dv y.p y.tv y.kv y.ev y.R y.ss y.ts w h.ob h.fz.rows (Sq.block (f:=fTv) (b:=y.tb) (T:=91) (cs:=(y.ts.flatMap fTv).toArray) h.th Ma rfl (Nat.le_refl _) (by have:=h.thl;have:=h.th8;unfold maxLen;omega)) h.thl (fun i x z e1 e2=>by obtain ⟨B,k,-⟩:=h.thr i x z e1 e2;exact k.1)
def C9 (b:Nat) (v:Value) (w:World):Prop:=w.cell? ⟨b,9,none⟩=some v
theorem C9.up {b:Nat} {v:Value} (w w2:World) (h:C9 b v w) (F:Fr [] w w2):C9 b v w2:=F.cell h Ma
theorem q74 {N0:Nat} {own:Nat->Nat} {w:World} {b:Nat} {m:Mc} {y:Lay} {N:Nat} (hI:MInv N m) (hN:N<=40000) (h:ji N0 own w b m y) (t:Int) (ho:m.over t=true) :
  Calls Tryz.prog 27 #[.pointer (some ⟨b,0,none⟩),.int .i64 t] w (Vx N0 w b (m.pick t) (.bool false)):=by
 have hX:m.pick t = { m with idle:=m.idle+1,now:=m.now+1 }:=by unfold Mc.pick;rw [qg ho]
 rw [hX];have hnw:=hI.now;have hid:=hI.idle;have H:=qb h;clear h;go_enter Tryz.func27,Tryz.ntmps27;go_wp2_with fail;refine (H.out.overC t).mono ?_;rintro e w1 ⟨rfl,F1⟩;rw [ho];have H1:=qb (H.out.up F1);have HF:=qb F1;clear F1 ho;go_wp2_with fail;refine qq Me ?_;obtain ⟨-,-,-,-,-,-,-,-,-,c9,-,-,-⟩:=zz H1.out.ob;refine q20 (C9 b (.int .i64 m.now)) #[true,true,true,true,true,true,true,true,true,true,true,true,true,true,true,true,true,false] 17 1 rfl ?_;refine Sz C9.up [true,true,true,true,true,false,false,true,true,true,true,true,false,false,false,false,false,false] 7 (n:=77) (listed':=#[true,true,true,true,true,false,false,true,true,true,true,true,false,false,false,false,false,false]) rfl Me Me Me Me rfl Me (fun _ _ d _ _ h=>by cases d <;> exact h) (C9.up w1 _ c9 ((Fr.refl _ _).drew)) ?_;apply qh;refine ⟨fun wf Ff=>?_,?_⟩
 ·have k9:=qc (show wf.cell? ⟨b,9,none⟩=some (.int .i64 m.now) from Ff);exact Ac
 clear c9;refine jo 5 Me rfl rfl (fun w3 F3=>?_);have F2:=(Fr.refl [] w1).drew.trans F3;clear F3;obtain ⟨-,-,-,-,-,-,-,-,-,c9,c10,-,-⟩:=zz (H1.out.up F2).ob;go_wp2_with fail;refine qo ⟨c9,?_⟩;clear c9 c10;refine jo 6 Me rfl rfl (fun w4 FN=>?_);replace F2:=F2.trans FN;clear FN;obtain ⟨-,-,-,-,-,-,-,-,-,c9,c10,-,-⟩:=zz (H1.out.up F2).ob;go_wp2_with fail;refine qo ⟨c9,?_⟩;clear c9 c10;refine jo 12 Me rfl rfl (fun w5 FN=>?_);replace F2:=F2.trans FN;clear FN;obtain ⟨-,-,-,-,-,-,-,-,-,c9,c10,-,-⟩:=zz (H1.out.up F2).ob;go_wp2_with fail;refine qo ⟨c9,?_⟩;clear c9 c10;refine jo 13 Me rfl rfl (fun w6 FN=>?_);replace F2:=F2.trans FN;clear FN;obtain ⟨-,-,-,-,-,-,-,-,-,c9,c10,-,-⟩:=zz (H1.out.up F2).ob;go_wp2_with fail;refine qo ⟨c9,?_⟩;clear c9 c10;refine jo 14 Me rfl rfl (fun w7 FN=>?_);replace F2:=F2.trans FN;clear FN;have H5:=H1.out.up F2;obtain ⟨-,-,-,-,-,-,-,-,-,c9,c10,-,-⟩:=zz H5.ob;have z:=H5.ob.frozen;have K5:=H5.setIdle (m.idle+1);obtain ⟨-,-,-,-,-,-,-,-,-,d9,-,-,-⟩:=zz K5.1.ob;have HF5:=qb ((FrO.of HF.out Ma).trans ((FrO.of F2 Ma).trans K5.2));have HK5:=qb K5.1;clear K5 H5 F2;go_wp2_with fail;clear c9 c10 z;generalize (w7.setCell ⟨b,10,none⟩ (.int .i64 (m.idle+1)))=w8 at *;refine qo ⟨d9,?_⟩;clear d9;refine jo 15 Me rfl rfl (fun w9 F9=>?_);have G:=F9;clear F9;obtain ⟨-,-,-,-,-,-,-,-,-,c9,-,-,-⟩:=zz (HK5.out.up G).ob;go_wp2_with fail;refine qo ⟨c9,?_⟩;clear c9;refine jo 16 Me rfl rfl (fun wA FN=>?_);replace G:=G.trans FN;clear FN;obtain ⟨-,-,-,-,-,-,-,-,-,c9,-,-,-⟩:=zz (HK5.out.up G).ob;go_wp2_with fail;refine qo ⟨c9,?_⟩;clear c9;refine Sa (k:=17) rfl Me (fun wB FN=>?_);replace G:=G.trans FN;clear FN;have H9:=HK5.out.up G;obtain ⟨-,-,-,-,-,-,-,-,-,c9,-,-,-⟩:=zz H9.ob;have z:=H9.ob.frozen;have K9:=H9.setNow (m.now+1);have HE:=qb (qd K9.1 (HF5.out.trans ((FrO.of G Ma).trans K9.2)));clear K9 H9 G;go_wp2_with fail;go_ret;exact ⟨rfl,⟨_,_,HE.out.1⟩,HE.out.2⟩
theorem q77 {N0:Nat} {own:Nat->Nat} {w:World} {b:Nat} {m:Mc} {y:Lay} {N:Nat} (hI:MInv N m) (hN:N+4<=40000) (h:ji N0 own w b m y) (hN0:N0<=w.heap.size) (t:Int) (ho:m.over t=false) :
  Calls Tryz.prog 27 #[.pointer (some ⟨b,0,none⟩),.int .i64 t] w (Vx N0 w b (m.pick t) (.bool true)):=by
 obtain ⟨n,x,rfl,hx,hth,hnb⟩:=U7 ho;have hnl:=(List.getElem?_eq_some_iff.1 hx).1;obtain ⟨z,hz⟩:∃ z,y.ts[n]? = some z:=⟨y.ts[n]'(by rw [h.thl];exact hnl),List.getElem?_eq_getElem _⟩;have hbz:=((h.thr n x z hx hz).choose_spec.1.1).2.1;have H:=qb h;have HI:=qb hI;have HO:=qb ho;have hlz0:(n:Int)<(y.ts.length:Int):=by rw [h.thl];omega
 clear h hI ho;have HXX:=qb (qd hx (qd hz (qd hth (qd hnb (qd hbz hnl)))));clear hx hz hth hnb hbz hnl;cases hb:x.busy
 focus
  have HB:=qb hb
  clear hb
  go_enter Tryz.func27,Tryz.ntmps27
  go_wp2_with fail
  refine (H.out.overC (n:Int)).mono ?_;rintro e w0 ⟨rfl,F1⟩
  rw [HO.out]
  have M0:=H.out.up F1
  obtain ⟨-,-,-,-,-,-,-,-,c8,-,-,-,-⟩:=zz M0.ob
  unfold Lay.tv at c8
  have t1:=xw M0.th HXX.out.2.1 (j:=1) Mg rfl
  rw [HXX.out.2.2.2.2.1,HB.out] at t1
  have HF0:=qb (FrO.of (N0:=N0) F1 Ma)
  have HM0:=qb M0
  clear M0 F1
  go_wp2_with fail
  refine (q3i HI.out Ly HM0.out (qi hN0 HF0.out.size) HXX.out.1 (HXX.out.2.2.2.1 HB.out)).mono ?_;rintro e w1 ⟨rfl,hM,G⟩
  have HF1:=qb (HF0.out.trans G)
  have HM1:=qb hM
  obtain ⟨m1,hm1⟩:∃ m1,m1=m.begins (n:Int):=⟨_,rfl⟩
  have HE:=qb (show (if (m.th (n:Int)).busy=true then m else m.begins (n:Int))=m1 by rw [HXX.out.2.2.1,HB.out];simp [hm1])
  have HI1:=qb (show MInv (N+1) m1 by rw [hm1];exact HI.out.begins HXX.out.1 (HXX.out.2.2.2.1 HB.out))
  obtain ⟨x1,hx1e⟩:∃ x1,x1=m.begun (n:Int):=⟨_,rfl⟩
  have HX1:=qb (show m1.t[n]? = some x1/\x1.busy=true by rw [hm1,hx1e];exact ⟨by unfold Mc.begins;simp only [Int.toNat_natCast];exact List.getElem?_set_self HXX.out.2.2.2.2.2,(q2p HI.out HXX.out.1 (HXX.out.2.2.2.1 HB.out)).2.1⟩)
  have HN1:=qb (show m1.th (n:Int)=x1 by unfold Mc.th;rw [Int.toNat_natCast,List.getD_eq_getElem?_getD,HX1.out.1];rfl)
  rw [<- hm1] at HM1
  clear hm1 hx1e G hM c8 t1 hlz0
  clear HF0 HM0
 rotate_left
 focus
  have HB:=qb hb
  clear hb
  go_enter Tryz.func27,Tryz.ntmps27
  go_wp2_with fail
  refine (H.out.overC (n:Int)).mono ?_;rintro e w1 ⟨rfl,F1⟩
  rw [HO.out]
  have M0:=H.out.up F1
  have HF1:=qb (FrO.of (N0:=N0) F1 Ma)
  have HM1:=qb (show ∃ own1 y1,ji N0 own1 w1 b m y1 from ⟨_,_,M0⟩)
  obtain ⟨m1,hm1⟩:∃ m1,m1=m:=⟨_,rfl⟩
  have HE:=qb (show (if (m.th (n:Int)).busy=true then m else m.begins (n:Int))=m1 by rw [HXX.out.2.2.1,HB.out];simp [hm1])
  have HI1:=qb (show MInv (N+1) m1 by rw [hm1];exact HI.out.more)
  obtain ⟨x1,hx1e⟩:∃ x1,x1=x:=⟨_,rfl⟩
  have HX1:=qb (show m1.t[n]? = some x1/\x1.busy=true by rw [hm1,hx1e];exact ⟨HXX.out.1,HB.out⟩)
  have HN1:=qb (show m1.th (n:Int)=x1 by rw [hm1,hx1e];exact HXX.out.2.2.1)
  rw [<- hm1] at HM1
  clear M0 hm1 hx1e F1 hlz0
 rotate_left
 all_goals
  obtain ⟨hx1,hb1⟩:=HX1.out
  obtain ⟨ho1,k,hk⟩:=HI1.out.busy n x1 hx1 hb1
  obtain ⟨ve,hve,-,-⟩:=Jc hk
  obtain ⟨own1,y1,M1⟩:=HM1.out
  obtain ⟨z1,hz1⟩:∃ z1,y1.ts[n]? = some z1:=⟨y1.ts[n]'(by rw [M1.thl];exact (List.getElem?_eq_some_iff.1 hx1).1),List.getElem?_eq_getElem _⟩
  have hnx:=((M1.thr n x1 z1 hx1 hz1).choose_spec.1.1).1
  have ht1:=HI1.out.th n x1 hx1
  have hn0:=ht1.n0
  have hn1:x1.next<=1000:=by have:=HI1.out.opsl (n:Int);have:=ht1.n1;omega
  obtain ⟨-,-,-,-,-,-,-,c7,c8,-,-,-,-⟩:=zz M1.ob
  unfold Lay.tv at c8
  have t0:=xw M1.th hz1 (j:=0) Mg rfl
  rw [Nat.add_zero,hnx] at t0
  have t1:=xw M1.th hz1 (j:=1) Mg rfl
  rw [((M1.thr n x1 z1 hx1 hz1).choose_spec.1.1).2.1,hb1] at t1
  obtain ⟨-,-,-,r1,-,-,-,-,-,-⟩:=Zy M1.ar
  have hlz:(n:Int)<(y1.ts.length:Int):=by rw [M1.thl];have:=(List.getElem?_eq_some_iff.1 hx1).1;omega
  have hel:y1.es.length<=1000000:=by rw [M1.esl];have:=HI1.out.el;omega
  have HM:=qb M1
  have HV:=qb (qd hk (qd hve (qd ho1 hel)))
  clear M1 hk hve ho1 hx1 hb1 hz1 hnx ht1 hel
  go_wp2_with fail
  refine (q02 m1 (n:Int) (x1.next - 1) b _ _ _ _ _ _ _ y1.es w1 HV.out.2.2.2 HM.out.ob (Sq.own (f:=fEv) HM.out.ev)).mono ?_;rintro e w2 ⟨rfl,rfl⟩
  rw [HM.out.evl,show q59 m1.e (n:Int) (x1.next - 1)=(k:Int) from q27 (by rw [<- Uh];exact HV.out.1)]
  go_wp2_with fail
  refine (q6b HI1.out Ly HM.out (qi hN0 HF1.out.size) HX1.out.1 HV.out.2.1 HV.out.2.2.1).mono ?_;rintro e w3 ⟨rfl,⟨own2,y2,M2⟩,G2⟩
  have HI2:=qb (HI1.out.steps Ly HX1.out.1 HV.out.2.1)
  have HST:=qb (show m1.steps (n:Int) k=m1.steps (n:Int) k from rfl)
  generalize hm2:m1.steps (n:Int) k=m2 at *
  have HM2:=qb hm2
  obtain ⟨-,-,-,-,-,-,-,d7,-,-,-,-,-⟩:=zz M2.ob
  obtain ⟨-,-,-,s1,-,-,-,-,-,-⟩:=Zy M2.ar
  have HMM:=qb M2
  have HG2:=qb (HF1.out.trans G2)
  clear M2 G2 hm2 c7 c8 t0 t1 r1
  have hP:m.pick (n:Int)=(let m3:=if m1.a.n<m2.a.n then m2.notes else m2;{ m3 with now:=m3.now+1 }):=by
   unfold Mc.pick
   rw [qf Ow]
   simp only [HE.out]
   rw [HN1.out,HV.out.1]
   simp only [HM2.out]
  have HP:=qb hP
  clear hP
  by_cases hlt:m1.a.n<m2.a.n
  ·have g1:decide (m2.a.n>m1.a.n)=true:=by simpa using hlt
   have g2:decide (m1.a.n<m2.a.n)=true:=by simpa using hlt
   have HL:=qb hlt
   clear hlt
   go_wp2_with fail
   refine (q5n HI2.out Ly HMM.out (qi hN0 HG2.out.size)).mono ?_;rintro e w4 ⟨rfl,⟨own3,y3,M3⟩,G3⟩
   have hnw:=HI2.out.notes.now
   obtain ⟨-,-,-,-,-,-,-,-,-,f9,-,-,-⟩:=zz M3.ob
   have z:=M3.ob.frozen
   have HM3:=qb M3
   have HG3:=qb (HG2.out.trans G3)
   clear M3 G3
   generalize hm3:m2.notes=m3 at *
   have HMN:=qb hm3
   clear hm3
   go_wp2_with fail
   go_ret
   obtain ⟨K,G⟩:=HM3.out.setNow (m3.now+1)
   rw [HP.out];simp only [qg HL.out,HMN.out]
   exact ⟨rfl,⟨_,_,K⟩,HG3.out.trans G⟩
  have g1:decide (m2.a.n>m1.a.n)=false:=by simpa using hlt
  have g2:decide (m1.a.n<m2.a.n)=false:=by simpa using hlt
  have HL:=qb hlt
  clear hlt
  have hnw:=HI2.out.now
  obtain ⟨-,-,-,-,-,-,-,-,-,f9,-,-,-⟩:=zz HMM.out.ob
  have z:=HMM.out.ob.frozen
  go_wp2_with fail
  go_ret
  obtain ⟨K,G⟩:=HMM.out.setNow (m2.now+1)
  rw [HP.out];simp only [qf (show ¬ m1.a.n<m2.a.n by have:=HL.out;omega)]
  exact ⟨rfl,⟨_,_,K⟩,HG2.out.trans G⟩
theorem q8y {N0:Nat} {own:Nat->Nat} {w:World} {b:Nat} {m:Mc} {y:Lay} {N:Nat} (hI:MInv N m) (hN:N+4<=40000) (h:ji N0 own w b m y) (hN0:N0<=w.heap.size) (t:Int) :
  Calls Tryz.prog 27 #[.pointer (some ⟨b,0,none⟩),.int .i64 t] w (Vx N0 w b (m.pick t) (.bool (!m.over t))):=by
 cases ho:m.over t with
 | true=>exact q74 hI Ly h t ho
 | false=>exact q77 hI hN h hN0 t ho
structure Tf (w:World) (s:Value) (c:Cf) (rs:List (List O)) (ps ds:List Int) (ov pv dv:Value) (ss:List Sv) (R:List Nat):Prop where
 val:s = .agg #[.int .i64 c.t,.int .i64 c.c,.int .i64 c.wd,.int .i64 c.v,ov,pv,dv]
 scr:Scr w s c.t c.c c.wd c.v rs ps ds
 rows:R7 w R ov ss rs
 dr:Sq fI w dv ds
 drR:ds≠[]->∀ k,k∈dv.ownBlock.toList->k∈R
 pk:Sq fI w pv ps
 lt:∀ k,k∈R->k<w.heap.size
theorem Tf.up {w w':World} {s:Value} {c:Cf} {rs:List (List O)} {ps ds:List Int} {ov pv dv:Value} {ss:List Sv} {R:List Nat} (h:Tf w s c rs ps ds ov pv dv ss R) (F:Fr [] w w'):Tf w' s c rs ps ds ov pv dv ss R :=
 ⟨h.val,h.scr.up F,h.rows.kept F Ma,h.dr.up F,h.drR,h.pk.up F,fun k hk=>ql (h.lt k hk) F.size⟩
def Mc.new (c:Cf) (rs:List (List O)) (ds:List Int):Mc:=⟨c,rs,ds,Pl.begun c.t c.c c.wd,List.replicate c.t.toNat Th.new,0,0,[],[]⟩
theorem q1d {c:Cf} {rs:List (List O)} {ps:List Int} (h:Z0 c.t c.c c.wd c.v rs ps=0):c.Ok/\Pl.form c.t c.c c.wd c.v=true/\large c.t rs ps=false/\rs.all qd0=true:=by
 unfold Z0 at h;split at h
 ·rename_i h0;unfold Pl.code at h0;split at h0
  ·rename_i hf;split at h0
   ·rename_i ht;split at h
    ·cases h
    rename_i hl;split at h
    ·rename_i ha;obtain ⟨t1,t2,c1,c2,v1,v2,w1,w2⟩:=Pl.Zx.1 hf;exact ⟨⟨t1,t2,c1,c2,w1,w2,v1,v2,ht⟩,hf,by simpa using hl,ha⟩
    cases h
   cases h0
  cases h0
 ·rename_i h0;exact absurd h h0
theorem qbw {o:O} (h:qb1 o=true):0<=o.2.1/\o.2.1<=63:=by
 have hk:∀ ky,Ro.Tq ky=true->0<=ky/\ky<=63:=fun ky h=>by unfold Ro.Tq at h;simpa using h
 unfold qb1 at h;by_cases h1:o.1=1
 ·rw [h1,Ro.qd5] at h;simp only [Bool.and_eq_true] at h;exact hk _ h.1
 ·by_cases h2:o.1=2\/o.1=3
  ·rw [Ro.q19 _ _ _ _ h2] at h;simp only [Bool.and_eq_true] at h;exact hk _ h.1
  by_cases h4:o.1=4
  ·rw [h4,Ro.qe0] at h;simp only [Bool.and_eq_true] at h;exact hk _ h.1
  rw [Ro.fit0 _ _ _ _ ⟨h1,fun e=>h2 (.inl e),fun e=>h2 (.inr e),h4⟩] at h;cases h
theorem Ux {c:Cf} {rs:List (List O)} {ps:List Int} (ds:List Int) (h:Z0 c.t c.c c.wd c.v rs ps=0):MInv 1 (Mc.new c rs ds):=by
 obtain ⟨hc,-,hl,ha⟩:=q1d h
 have hl2:(rs.length:Int)<=c.t/\rs.any long=false:=by unfold large at hl;simp only [Bool.or_eq_false_iff,decide_eq_false_iff_not] at hl;exact ⟨by omega,hl.2.2⟩
 have h8:=hc.t8;have h1:=hc.t1
 have hth:∀ (i:Nat) (x:Th),(Mc.new c rs ds).t[i]? = some x->x=Th.new:=fun i x hx=>by
  unfold Mc.new at hx;simp only [List.getElem?_replicate] at hx;split at hx
  ·exact (qj hx).symm
  ·cases hx
 refine ⟨hc,by unfold Mc.new;simp;omega,by unfold Mc.new;simp only;omega,fun r hr=>⟨?_,fun o ho=>?_⟩,fun i x hx=>?_,fun i x hx hb=>?_,by simp [Mc.new],by simp [Mc.new],by simp [Mc.new],by simp [Mc.new],fun x hx=>by simp [Mc.new] at hx⟩
 ·have:=List.any_eq_false.1 hl2.2 r hr;unfold long at this;simpa using this
 ·exact qbw (List.all_eq_true.1 (by have:=List.all_eq_true.1 ha r hr;unfold qd0 at this;exact this) o ho)
 ·rw [hth i x hx];exact ⟨by simp [Th.new],by simp [Th.new],by simp [Th.new],fun y e=>Mq,fun y e=>Mq,fun y e=>Mq⟩
 ·rw [hth i x hx] at hb;cases hb
def tv0:Tv:=⟨0,false,0,none,none,none⟩
theorem q9q:(madeCells (Value.agg #[.int .i64 0,.bool false,.int .i64 0,.pointer none,.pointer none,.pointer none]).cells (0 * 6)).toList=(List.replicate 0 tv0).flatMap fTv:=by kernel_rfl
theorem q9u:(madeCells (Value.agg #[.int .i64 0,.bool false,.int .i64 0,.pointer none,.pointer none,.pointer none]).cells (1 * 6)).toList=(List.replicate 1 tv0).flatMap fTv:=by kernel_rfl
theorem q9b:(madeCells (Value.agg #[.int .i64 0,.bool false,.int .i64 0,.pointer none,.pointer none,.pointer none]).cells (2 * 6)).toList=(List.replicate 2 tv0).flatMap fTv:=by kernel_rfl
theorem q9v:(madeCells (Value.agg #[.int .i64 0,.bool false,.int .i64 0,.pointer none,.pointer none,.pointer none]).cells (3 * 6)).toList=(List.replicate 3 tv0).flatMap fTv:=by kernel_rfl
theorem q9e:(madeCells (Value.agg #[.int .i64 0,.bool false,.int .i64 0,.pointer none,.pointer none,.pointer none]).cells (4 * 6)).toList=(List.replicate 4 tv0).flatMap fTv:=by kernel_rfl
theorem q9m:(madeCells (Value.agg #[.int .i64 0,.bool false,.int .i64 0,.pointer none,.pointer none,.pointer none]).cells (5 * 6)).toList=(List.replicate 5 tv0).flatMap fTv:=by kernel_rfl
theorem q89:(madeCells (Value.agg #[.int .i64 0,.bool false,.int .i64 0,.pointer none,.pointer none,.pointer none]).cells (6 * 6)).toList=(List.replicate 6 tv0).flatMap fTv:=by kernel_rfl
theorem qa3:(madeCells (Value.agg #[.int .i64 0,.bool false,.int .i64 0,.pointer none,.pointer none,.pointer none]).cells (7 * 6)).toList=(List.replicate 7 tv0).flatMap fTv:=by kernel_rfl
theorem q9i:(madeCells (Value.agg #[.int .i64 0,.bool false,.int .i64 0,.pointer none,.pointer none,.pointer none]).cells (8 * 6)).toList=(List.replicate 8 tv0).flatMap fTv:=by kernel_rfl
theorem q6g (n:Nat) (h:n<=8):(madeCells (Value.agg #[.int .i64 0,.bool false,.int .i64 0,.pointer none,.pointer none,.pointer none]).cells (n * 6)).toList=(List.replicate n tv0).flatMap fTv:=by
 match n,h with
 | 0,_=>exact q9q
 | 1,_=>exact q9u
 | 2,_=>exact q9b
 | 3,_=>exact q9v
 | 4,_=>exact q9e
 | 5,_=>exact q9m
 | 6,_=>exact q89
 | 7,_=>exact qa3
 | 8,_=>exact q9i
theorem Sr {w:World} {B g n sz:Nat} {E:TypeId} {xs:List Value} (h:w.ownsRow B E sz (.slice (some ⟨g,0,none⟩) n n) n xs):w.heap[g]? = some (.cells xs.toArray E (0,0)):=by
 obtain ⟨h1,h2⟩:=h;rcases h2 with ⟨e,-⟩ | ⟨g',cap,cur,e,hB,hh,hc1,hc2,hs,ht⟩
 ·simp at e
 ·simp only [Value.slice.injEq,Option.some.injEq,Addr.mk.injEq,true_and] at e;obtain ⟨⟨rfl,-⟩,rfl⟩:=e;rw [hh];have:cur.toList=xs:=by rw [<- ht,List.take_of_length_le Ml]
  rw [<- this]
theorem qbp {w w':World} {c:Cf} {rs:List (List O)} {ps ds:List Int} {ov pv dv:Value} {ss:List Sv} {R:List Nat} {s:Value} {b p q tb:Nat} (hS:Tf w s c rs ps ds ov pv dv ss R) (h0:Z0 c.t c.c c.wd c.v rs ps=0) (F:Fr [] w w') (hO:qas w' b (Mc.new c rs ds) ov pv dv p (.slice (some ⟨tb,0,none⟩) c.t.toNat c.t.toNat) (.slice none 0 0) (.slice none 0 0)) (hA:Rar w' p q (Pl.begun c.t c.c c.wd)) (hT:Ob w' tb 91 ((List.replicate c.t.toNat tv0).flatMap fTv).toArray)
  (hb:w.heap.size<=b) (hp:w.heap.size<=p) (hq:w.heap.size<=q) (ht:w.heap.size<=tb) (hn:b≠p/\b≠q/\b≠tb/\p≠q/\p≠tb/\q≠tb) :
  ∃ own y,ji w.heap.size own w' b (Mc.new c rs ds) y/\y.p=p/\y.q=q:=by
 obtain ⟨n1,n2,n3,n4,n5,n6⟩:=hn;have hc:=(q1d h0).1;have h8:=hc.t8
 have hz:∀ k,k∈R->(if k=b then 1 else if k=p then 2 else if k=q then 3 else if k=tb then 4 else 0)=0:=fun k hk=>by have:=hS.lt k hk;rw [qf Ly,qf Ly,qf Ly,qf Ly]
 refine ⟨fun k=>if k=b then 1 else if k=p then 2 else if k=q then 3 else if k=tb then 4 else 0,⟨R,ov,pv,dv,.slice none 0 0,.slice none 0 0,ss,p,q,tb,List.replicate c.t.toNat tv0,[]⟩,⟨?_,⟨hS.rows.kept F Ma,hS.dr.up F,hS.drR,fun k hk=>⟨hz k hk,ql (hS.lt k hk) F.size⟩⟩,hA,qg rfl,?_,?_,?_,hT,by simp [Mc.new],by simp [Mc.new];omega,fun i x z e1 e2=>?_,Sq.nil _,fun hne=>absurd rfl hne,⟨rfl,.inl ⟨rfl,rfl⟩⟩,fun k hk=>by simp [Value.ownBlock] at hk,rfl,fun x hx=>by simp at hx,fun k hk=>?_⟩,rfl,rfl⟩
 ·unfold Lay.tv;simp only [List.length_replicate];exact hO
 ·simp [Ne.symm n1]
 ·simp [Ne.symm n2,Ne.symm n4]
 ·simp [Ne.symm n3,Ne.symm n5,Ne.symm n6]
 ·have hx:x=Th.new:=by
   unfold Mc.new at e1;simp only [List.getElem?_replicate] at e1;split at e1
   ·exact (qj e1).symm
   ·cases e1
  have hzz:z=tv0:=by
   simp only [List.getElem?_replicate] at e2;split at e2
   ·exact (qj e2).symm
   ·cases e2
  rw [hx,hzz];exact ⟨[],⟨⟨rfl,rfl,rfl⟩,.inr (.inr (.inr ⟨rfl,rfl,rfl,rfl,rfl,rfl,rfl⟩))⟩,by simp⟩
 ·split at hk
  ·omega
  split at hk
  ·omega
  split at hk
  ·omega
  split at hk
  ·omega
  exact absurd rfl hk
theorem qds:∃ i,Tryz.prog.info? 91=some i/\i.zero=some (.agg #[.int .i64 0,.bool false,.int .i64 0,.pointer none,.pointer none,.pointer none])/\i.size=6/\i.bytes=48:=by
 have h:=tvI;cases hi:Tryz.prog.info? 91 with
 | none=>rw [hi] at h;cases h
 | some i=>rw [hi] at h;simp only [Option.map_some,Option.some.injEq,Prod.mk.injEq] at h;exact ⟨i,rfl,h.1,h.2.1,h.2.2⟩
theorem Ky (c:Cf) (rs:List (List O)) (ps ds:List Int) (ov pv dv:Value) (ss:List Sv) (R:List Nat) (s:Value) (w:World) (hS:Tf w s c rs ps ds ov pv dv ss R) (h0:Z0 c.t c.c c.wd c.v rs ps=0) :
  Calls Tryz.prog 25 #[s] w fun e w'=>∃ b own y,e = .returned (.tuple #[.pointer (some ⟨b,0,none⟩),.int .i64 0])/\ji w.heap.size own w' b (Mc.new c rs ds) y/\Fr [] w w'/\w.heap.size<=b:=by
 obtain ⟨i,thI,thZ,thS,thB⟩:=qds;obtain rfl:=hS.val;have HS:=qb hS;have HC:=qb h0;obtain ⟨hc,hfm,-,-⟩:=q1d h0;have HFM:=qb hfm;have HTOP:=qb (show 21+c.t+3 * c.c<=c.wd from hc.top);have HTN:=qb (show c.t=((c.t.toNat:Nat):Int) by have:=hc.t1;omega);have HT8:=qb (show c.t.toNat<=8 by have:=hc.t8;omega);obtain ⟨vo,vp,vd,hval,hr1,hp1,hd1⟩:=hS.scr;simp only [Value.agg.injEq,Array.mk.injEq,List.cons.injEq,and_true,true_and] at hval;obtain ⟨rfl,rfl,rfl⟩:=hval;obtain ⟨ao,co,hov,-,-,-⟩:=hS.rows.sq;obtain ⟨ap,cp,hpv,-,-,-⟩:=hS.pk;obtain ⟨ad,cd,hdv,-,-,-⟩:=hS.dr;subst hov hpv hdv;clear hr1 hp1 hd1 hfm hc hS h0;have F0:=(Fr.refl [] w).alloc (.cells #[.int .i64 c.t,.int .i64 c.c,.int .i64 c.wd,.int .i64 c.v,.slice ao ss.length co,.slice ap ps.length cp,.slice ad ds.length cd] 27);have o0:=Ob.new w 27 #[.int .i64 c.t,.int .i64 c.c,.int .i64 c.wd,.int .i64 c.v,.slice ao ss.length co,.slice ap ps.length cp,.slice ad ds.length cd];have HU:=qb (HS.out.up F0);go_enter Tryz.func25,Tryz.ntmps25;go_wp2_with fail;generalize World.alloc w _=w0 at *;generalize w.heap.size=bs at o0 ⊢;refine (Ro.J0 c.t c.c c.wd c.v rs ps ds _ w0 HU.out.scr).mono ?_;rintro e w1 ⟨rfl,F1⟩;rw [HC.out];have HF:=qb (F0.trans F1);replace o0:=Ob.up o0 F1;clear F1 F0;go_wp2_with fail;refine ze Me [] (fun w2 F2=>?_);refine epq [true,true,true,false,true,true,true,false,false,false,false,false] 6 F2 ?_;apply qh;refine ⟨fun wf Ff=>?_,?_⟩
 ·have oF:=Ob.up o0 Ff;have k0:=qc (oF.cell (i:=0) rfl);have k1:=qc (oF.cell (i:=1) rfl);have k2:=qc (oF.cell (i:=2) rfl);have k3:=qc (oF.cell (i:=3) rfl);have k4:=qc (oF.cell (i:=4) rfl);have k5:=qc (oF.cell (i:=5) rfl);have k6:=qc (oF.cell (i:=6) rfl);exact Ac
 refine jh [3,7] Me Ma (fun w3 F3 j hj o ho=>?_);have E:=F2.trans F3;clear F2 F3 o0;simp only [List.mem_cons,List.not_mem_nil,or_false] at hj;rcases hj with rfl | rfl
 focus
  obtain rfl:=qj ho
  go_wp2_with fail
  refine (q1y c.t c.c c.wd c.v HFM.out HTOP.out w3).mono ?_;rintro e w4 ⟨p,q,rfl,hp,hq,A,F4⟩
  have hp1:=qi E.size hp
  have hq1:=qi E.size hq
  have hpq:=A.ne
  replace E:=E.trans F4
  clear F4 ho hp hq
  go_wp2_with fail
  refine qo ⟨E,?_⟩
  refine eoq 7 (fun w5 F5=>?_)
  replace E:=E.trans F5
  replace A:=A.kept F5
  clear F5
  go_wp2_with (refine wpList_make_full w5 rfl _ _ 63 rfl 0 91 _ _ 6 Tryz.underlying63 thI thZ thS .i64 .i64 c.t c.t c.t.toNat rfl rfl HTN.out HTN.out (by rw [thB];have:=HT8.out;omega) (by have:=HT8.out;unfold maxLen;omega) (Nat.zero_le _) ?_;intro w6 hown hgr)
  have htb:w1.heap.size<=w5.heap.size:=E.size
  have hlt5:=A.lt
  have B:=Sr hown
  rw [q6g _ HT8.out] at B
  have F6:=Fr.grown hgr
  replace E:=E.trans F6
  replace A:=A.kept F6
  clear F6 hown hgr
  generalize w5.heap.size=tb at *
  have HPQ:=qb (show p≠q/\p≠tb/\q≠tb from ⟨hpq,by omega,by omega⟩)
  clear hpq hlt5
 rotate_left
 focus
  obtain rfl:=qj ho
  go_wp2_with (refine wpList_make_full w3 rfl _ _ 63 rfl 0 91 _ _ 6 Tryz.underlying63 thI thZ thS .i64 .i64 c.t c.t c.t.toNat rfl rfl HTN.out HTN.out (by rw [thB];have:=HT8.out;omega) (by have:=HT8.out;unfold maxLen;omega) (Nat.zero_le _) ?_;intro w4 hown hgr)
  have htb:w1.heap.size<=w3.heap.size:=E.size
  have B:=Sr hown
  rw [q6g _ HT8.out] at B
  have F4:=Fr.grown hgr
  replace E:=E.trans F4
  clear F4 hown hgr ho
  generalize w3.heap.size=tb at *
  refine qo ⟨E,?_⟩
  refine eoq 3 (fun w5 F5=>?_)
  replace E:=E.trans F5
  replace B:=F5.heap B Ma
  clear F5
  go_wp2_with fail
  refine (q1y c.t c.c c.wd c.v HFM.out HTOP.out w5).mono ?_;rintro e w6 ⟨p,q,rfl,hp,hq,A,F6⟩
  have hp1:=qi E.size hp
  have hq1:=qi E.size hq
  have hpq:=A.ne
  have hbl:=(Array.getElem?_eq_some_iff.1 B).1
  have HPQ:=qb (show p≠q/\p≠tb/\q≠tb from ⟨hpq,by omega,by omega⟩)
  replace B:=F6.heap B Ma
  replace E:=E.trans F6
  clear F6 hp hq hpq hbl
  go_wp2_with fail
 rotate_left
 all_goals
  refine qo ⟨E,?_⟩
  refine eoq 8 (fun w11 F11=>?_)
  replace E:=E.trans F11
  replace A:=A.kept F11
  replace B:=F11.heap B Ma
  clear F11
  go_wp2_with fail
  refine qo ⟨E,?_⟩
  refine eoq 9 (fun w12 F12=>?_)
  replace E:=E.trans F12
  replace A:=A.kept F12
  replace B:=F12.heap B Ma
  clear F12
  go_wp2_with fail
  have FA:=(Fr.refl [] w12).alloc (.cells (McC (Mc.new c rs ds) (.slice ao ss.length co) (.slice ap ps.length cp) (.slice ad ds.length cd) p (.slice (some ⟨tb,0,none⟩) c.t.toNat c.t.toNat) (.slice none 0 0) (.slice none 0 0)) 66)
  have oM:qas _ w12.heap.size (Mc.new c rs ds) (.slice ao ss.length co) (.slice ap ps.length cp) (.slice ad ds.length cd) p (.slice (some ⟨tb,0,none⟩) c.t.toNat c.t.toNat) (.slice none 0 0) (.slice none 0 0):=Ob.new w12 66 _
  have hsz:w1.heap.size<=w12.heap.size/\tb<w12.heap.size/\p<w12.heap.size/\q<w12.heap.size:=⟨E.size,(Array.getElem?_eq_some_iff.1 B).1,A.lt.1,A.lt.2⟩
  replace A:=A.kept FA
  replace B:=FA.heap B Ma
  replace E:=E.trans FA
  unfold McC Mc.new at FA oM A B E
  simp only at FA oM A B E
  clear FA
  refine qo ⟨E,?_⟩
  refine eoq 10 (fun w13 F13=>?_)
  replace E:=E.trans F13
  replace A:=A.kept F13
  replace B:=F13.heap B Ma
  replace oM:=Ob.up oM F13
  clear F13
  generalize w12.heap.size=b at *
  go_wp2_with fail
  refine qo ⟨E,?_⟩
  refine eoq 11 (fun w14 F14=>?_)
  replace E:=E.trans F14
  replace A:=A.kept F14
  replace B:=F14.heap B Ma
  replace oM:=Ob.up oM F14
  clear F14
  go_wp2_with fail
  refine qo ⟨E,?_⟩
  refine zw Me (fun w15 F15=>?_)
  have HE:=qb (qd (HF.out.trans (E.trans F15)) (qd (A.kept F15) (qd (F15.heap B Ma) (qd (Ob.up oM F15) hsz))))
  clear E A B oM F15 hsz
  go_wp2_with fail
  refine bodyPost_ret (v:=.tuple #[.pointer (some ⟨b,0,none⟩),.int .i64 0]) (by simp [results,Tryz.results25,go_sem]) rfl ?_
  obtain ⟨E,A,B,oM,s1,s2,s3,s4⟩:=HE.out
  have hw:=HF.out.size
  have hd:=HPQ.out
  obtain ⟨own,y,hM,e1,e2⟩:=qbp (b:=b) (p:=p) (q:=q) (tb:=tb) HS.out HC.out E oM A B Ly Ly Ly Ly ⟨by omega,by omega,by omega,hd.1,hd.2.1,hd.2.2⟩
  exact ⟨b,own,y,rfl,hM,E,by omega⟩
theorem FrO.ob {N0:Nat} {w w':World} {b:Nat} {T:TypeId} {cs:Array Value} (h:FrO N0 w w') (ho:Ob w b T cs) (hb:b<N0):Ob w' b T cs:=by obtain ⟨S,hS,F⟩:=h;exact Ob.kept ho F (fun hi=>by have:=hS b hi;omega)
theorem FrO.sq {α:Type} {f:α->List Value} {N0:Nat} {w w':World} {v:Value} {xs:List α} (h:FrO N0 w w') (hs:Sq f w v xs) (hb:xs≠[]->∀ k,k∈v.ownBlock.toList->k<N0):Sq f w' v xs:=by obtain ⟨S,hS,F⟩:=h;exact hs.keptN F (fun hne g hg hi=>by have:=hS g hi;have:=hb hne g hg;omega)
def q4q (c:Cf) (rs:List (List O)) (ds:List Int) (ps:List Int):Mc:=ps.foldl Mc.pick (Mc.new c rs ds)
theorem q7h {c:Cf} {rs:List (List O)} {ds ps:List Int} {i:Nat} {p:Int} (h:ps[i]? = some p):q4q c rs ds (ps.take (i+1))=(q4q c rs ds (ps.take i)).pick p:=by unfold q4q;rw [List.take_add_one,h,Option.toList_some,List.foldl_append];rfl
theorem q1z {c:Cf} {rs:List (List O)} {ps0:List Int} (ds:List Int) (h0:Z0 c.t c.c c.wd c.v rs ps0=0):∀ (ps:List Int) (N:Nat) (m:Mc),MInv N m->MInv (N+4 * ps.length) (ps.foldl Mc.pick m)
 | [],N,m,h=>h
 | p :: ps,N,m,h=>by
  have:=q1z ds h0 ps (N+4) (m.pick p) (h.pick p);rw [List.foldl_cons,List.length_cons,show N+4 * (ps.length+1)=N+4+4 * ps.length by omega];exact this
theorem q71 {c:Cf} {rs:List (List O)} {ps0:List Int} (ds:List Int) (h0:Z0 c.t c.c c.wd c.v rs ps0=0) (ps:List Int):MInv (1+4 * ps.length) (q4q c rs ds ps):=q1z ds h0 ps 1 _ (Ux ds h0)
def PkAt (N0:Nat) (c:Cf) (rs:List (List O)) (ds ps:List Int) (b:Nat) (w1:World) (u:Value) (wr:World):Prop:=∃ i:Nat,i<=ps.length/\u = .int .i64 (i:Nat)/\(∃ own y,ji N0 own wr b (q4q c rs ds (ps.take i)) y)/\FrO N0 w1 wr
theorem Je (c:Cf) (rs:List (List O)) (ps ds:List Int) (ov pv dv:Value) (ss:List Sv) (R:List Nat) (s:Value) (w:World) (hS:Tf w s c rs ps ds ov pv dv ss R) (h0:Z0 c.t c.c c.wd c.v rs ps=0) (hp:ps.length<=8000) :
  Calls Tryz.prog 7 #[s] w (q8p w (q4q c rs ds ps).a):=by
 obtain rfl:=hS.val;have HS:=qb hS;have HC:=qb h0;obtain ⟨ao,co,hov,-,-,-⟩:=hS.rows.sq;obtain ⟨ap,cp,hpv,-,-,-⟩:=hS.pk;obtain ⟨ad,cd,hdv,-,-,-⟩:=hS.dr;subst hov hpv hdv;have hpk:=hS.pk;have hpl:=fun hne=>Qh hpk hne
 clear hS h0;have F0:=(Fr.refl [] w).alloc (.cells #[.int .i64 c.t,.int .i64 c.c,.int .i64 c.wd,.int .i64 c.v,.slice ao ss.length co,.slice ap ps.length cp,.slice ad ds.length cd] 27);have o0:=Ob.new w 27 #[.int .i64 c.t,.int .i64 c.c,.int .i64 c.wd,.int .i64 c.v,.slice ao ss.length co,.slice ap ps.length cp,.slice ad ds.length cd];have HU:=qb (HS.out.up F0);have hbl:=Ob.lt o0;have HF0:=qb F0;clear F0;go_enter Tryz.func7,Tryz.ntmps7;go_wp2_with fail;generalize World.alloc w _=w0 at *;have hw0:=HF0.out.size;generalize hbs:w.heap.size=bs at o0 hbl ⊢;refine (Ky c rs ps ds _ _ _ ss R _ w0 HU.out HC.out).mono ?_;rintro e w1 ⟨b,own,y,rfl,hM,F1,hb⟩;have o1:=Ob.up o0 F1;have HO:=qb (qd o1 hbl);have HM:=qb hM;have HF1:=qb F1;have HP:=qb (qd (HU.out.pk.up F1) (fun hne g hg=>ql (hpl hne g hg) hw0));clear o0 o1 hM F1 hpk hpl;have HBS:=qb hbs;clear hbs hbl hb;go_wp2_with fail;go_loopw [5] (fun u wr=>PkAt w0.heap.size c rs ds ps b w1 u wr) (fun u _=>ps.length - (intOf u).toNat);case atStart=>exact ⟨0,Nat.zero_le _,rfl,⟨own,y,HM.out⟩,FrO.refl _ _⟩
 case round =>
  obtain ⟨i,hi,rfl,⟨own2,y2,M2⟩,G⟩:=hrel;have o2:=G.ob HO.out.1 HO.out.2;have c5:=o2.cell (i:=5) rfl;have hs2:=G.sq HP.out.1 HP.out.2;have HG:=qb G;have HM2:=qb M2;clear M2 G o2;by_cases hlt:i<ps.length
  ·have HI2:=qb (show i+1<=ps.length/\ps.length - (i+1)<ps.length - i by omega);have hltz:(i:Int)<(ps.length:Int):=by omega
   have hi0:(0:Int)<=(i:Int):=by omega
   obtain ⟨p,hpi⟩:∃ p,ps[i]? = some p:=⟨ps[i],List.getElem?_eq_getElem hlt⟩;obtain ⟨gp,op,rfl,d0⟩:=Zv hs2 hpi;have HPI:=qb hpi;have hmv:=q71 ds HC.out (ps.take i);rw [List.length_take,Nat.min_eq_left hi] at hmv;have HMV:=qb hmv;clear hpi hs2 hmv hlt;go_wp2_with fail;refine (q8y HMV.out Ly HM2.out (qi HF1.out.size HG.out.size) p).mono ?_;rintro e w3 ⟨rfl,hM3,G3⟩;rw [<- q7h HPI.out] at hM3;have HM3:=qb (qd hM3 (HG.out.trans G3));clear hM3 G3 d0 c5;go_wp2_with fail;go_roundw;case rel=>exact ⟨i+1,HI2.out.1,by simp,HM3.out.1,HM3.out.2⟩
   case measure=>exact meas rfl HI2.out.2
  ·obtain rfl:i=ps.length:=by omega
   have c7:wr.cell? ⟨b,7,none⟩=some (.pointer (some ⟨y2.p,0,none⟩)):=(zz HM2.out.ob).2.2.2.2.2.2.2.1;clear hs2;go_wp2_with fail;go_ret;have hA:=HM2.out.ar;rw [List.take_length] at hA;have h1:=HM2.out.base y2.p (by rw [HM2.out.cp];decide);have h2:=HM2.out.base y2.q (by rw [HM2.out.cq];decide);have hb1:=HBS.out;obtain ⟨S,hS,F⟩:=HG.out;exact ⟨y2.p,y2.q,rfl,by omega,by omega,hA,(HF0.out.trans HF1.out).own F (fun k hk=>by have:=hS k hk;omega)⟩
end Go.Proofs.YtbddhncgemeohaaGreatDoor.Mx
namespace Go.Proofs.YtbddhncgemeohaaGreatDoor.Wd
open Go.RowKit Ar Og Ref Mx Op10
theorem q6s {w:World} {α:Type} {f:α->List Value} {v:Value} {xs:List α} (h:Sq f w v xs) (hne:xs≠[]):∀ k,k∈v.ownBlock.toList->k<w.heap.size:=Qh h hne
theorem qao {w:World} {c:Cf} {rs:List (List O)} {ss:List Sv} {ps ds:List Int} {vo vp vd:Value} (h1:Rws w vo rs ss) (h2:Law.Ints w .i64 vp ps) (h3:Sq fI w vp ps) (h4:Law.Ints w .i64 vd ds) (h5:Sq fI w vd ds) :
  Tf w (.agg #[.int .i64 c.t,.int .i64 c.c,.int .i64 c.wd,.int .i64 c.v,vo,vp,vd]) c rs ps ds vo vp vd ss (List.range w.heap.size):=by
 refine ⟨rfl,⟨vo,vp,vd,rfl,h1.r,h2,h4⟩,⟨h1.sq,h1.len,fun i s r e1 e2=>⟨h1.row i s r e1 e2,fun hne k hk=>List.mem_range.2 (q6s (h1.row i s r e1 e2) hne k hk)⟩,fun hne k hk=>List.mem_range.2 (q6s h1.sq (fun e=>hne (by have:=h1.len;rw [e] at this;exact List.eq_nil_of_length_eq_zero this.symm)) k hk)⟩,h5,fun hne k hk=>List.mem_range.2 (q6s h5 hne k hk),h3,fun k hk=>List.mem_range.1 hk⟩
end Go.Proofs.YtbddhncgemeohaaGreatDoor.Wd
namespace Go.Proofs.YtbddhncgemeohaaGreatDoor.Mx
open Go.RowKit Ar Ref Og Mp
section
variable {c:Cf} {g:Gst} {l:List Int}
structure LkI (c:Cf) (g:Gst) (x:Lok):Prop where
 cc:x.c=c
 K:g.K x.chunk
 ok:Xr x
theorem LkI.ext {g':Gst} {x:Lok} (h:LkI c g x) (e:Ext c g g'):LkI c g' x:=⟨h.cc,e.K _ h.K,h.ok⟩
theorem LkI.new (hc:c.Ok) {a:Int} (ha:g.K a) (lo hi most:Int):LkI c g (Lok.new c a lo hi most):=⟨rfl,ha,Xr.new hc _ _ _ _⟩
theorem Kc (x:Lok):x.on.c=x.c/\x.on.chunk=x.chunk/\x.on.lo=x.lo/\x.on.hi=x.hi/\x.on.most=x.most:=by unfold Lok.on;split <;> exact ⟨rfl,rfl,rfl,rfl,rfl⟩
theorem Ku (x:Lok):x.seven.c=x.c/\x.seven.chunk=x.chunk/\x.seven.lo=x.lo/\x.seven.hi=x.hi/\x.seven.most=x.most:=by
 unfold Lok.seven;split
 ·exact Kc _
 ·exact ⟨rfl,rfl,rfl,rfl,rfl⟩
theorem Vp (x:Lok) (v:Int):(x.next v).c=x.c/\(x.next v).chunk=x.chunk/\(x.next v).lo=x.lo/\(x.next v).hi=x.hi/\(x.next v).most=x.most:=by
 unfold Lok.next;repeat' split
 all_goals first | exact ⟨rfl,rfl,rfl,rfl,rfl⟩ | exact Kc _ | exact Ku _
theorem LkI.step (hc:c.Ok) {s:St} (h:OkG c g s.l) {x:Lok} (hx:LkI c g x):∃ g',Goes c g s.l g' (x.step s).2.l no2 no1/\LkI c g' (x.step s).1:=by
 have hok:=hx.ok.step s
 have fin:∀ g':Gst,Ext c g g'->LkI c g' (x.step s).1:=fun g' e=>by
  refine ⟨?_,?_,hok⟩
  ·unfold Lok.step;split
   ·exact (Vp _ _).1.trans hx.cc
   ·exact hx.cc
  ·unfold Lok.step;split
   ·show g'.K (x.next (x.told s)).chunk;rw [(Vp _ _).2.1];exact e.K _ hx.K
   ·exact e.K _ hx.K
 by_cases hl:x.live=true
 ·have e2:(x.step s).2=x.act s:=by unfold Lok.step;rw [qg hl]
  rw [e2];unfold Lok.live at hl;simp only [Bool.and_eq_true,decide_eq_true_eq] at hl;by_cases l5:x.line=5
  ·have hi:=hx.ok.two Ly;have hi2:=hx.ok.cnt;rw [hx.cc] at hi2;have h3:0<=x.i/\x.i<c.c:=⟨hx.ok.i0,by omega⟩;obtain ⟨sa,sz7,sz9⟩:=q8e hc h hx.K h3;have hsa:x.sa=x.chunk+(7+3 * x.i):=sa;have hrd:qx s.l x.sa=g.M.F x.chunk (7+3 * x.i):=by rw [hsa];exact h.rel.F _ hx.K _ Ly Ly
   have ea:x.act s=s.swap x.sa 1 (yg x.g):=by unfold Lok.act;rw [qf Ly,qf Ly,qf Ly,qf Ly,qg l5]
   rw [ea];cases hcn:s.can x.sa 1 with
   | true =>
    have hp:=kr hcn;rw [hrd] at hp;rw [jq hcn,hsa];have G:=Y6 hc h hx.K h3 (v:=yg x.g) (.inr ⟨hp,Y9 _⟩);exact ⟨_,G,fin _ G.ext⟩
   | false=>rw [Qa hcn];exact ⟨g,Goes.same h _ _,fin _ (Ext.refl _ _)⟩
  ·have ea:(x.act s).l=s.l:=by unfold Lok.act;(repeat' split);all_goals first | rfl | exact absurd ‹_› l5
   rw [ea];exact ⟨g,Goes.same h _ _,fin _ (Ext.refl _ _)⟩
 ·have e2:(x.step s).2=s:=by unfold Lok.step;rw [qf hl]
  rw [e2];exact ⟨g,Goes.same h _ _,fin _ (Ext.refl _ _)⟩
structure GtI (c:Cf) (g:Gst) (x:Gt):Prop where
 cc:x.c=c
 key:0<=x.key/\x.key<=63
 w:x.l=none->WkI c g x.w
 l:∀ y,x.l=some y->LkI c g y
theorem GtI.new {key:Int} (hk:0<=key/\key<=63):GtI c g (Gt.new c key):=⟨rfl,hk,fun _=>WkI.new hk,fun y e=>by cases e⟩
theorem GtI.ext {g':Gst} {x:Gt} (h:GtI c g x) (e:Ext c g g') (hh:¬ g'.K (zq c)):GtI c g' x :=
 ⟨h.cc,h.key,fun k=>(h.w k).ext e hh,fun y k=>(h.l y k).ext e⟩
theorem GtI.step (hc:c.Ok) {s:St} (h:OkG c g s.l) {x:Gt} (hx:GtI c g x):∃ g',Goes c g s.l g' (x.step s).2.l no2 no1/\GtI c g' (x.step s).1:=by
 unfold Gt.step;by_cases ho:x.over=true
 ·rw [qg ho];exact ⟨g,Goes.same h _ _,hx⟩
 ·rw [qf ho];cases hl:x.l with
  | some y =>
   obtain ⟨g',G,k⟩:=(hx.l y hl).step hc h;exact ⟨g',G,⟨hx.cc,hx.key,fun e=>Mq,fun z e=>(by cases e;exact k)⟩⟩
  | none =>
   have k:=(hx.w hl).step hc h;have ea:=Jd x.w s;simp only;rw [ea];refine ⟨g,Goes.same h _ _,?_⟩;split
   ·rename_i e0;refine ⟨hx.cc,hx.key,fun e=>Mq,fun z e=>?_⟩;cases e;rw [hx.cc];exact LkI.new hc (k.e0 e0).1 _ _ _
   ·exact ⟨hx.cc,hx.key,fun _=>k,fun z e=>Mq⟩
structure KmI (c:Cf) (x:Km):Prop where
 t:0<=x.t/\x.t<c.t
theorem q68 (x:Km) (v:Int):(x.next v).t=x.t:=by
 unfold Km.next;repeat' split
 all_goals rfl
theorem Rc (hc:c.Ok) {s:St} (h:OkG c g s.l) {p:Int} (o v:Int) (hp:0<=p/\p<3+c.t/\p≠2):Goes c g s.l g (s.swap p o v).l no2 no1:=by
 cases hcn:s.can p o with
 | true=>rw [jq hcn];exact Xe hc h v hp
 | false=>rw [Qa hcn];exact Goes.same h _ _
theorem KmI.step (hc:c.Ok) {s:St} (h:OkG c g s.l) {x:Km} (hx:KmI c x):Goes c g s.l g (x.step s).2.l no2 no1/\KmI c (x.step s).1:=by
 have ht:=hx.t;have hp:0<=x.pa/\x.pa<3+c.t/\x.pa≠2:=by unfold Km.pa qab;omega
 unfold Km.step;split
 ·refine ⟨?_,⟨by show 0<=(x.next _).t/\(x.next _).t<c.t;rw [q68];exact ht⟩⟩;simp only;unfold Km.act;repeat' split
  ·exact Goes.same h _ _
  ·exact Xe hc h _ hp
  ·exact Xe hc h _ ⟨by omega,by omega,by omega⟩
  ·exact Rc hc h _ _ hp
  ·exact Goes.same h _ _
 ·exact ⟨Goes.same h _ _,hx⟩
structure NdI (c:Cf) (x:Nd):Prop where
 cc:x.c=c
 t0:0<=x.t
 t1:x.live=true->x.t<c.t
theorem NdI.new (hc:c.Ok):NdI c (Nd.new c):=⟨rfl,by simp [Nd.new],fun _=>by have:=hc.t1;simp only [Nd.new];omega⟩
theorem nd_on {x:Nd} (h:x.c=c) (h0:0<=x.t):NdI c x.on:=by
 unfold Nd.on;split
 ·exact ⟨h,by simp only;omega,fun k=>by simp [Nd.live] at k⟩
 ·exact ⟨h,by simp only;omega,fun k=>by simp only;rw [h] at *;omega⟩
theorem qc9 {x:Nd} (h:NdI c x) (h1:x.t<c.t) (v:Int):NdI c (x.next v):=by
 unfold Nd.next;repeat' split
 all_goals first | exact ⟨h.cc,h.t0,fun _=>h1⟩ | exact nd_on h.cc h.t0
theorem NdI.step (hc:c.Ok) {s:St} (h:OkG c g s.l) {x:Nd} (hx:NdI c x):Goes c g s.l g (x.step s).2.l no2 no1/\NdI c (x.step s).1:=by
 unfold Nd.step;split
 ·rename_i hl;have h1:=hx.t1 hl;have h0:=hx.t0;have hp:0<=x.pa/\x.pa<3+c.t/\x.pa≠2:=by unfold Nd.pa qab;omega
  refine ⟨?_,qc9 hx h1 _⟩;simp only;unfold Nd.act;repeat' split
  ·exact Goes.same h _ _
  ·exact Xe hc h _ ⟨by omega,by omega,by omega⟩
  ·exact Rc hc h _ _ hp
  ·exact Goes.same h _ _
 ·exact ⟨Goes.same h _ _,hx⟩
structure SnI (c:Cf) (g:Gst) (x:Sn):Prop where
 cc:x.c=c
 t:0<=x.t/\x.t<c.t
 lo:0<=x.lo/\x.lo<=63
 k:KmI c x.k
 w:x.line=11->∀ y,x.w=some y->WkI c g y
 l:x.line=1->∀ y,x.l=some y->LkI c g y
 a2:x.line=1\/x.line=2->g.K x.at_
 n3:x.line=3->g.K x.n
theorem SnI.new {t seq lo hi:Int} (ht:0<=t/\t<c.t) (hk:0<=lo/\lo<=63):SnI c g (Sn.new c t seq lo hi) :=
 ⟨rfl,ht,hk,⟨ht⟩,fun e=>by simp [Sn.new] at e,fun e=>by simp [Sn.new] at e,fun e=>by simp [Sn.new] at e,fun e=>by simp [Sn.new] at e⟩
theorem SnI.ext {g':Gst} {x:Sn} (h:SnI c g x) (e:Ext c g g') (hh:¬ g'.K (zq c)):SnI c g' x :=
 ⟨h.cc,h.t,h.lo,h.k,fun k y q=>(h.w k y q).ext e hh,fun k y q=>(h.l k y q).ext e,fun k=>e.K _ (h.a2 k),fun k=>e.K _ (h.n3 k)⟩
theorem q2n (hc:c.Ok) {x:Sn} (h1:x.c=c) (h2:0<=x.t/\x.t<c.t) (h3:0<=x.lo/\x.lo<=63) (h4:KmI c x.k) {a:Int} (ha:g.K a):SnI c g (x.chunk a):=by refine ⟨h1,h2,h3,h4,fun e=>by simp [Sn.chunk] at e,fun _ y e=>?_,fun _=>ha,fun e=>by simp [Sn.chunk] at e⟩;unfold Sn.chunk at e;cases e;rw [h1];exact LkI.new hc ha _ _ _
theorem SnI.step (hc:c.Ok) {s:St} (h:OkG c g s.l) {x:Sn} (hx:SnI c g x):∃ g',Goes c g s.l g' (x.step s).2.l no2 no1/\SnI c g' (x.step s).1:=by
 have same:=Goes.same h no2 no1;have ht:=hx.t;unfold Sn.step;by_cases l10:x.line=10
 ·rw [qg l10];split
  ·exact ⟨g,same,⟨hx.cc,hx.t,hx.lo,hx.k,fun e=>by simp at e,fun e=>by simp at e,fun e=>by simp at e,fun e=>by simp at e⟩⟩
  ·obtain ⟨G,k⟩:=hx.k.step hc h;refine ⟨g,G,?_⟩;simp only;split
   ·refine ⟨hx.cc,hx.t,hx.lo,k,fun _ y e=>?_,fun e=>?_,fun e=>?_,fun e=>?_⟩
    ·cases e;rw [hx.cc];exact WkI.new hx.lo
    ·exact Dr
    ·exact Dr
    ·exact Dr
   ·exact ⟨hx.cc,hx.t,hx.lo,k,fun e=>by simp only at e;omega,fun e=>by simp only at e;omega,fun e=>by simp only at e;omega,fun e=>by simp only at e;omega⟩
 ·rw [qf l10];by_cases l11:x.line=11
  ·rw [qg l11];cases hw:x.w with
   | none=>exact ⟨g,same,hx⟩
   | some y =>
    have k:=(hx.w l11 y hw).step hc h;have ea:=Jd y s;simp only;rw [ea];refine ⟨g,same,?_⟩;split
    ·rename_i e0;exact q2n (x:={ x with w:=some (y.step s).1 }) hc hx.cc hx.t hx.lo hx.k (k.e0 e0).1
    ·exact ⟨hx.cc,hx.t,hx.lo,hx.k,fun _ z e=>by cases e;exact k,fun e=>by simp only at e;omega,fun e=>by simp only at e;omega,fun e=>by simp only at e;omega⟩
  ·rw [qf l11];by_cases l1:x.line=1
   ·rw [qg l1];cases hl:x.l with
    | none=>exact ⟨g,same,hx⟩
    | some y =>
     obtain ⟨g',G,k⟩:=(hx.l l1 y hl).step hc h;have ha:=G.ext.K _ (hx.a2 (.inl l1));refine ⟨g',G,?_⟩;simp only;split
     ·exact ⟨hx.cc,hx.t,hx.lo,hx.k,fun e=>by simp at e,fun e=>by simp at e,fun _=>ha,fun e=>by simp at e⟩
     ·exact ⟨hx.cc,hx.t,hx.lo,hx.k,fun e=>by simp only at e;omega,fun _ z e=>by cases e;exact k,fun _=>ha,fun e=>by simp only at e;omega⟩
   ·rw [qf l1];by_cases l2:x.line=2
    ·rw [qg l2];have ha:=hx.a2 (.inr l2);rw [rd hc h ha Ly Nt];refine ⟨g,same,hx.cc,hx.t,hx.lo,hx.k,fun e=>?_,fun e=>?_,fun e=>?_,fun e=>?_⟩
     ·exact Dr
     ·exact Dr
     ·exact Dr
     ·simp only at e ⊢;unfold atW at *;rcases h.ki.nx _ ha with q | q
      ·rw [qg q.1] at e;omega
      ·exact q.1
    ·rw [qf l2];by_cases l3:x.line=3
     ·rw [qg l3];refine ⟨g,same,?_⟩;simp only;split
      ·exact q2n hc hx.cc hx.t hx.lo hx.k (hx.n3 l3)
      ·exact ⟨hx.cc,hx.t,hx.lo,hx.k,fun e=>by simp at e,fun e=>by simp at e,fun e=>by simp at e,fun e=>by simp at e⟩
     ·rw [qf l3];by_cases l4:x.line=4
      ·rw [qg l4];exact ⟨g,Xe hc h _ (by unfold qab;omega),⟨hx.cc,hx.t,hx.lo,hx.k,fun e=>by simp at e,fun e=>by simp at e,fun e=>by simp at e,fun e=>by simp at e⟩⟩
      ·rw [qf l4];exact ⟨g,same,hx⟩
end
end Go.Proofs.YtbddhncgemeohaaGreatDoor.Mx
