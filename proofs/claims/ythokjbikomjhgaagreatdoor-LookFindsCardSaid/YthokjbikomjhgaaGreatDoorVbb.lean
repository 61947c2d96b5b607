/- Parts. -/
import Derived.Test.YthokjbikomjhgaaGreatDoorVba
set_option linter.unusedVariables false
set_option linter.unusedSimpArgs false
set_option maxRecDepth 100000
set_option maxHeartbeats 12800000
namespace Go.Proofs.YthokjbikomjhgaaGreatDoor.Mx
open Go.RowKit Ar Ref Og Mp
section
variable {N0:Nat} {own:Nat->Nat} {w:World} {b:Nat} {m:Mc} {y:Lay}
theorem je.setE2 {x0:Evv} {k j g c:Nat} (h:je N0 own w b { m with e:=m.e.set k x0.e } { y with es:=y.es.set k x0 }) (hk:k<y.es.length) {x':Evv} {u:Value} (hev:y.ev = .slice (some ⟨g,0,none⟩) y.es.length c) (hj:j<18) (hf:fEv x'=(fEv x0).set j u) (ha:Sq fQ w x'.s.v x'.e.ans.pairs/\(x'.e.ans.pairs≠[]->∀ k,k∈x'.s.v.ownBlock.toList->own k=0)) :
  je N0 own (w.setCell ⟨g,k * 18+j,none⟩ u) b { m with e:=m.e.set k x'.e } { y with es:=y.es.set k x' } /\ FrO N0 w (w.setCell ⟨g,k * 18+j,none⟩ u):=by
 have hz:(y.es.set k x0)[k]? = some x0:=List.getElem?_set_self hk;obtain ⟨h1,h2⟩:=h.setE (k:=k) (x':=x') (by simpa using hev) hz hj hf ha;simp only [List.set_set] at h1;exact ⟨h1,h2⟩
theorem je.ev_at (h:je N0 own w b m y) {k:Nat} {v:Ev} (hk:m.e[k]? = some v):∃ x,y.es[k]? = some x/\x.e=v:=by rw [<- h.evl,List.getElem?_map] at hk;obtain ⟨x,h1,h2⟩:=Option.map_eq_some_iff.1 hk;exact ⟨x,h1,h2⟩
theorem je.ansAt (h:je N0 own w b m y) {k:Nat} {x:Evv} (hk:y.es[k]? = some x):Sq fQ w x.s.v x.e.ans.pairs/\(x.e.ans.pairs≠[]->∀ k,k∈x.s.v.ownBlock.toList->own k=0):=h.ans x (List.mem_of_getElem? hk)
end
def AcC (a:Acc):Array Value:=#[.int .i64 a.kind,.int .i64 a.at_,.int .i64 a.old,.int .i64 a.new,.bool a.ok]
theorem q2a {l:List Ev} {t i:Int} {k:Nat} (h:l.findIdx? (evP t i)=some k):q58 l t i=(k:Int):=by unfold q58;rw [h]
theorem q9w {l:List Ev} {t i:Int} (h:l.findIdx? (evP t i)=none):q58 l t i = -1:=by unfold q58;rw [h]
theorem q6x {N0:Nat} {own:Nat->Nat} {w:World} {b:Nat} {m:Mc} {y:Lay} {N:Nat} (hI:MInv N m) (hN:N<=900000) (h:je N0 own w b m y) (hN0:N0<=w.heap.size) :
  Calls Tryz.prog 78 #[.pointer (some ⟨b,0,none⟩)] w (Y7 N0 w b m.notes (.tuple #[])):=by
 generalize hX:m.notes=X;have HX:=q9 hX;have HI:=q9 hI;clear hX hI;have H:=q9 h;have oA:=Ob.new w 48 (AcC m.a.a);have F0:=(Fr.refl [] w).alloc (.cells (AcC m.a.a) 48);have hab:∀ k,k<w.heap.size->¬ w.heap.size=k:=fun k hk=>by omega
 have hU:=h.up F0;obtain ⟨-,-,-,-,-,-,-,c7,-,c9,-,c11,-⟩:=zw h.ob;obtain ⟨-,-,-,-,-,-,-,d7,-,d9,-,d11,-⟩:=zw hU.ob;obtain ⟨cap,-,-,-,r2,r3,r4,r5,r6,-⟩:=Qk h.ar;have a0:(w.alloc (.cells (AcC m.a.a) 48)).cell? ⟨w.heap.size,0,none⟩=some (.int .i64 m.a.a.kind):=oA.cell rfl;have a1:(w.alloc (.cells (AcC m.a.a) 48)).cell? ⟨w.heap.size,1,none⟩=some (.int .i64 m.a.a.at_):=oA.cell rfl;have a2:(w.alloc (.cells (AcC m.a.a) 48)).cell? ⟨w.heap.size,2,none⟩=some (.int .i64 m.a.a.old):=oA.cell rfl;have a3:(w.alloc (.cells (AcC m.a.a) 48)).cell? ⟨w.heap.size,3,none⟩=some (.int .i64 m.a.a.new):=oA.cell rfl;have a4:(w.alloc (.cells (AcC m.a.a) 48)).cell? ⟨w.heap.size,4,none⟩=some (.bool m.a.a.ok):=oA.cell rfl;unfold AcC at oA F0 hU d7 d9 d11 a0 a1 a2 a3 a4;have HU:=q9 (qc hU (qc oA F0));clear hU oA F0 h;by_cases k4:m.a.a.kind=4
 ·have g1:(m.a.a.kind == 4)=true:=by simpa using k4
  by_cases k1:m.a.a.at_=1
  ·have g2:(m.a.a.at_ == 1)=true:=by simpa using k1
   have g3:(m.a.a.kind == 3)=false:=by rw [k4];rfl
   have K4:=q9 k4;have K1:=q9 k1;clear k4 k1;go_enter Tryz.func78,Tryz.ntmps78;go_wp2_with fail;have hb:=Ob.lt H.out.ob;generalize World.alloc w _=w1 at *;have hw1:=HU.out.2.2.size;have hkl:=HI.out.tk;have HT:=q9 HU.out.1.tk;have HC:=q9 HU.out.1.tkc;refine qp Lm ?_;refine za [] w1 #[true,true,true,true,true,true,true,true,true,true,true,true,false,false,false] 12 3 rfl ?_;refine lpq [true,true,true,true,true,false,true,true,true,true,false,false,false,false,false] 3 ((Fr.refl _ _).drew) ?_;apply qg;refine ⟨fun wf Ff=>?_,?_⟩
   ·have k9:=qb (Ff.cell d9 Ll);have k11:=qb (Ff.cell d11 Ll);exact Ab
   refine jv [5,10] Lm Ll (fun w10 F10 i hi o ho=>?_);have G:=(Fr.refl [] w1).drew.trans F10;clear F10;simp only [List.mem_cons,List.not_mem_nil,or_false] at hi;rcases hi with rfl | rfl
   focus
    obtain rfl:=qi ho
    go_wp2_with (at_builtin;refine jo vq rfl _ _ 25 rfl Tryz.underlying25 Kw rfl (B:=w1.heap.size) (.slice none 0 0) [] rfl ⟨rfl,.inl ⟨rfl,rfl⟩⟩ _ m.ticks rfl (HT.out.up G) Lu Lr G.size ?_;intro a21 c21 w21 r21 f21 n21)
    rw [List.nil_append] at r21
    replace G:=G.trans f21
    clear f21 n21
    refine ql ⟨G,?_⟩
    refine loq 10 (fun w11 F11=>?_)
    have r11:=qo r21 F11
    replace G:=G.trans F11
    clear r21 F11
    go_wp2_with fail
    have F12:=(Fr.refl [] w11).alloc (.cells #[.int .i64 m.now] 3)
    have B12:=Go.heap_alloc_new w11 (.cells #[.int .i64 m.now] 3)
    have r12:=qo r11 F12
    replace G:=G.trans F12
    clear r11 F12 ho
   rotate_left
   focus
    obtain rfl:=qi ho
    go_wp2_with fail
    have F12:=(Fr.refl [] w10).alloc (.cells #[.int .i64 m.now] 3)
    have B12:=Go.heap_alloc_new w10 (.cells #[.int .i64 m.now] 3)
    replace G:=G.trans F12
    clear F12 ho
    refine ql ⟨G,?_⟩
    refine loq 5 (fun w11 F11=>?_)
    have B13:=F11.heap B12 Ll
    replace G:=G.trans F11
    clear B12 F11
    go_wp2_with (at_builtin;refine jo vq rfl _ _ 25 rfl Tryz.underlying25 Kw rfl (B:=w1.heap.size) (.slice none 0 0) [] rfl ⟨rfl,.inl ⟨rfl,rfl⟩⟩ _ m.ticks rfl (HT.out.up G) Lu Lr G.size ?_;intro a21 c21 w21 r12 f21 n21)
    rw [List.nil_append] at r12
    have B12:=Fr.heap f21 B13 Lt
    replace G:=G.trans f21
    clear f21 n21 B13
   rotate_left
   all_goals
    refine ql ⟨G,?_⟩
    refine loq 11 (fun w13 F13=>?_)
    have r22:=qo r12 F13
    have B22:=F13.heap B12 Ll
    replace G:=G.trans F13
    clear r12 B12 F13
    go_wp2_with (at_builtin;refine jo vq rfl _ _ 25 rfl Tryz.underlying25 Kw rfl (B:=w1.heap.size) _ m.ticks rfl r22 _ [m.now] rfl (Sq.block B22 rfl rfl (Nat.le_refl _) Ly) Om Lr G.size ?_;intro a23 c23 w23 r23 f23 n23;generalize hT3:m.ticks++[m.now]=T3 at r23 ⊢)
    replace G:=G.own f23 (z8 r22)
    clear f23 r22 B22 n23
    refine ql ⟨G,?_⟩
    refine qy (k:=12) rfl Lm (fun w15 F15=>?_)
    have r26:=qo r23 F15
    replace G:=G.trans F15
    clear r23 F15
    have hM:=(HU.out.1.xy 0 (qh hN0 hw1)).up G
    have hcol:∀ k,k∈(Value.slice a23 T3.length c23).ownBlock.toList->xy own w1.heap.size 0 k=0:=fun k hk=>yn (z8 r26 k hk)
    generalize xy own w1.heap.size 0=own2 at *
    have hne:b∉(Value.slice a23 T3.length c23).ownBlock.toList:=fun hi=>by have:=hcol b hi;have:=hM.cb;omega
    have HM:=q9 (hM.setTk T3 (.slice a23 T3.length c23) ((Sq.own r26).kept (Fr.setCell (S:=[b]) _ Ll) (fun g hg hi=>by simp at hi;subst hi;exact hne hg)) (fun _ k hk=>hcol k hk))
    have z:=hM.ob.frozen
    have e11:w15.cell? ⟨b,11,none⟩=some y.kv:=G.cell d11 Ll
    have b0:=G.cell a0 Ll
    have nab:=hab b hb
    have nba:¬ b=w.heap.size:=fun e=>nab e.symm
    have HT3:=q9 hT3
    have HG:=q9 G
    clear hM hcol hne r26 G hT3
    go_wp2_with fail
    go_end0
    have e:X = { m with ticks:=T3 }:=by rw [<- HX.out,<- HT3.out];unfold Mc.notes;simp [K4.out,K1.out]
    rw [e]
    exact ⟨rfl,⟨own2,_,HM.out.1⟩,(FrO.of HU.out.2.2 Ll).trans ((FrO.of HG.out Ll).trans HM.out.2)⟩
  have g2:(m.a.a.at_ == 1)=false:=by simpa using k1
  have g3:(m.a.a.kind == 3)=false:=by rw [k4];rfl
  have K4:=q9 k4;have K1:=q9 k1;clear k4 k1;go_enter Tryz.func78,Tryz.ntmps78;go_wp2_with fail;go_end0;have e:X=m:=by rw [<- HX.out];unfold Mc.notes;simp only;rw [qd (fun h=>by have h1:=h.1;have h2:=K4.out;omega)];exact qd (fun h=>K1.out h.2)
  exact Da
 ·have g1:(m.a.a.kind == 4)=false:=by simpa using k4
  have K4:=q9 k4;clear k4;by_cases k3:m.a.a.kind=3
  ·have g3:(m.a.a.kind == 3)=true:=by simpa using k3
   have K3:=q9 k3;clear k3;cases k5:m.a.a.ok
   ·rw [k5] at a4 r6;have K5:=q9 k5;rw [k5] at HU;clear k5;go_enter Tryz.func78,Tryz.ntmps78;go_wp2_with fail;go_end0;have e:X=m:=by rw [<- HX.out];unfold Mc.notes;simp only;rw [qd (fun h=>by have h1:=h.2.1;rw [K5.out] at h1;cases h1)];exact qd (fun h=>K4.out h.1)
    exact Da
   rw [k5] at a0 a1 a2 a3 a4 r6 d7 d9 d11;have K5:=q9 k5;rw [k5] at HU;clear k5;by_cases k6:m.a.a.old=1
   ·have g6:(m.a.a.old == 1)=true:=by simpa using k6
    have K6:=q9 k6;clear k6;by_cases k7:3<=m.a.a.new
    ·have g7:decide (m.a.a.new≥3)=true:=by simpa using k7
     have g8:decide (3<=m.a.a.new)=true:=by simpa using k7
     have K7:=q9 k7;clear k7;go_enter Tryz.func78,Tryz.ntmps78;go_wp2_with fail;generalize World.alloc w _=w1 at *;have hw1:=HU.out.2.2.size;have k7:=qb d7;have p1:=qb a1;refine wiq ?_;repeat (go_big_quiet_step ((first | (go_at_call 36;exact Calls.in_same (Ref.vk _ y.p y.q m.a _ (HU.out.1.ar.kept (In.fr _) Ll Ll))) | (go_at_call 150;exact Calls.in_same (q65 _ _)) | (go_at_call 149;exact Calls.in_same (q6w _ _)))))
     refine wpQuiet_nil ?_;intro w2 F2;clear k7 p1;generalize hpk:qw m.a.l (wrap64 (m.a.a.at_+2))=pk at *;have HPK:=q9 hpk;clear hpk;generalize htt:(ofP (qa7 pk)).1=tt at *;generalize hii:(ofP (qa7 pk)).2=ii at *;have HTI:=q9 (qc htt hii);clear htt hii;have M2:=HU.out.1.up F2;have HM2:=q9 M2;have hel:y.es.length<=1000000:=by have:=HI.out.el;have:=M2.esl;omega
     go_wp2_with fail;refine (q04 m tt ii b _ _ _ _ _ _ _ y.es w2 hel M2.ob (Sq.own (f:=fEv) M2.ev)).mono ?_;rintro e w3 ⟨rfl,rfl⟩;rw [M2.evl]
     have hE:X=(match m.event tt ii with | some k=>{ m with e:=m.e.set k { (m.e.getD k qa9) with at_:=m.now,version:=Vb m.a.a.new } } | none=>m):=by rw [<- HX.out,<- HTI.out.1,<- HTI.out.2,<- HPK.out];unfold Mc.notes;simp [K3.out,K5.out,K6.out,K7.out];rfl
     have HE:=q9 hE;clear hE M2 hel;cases hev:m.event tt ii with
     | none =>
      have e0:q58 m.e tt ii = -1:=q9w (by rw [<- Ux];exact hev);rw [e0];have HEV:=q9 hev;clear hev e0;go_wp2_with fail;go_end0;have e:X=m:=by rw [HE.out,HEV.out]
      rw [e];exact ⟨rfl,⟨own,y,HM2.out⟩,FrO.of (HU.out.2.2.trans F2) Ll⟩
     | some k =>
      have e0:q58 m.e tt ii=(k:Int):=q2a (by rw [<- Ux];exact hev);rw [e0];obtain ⟨v,hv,-,-⟩:=Jj hev;obtain ⟨x,hx,hxv⟩:=HM2.out.ev_at hv;obtain ⟨g,c,hyv,hg5,hcl,zg⟩:=HM2.out.ev_open hx;have hkl:=(List.getElem?_eq_some_iff.1 hx).1;have hklz:(k:Int)<(y.es.length:Int):=by omega
      have HEV:=q9 (qc hev (qc hv (qc hx (qc hxv (qc hyv hkl)))));have x10:=hcl 10 _ rfl;have x11:=hcl 11 _ rfl;obtain ⟨-,-,-,-,-,-,-,-,-,e9,-,-,e12⟩:=zw HM2.out.ob;rw [hyv] at e12;have b3:=F2.cell a3 Ll;clear hev hv hx hxv hyv hkl e0 hg5 hcl;go_wp2_with fail;refine qp Lm ?_;refine wm 9 rfl Lm Lm Lm rfl (fun _ _ d _ _ h=>by cases d <;> exact h) ?_;go_frame;refine za [] w3 #[true,true,true,true,true,true,true,true,true,true,true,true,true,true,true,true,true,false,false,false,false,false,false] 16 6 rfl ?_;refine ja [true,true,true,true,true,true,true,true,true,false,true,true,true,true,true,true,true,false,false,false,false,false,false] 0 (n:=92) (listed':=#[true,true,true,true,true,true,true,true,true,true,true,true,true,true,true,true,true,false,false,false,false,false,false]) rfl Lm Lm Lm Lm rfl Lm (fun _ _ d _ _ h=>by cases d <;> exact h) ((Fr.refl _ w3).drew) ?_;apply qg;refine ⟨fun wf Ff=>?_,?_⟩
      ·have k9:=qb (Ff.cell e9 Ll);have k12:=qb (Ff.cell e12 Ll);have k3:=qb (Ff.cell b3 Ll);exact Db
      refine qy (k:=17) rfl Lm (fun w5 F5=>?_);replace F5:=(Fr.refl [] w3).drew.trans F5;have M5:=HM2.out.up F5;have G:=F2.trans F5
      have z:∀ i,w5.frozen? ⟨g,i,none⟩=false:=by obtain ⟨g',c',hyv',-,-,z'⟩:=M5.ev_open HEV.out.2.2.1;rw [HEV.out.2.2.2.2.1] at hyv';simp only [Value.slice.injEq,Option.some.injEq,Addr.mk.injEq] at hyv';obtain ⟨⟨rfl,-⟩,-⟩:=hyv';exact z'
      replace x10:=F5.cell x10 Ll;replace x11:=F5.cell x11 Ll;have HM5:=q9 M5;have HG:=q9 G;clear M5 G F5 zg;go_wp2_with fail;go_end0;have A1:=HM5.out.ansAt HEV.out.2.2.1;obtain ⟨C1,C2⟩:=HM5.out.setE (k:=k) (j:=10) (u:=.int .i64 m.now) (x':={ x with e:={ x.e with at_:=m.now } }) HEV.out.2.2.2.2.1 HEV.out.2.2.1 Lr Mj A1;obtain ⟨D1,D2⟩:=C1.setE2 HEV.out.2.2.2.2.2 (j:=11) (u:=.int .i64 (Vb m.a.a.new)) (x':={ x with e:={ x.e with at_:=m.now,version:=Vb m.a.a.new } }) HEV.out.2.2.2.2.1 Lr Mj (C1.ansAt (k:=k) (x:={ x with e:={ x.e with at_:=m.now } }) (List.getElem?_set_self HEV.out.2.2.2.2.2))
      have e:X = { m with e:=m.e.set k { x.e with at_:=m.now,version:=Vb m.a.a.new } }:=by rw [HE.out,HEV.out.1];simp only;rw [List.getD_eq_getElem?_getD,HEV.out.2.1,<- HEV.out.2.2.2.1];rfl
      rw [e];exact ⟨rfl,⟨own,_,D1⟩,(FrO.of (HU.out.2.2.trans HG.out) Ll).trans (C2.trans D2)⟩
    have g7:decide (m.a.a.new≥3)=false:=by simpa using k7
    have g8:decide (3<=m.a.a.new)=false:=by simpa using k7
    have K7:=q9 k7;clear k7;go_enter Tryz.func78,Tryz.ntmps78;go_wp2_with fail;go_end0;have e:X=m:=by rw [<- HX.out];unfold Mc.notes;simp only;rw [qd (fun h=>by have h1:=h.2.2.2;have h2:=K7.out;omega)];exact qd (fun h=>K4.out h.1)
    exact Da
   have g6:(m.a.a.old == 1)=false:=by simpa using k6
   have K6:=q9 k6;clear k6;go_enter Tryz.func78,Tryz.ntmps78;go_wp2_with fail;go_end0;have e:X=m:=by rw [<- HX.out];unfold Mc.notes;simp only;rw [qd (fun h=>K6.out h.2.2.1)];exact qd (fun h=>K4.out h.1)
   exact Da
  have g3:(m.a.a.kind == 3)=false:=by simpa using k3
  have K3:=q9 k3;clear k3;go_enter Tryz.func78,Tryz.ntmps78;go_wp2_with fail;go_end0;have e:X=m:=by rw [<- HX.out];unfold Mc.notes;simp only;rw [qd (fun h=>K3.out h.1)];exact qd (fun h=>K4.out h.1)
  exact Da
def mkM (m:Mc) (s:St) (n k:Nat) (X:Th) (V:Ev):Mc:={ m with a:=s,t:=m.t.set n X,e:=m.e.set k V }
def mkY (y:Lay) (n k:Nat) (Z:Tv) (V:Evv):Lay:={ y with ts:=y.ts.set n Z,es:=y.es.set k V }
structure MK (N0:Nat) (own:Nat->Nat) (w:World) (b:Nat) (m:Mc) (y:Lay) (n k g c:Nat) (s:St) (X:Th) (Z:Tv) (V:Evv):Prop where
 h:je N0 own w b (mkM m s n k X V.e) (mkY y n k Z V)
 n:n<y.ts.length
 k:k<y.es.length
 ev:y.ev = .slice (some ⟨g,0,none⟩) y.es.length c
section
variable {N0:Nat} {own:Nat->Nat} {w:World} {b:Nat} {m:Mc} {y:Lay} {n k g c:Nat} {s:St} {X:Th} {Z:Tv} {V:Evv}
theorem MK.of (h:je N0 own w b { m with a:=s,t:=m.t.set n X } y) (hz:y.ts[n]? = some Z) (hv:y.es[k]? = some V) (hm:m.e[k]? = some V.e) (hev:y.ev = .slice (some ⟨g,0,none⟩) y.es.length c):MK N0 own w b m y n k g c s X Z V:=by refine ⟨?_,(List.getElem?_eq_some_iff.1 hz).1,(List.getElem?_eq_some_iff.1 hv).1,hev⟩;unfold mkM mkY;rw [Xm hz,Xm hv,Xm hm];exact h
theorem MK.up {w':World} (h:MK N0 own w b m y n k g c s X Z V) (F:Fr [] w w'):MK N0 own w' b m y n k g c s X Z V:=⟨h.h.up F,h.n,h.k,h.ev⟩
theorem MK.xy (h:MK N0 own w b m y n k g c s X Z V) (col:Nat) (hN:N0<=w.heap.size):MK N0 (Mx.xy own w.heap.size col) w b m y n k g c s X Z V:=⟨h.h.xy col hN,h.n,h.k,h.ev⟩
theorem MK.setE (h:MK N0 own w b m y n k g c s X Z V) {j:Nat} {u:Value} {V':Evv} (hj:j<18) (hf:fEv V'=(fEv V).set j u) (ha:Sq fQ w V'.s.v V'.e.ans.pairs/\(V'.e.ans.pairs≠[]->∀ k,k∈V'.s.v.ownBlock.toList->own k=0)) :
  MK N0 own (w.setCell ⟨g,k * 18+j,none⟩ u) b m y n k g c s X Z V'/\FrO N0 w (w.setCell ⟨g,k * 18+j,none⟩ u):=by
 obtain ⟨h1,h2⟩:=je.setE2 (m:={ m with a:=s,t:=m.t.set n X }) (y:={ y with ts:=y.ts.set n Z }) h.h h.k (x':=V') h.ev hj hf ha;exact ⟨⟨h1,h.n,h.k,h.ev⟩,h2⟩
theorem MK.ans (h:MK N0 own w b m y n k g c s X Z V):Sq fQ w V.s.v V.e.ans.pairs/\(V.e.ans.pairs≠[]->∀ k,k∈V.s.v.ownBlock.toList->own k=0):=h.h.ansAt (k:=k) (List.getElem?_set_self h.k)
theorem MK.setN (h:MK N0 own w b m y n k g c s X Z V) {j:Nat} {u:Value} {e':Ev} (hj:j<18) (hf:fEv ⟨e',V.s⟩=(fEv V).set j u) (ha:e'.ans.pairs=V.e.ans.pairs) :
  MK N0 own (w.setCell ⟨g,k * 18+j,none⟩ u) b m y n k g c s X Z ⟨e',V.s⟩/\FrO N0 w (w.setCell ⟨g,k * 18+j,none⟩ u) :=
 h.setE hj hf (by rw [ha];exact h.ans)
theorem MK.setA (h:MK N0 own w b m y n k g c s X Z V) (a:An) (sv:Sv) (hs:Sq fQ w sv.v a.pairs) (hc:a.pairs≠[]->∀ k,k∈sv.v.ownBlock.toList->own k=0) (hg:own g=5) :
  MK N0 own ((((((w.setCell ⟨g,k * 18+12,none⟩ (.int .i64 a.code)).setCell ⟨g,k * 18+13,none⟩ (.bool a.found)).setCell ⟨g,k * 18+14,none⟩ (.int .i64 a.val)).setCell ⟨g,k * 18+15,none⟩ (.int .i64 a.writer)).setCell ⟨g,k * 18+16,none⟩ (.int .i64 a.version)).setCell ⟨g,k * 18+17,none⟩ sv.v) b m y n k g c s X Z ⟨{ V.e with ans:=a },sv⟩ /\
   FrO N0 w ((((((w.setCell ⟨g,k * 18+12,none⟩ (.int .i64 a.code)).setCell ⟨g,k * 18+13,none⟩ (.bool a.found)).setCell ⟨g,k * 18+14,none⟩ (.int .i64 a.val)).setCell ⟨g,k * 18+15,none⟩ (.int .i64 a.writer)).setCell ⟨g,k * 18+16,none⟩ (.int .i64 a.version)).setCell ⟨g,k * 18+17,none⟩ sv.v):=by
 obtain ⟨h1,f1⟩:=h.setN (j:=12) (u:=.int .i64 a.code) (e':={ V.e with ans:={ V.e.ans with code:=a.code } }) Lr Mj rfl;obtain ⟨h2,f2⟩:=h1.setN (j:=13) (u:=.bool a.found) (e':={ V.e with ans:={ V.e.ans with code:=a.code,found:=a.found } }) Lr Mj rfl;obtain ⟨h3,f3⟩:=h2.setN (j:=14) (u:=.int .i64 a.val) (e':={ V.e with ans:={ V.e.ans with code:=a.code,found:=a.found,val:=a.val } }) Lr Mj rfl;obtain ⟨h4,f4⟩:=h3.setN (j:=15) (u:=.int .i64 a.writer) (e':={ V.e with ans:={ V.e.ans with code:=a.code,found:=a.found,val:=a.val,writer:=a.writer } }) Lr Mj rfl;obtain ⟨h5,f5⟩:=h4.setN (j:=16) (u:=.int .i64 a.version) (e':={ V.e with ans:={ V.e.ans with code:=a.code,found:=a.found,val:=a.val,writer:=a.writer,version:=a.version } }) Lr Mj rfl;have F:Fr [g] w (((((w.setCell ⟨g,k * 18+12,none⟩ (.int .i64 a.code)).setCell ⟨g,k * 18+13,none⟩ (.bool a.found)).setCell ⟨g,k * 18+14,none⟩ (.int .i64 a.val)).setCell ⟨g,k * 18+15,none⟩ (.int .i64 a.writer)).setCell ⟨g,k * 18+16,none⟩ (.int .i64 a.version)):=((((Fr.setCell _ Ll).setCell' _ Ll).setCell' _ Ll).setCell' _ Ll).setCell' _ Ll;obtain ⟨h6,f6⟩:=h5.setE (j:=17) (u:=sv.v) (V':=⟨{ V.e with ans:=a },sv⟩) Lr Mj ⟨hs.keptN F (fun hne i hi hm=>by simp at hm;subst hm;have:=hc hne _ hi;omega),hc⟩;exact ⟨h6,f1.trans (f2.trans (f3.trans (f4.trans (f5.trans f6))))⟩
theorem MK.rest (h:MK N0 own w b m y n k g c s X Z V):MK N0 own (w.setCell ⟨y.tb,n * 6+1,none⟩ (.bool false)) b m y n k g c s { X with busy:=false } { Z with busy:=false } V/\FrO N0 w (w.setCell ⟨y.tb,n * 6+1,none⟩ (.bool false)):=by
 have hn:n<m.t.length:=by have h1:=h.h.thl;have h2:=h.n;unfold mkM mkY at h1;simp at h1;omega
 have hth:qeh X Z:=(h.h.thr n X Z (by unfold mkM;exact List.getElem?_set_self hn) (by unfold mkY;exact List.getElem?_set_self h.n)).choose_spec.1.1;obtain ⟨h1,h2⟩:=je.setT2 (m:={ m with a:=s,e:=m.e.set k V.e }) (y:={ y with es:=y.es.set k V }) (t:=n) (x0:=X) (z0:=Z) h.h hn (j:=1) (u:=.bool false) (x':={ X with next:=X.next,busy:=false,scans:=X.scans }) (z':={ Z with next:=X.next,busy:=false,scans:=X.scans }) Lr (by simp [fTv,hth.1,hth.2.2]) (fun w' F=>by obtain ⟨B,k1,k2⟩:=je.thK2 (m:={ m with a:=s,e:=m.e.set k V.e }) (y:={ y with es:=y.es.set k V }) h.h hn w' F;exact ⟨B,k1.num _ _ _,k2⟩);refine ⟨⟨?_,h.n,h.k,h.ev⟩,h2⟩;have ez:({ Z with next:=X.next,busy:=false,scans:=X.scans }:Tv) = { Z with busy:=false }:=by rw [<- hth.1,<- hth.2.2]
 rw [ez] at h1;exact h1
theorem MK.og (h:MK N0 own w b m y n k g c s X Z V):own g=5:=h.h.evo g (by unfold mkY;simp only;rw [h.ev];simp [Value.ownBlock])
theorem MK.mc (h:MK N0 own w b m y n k g c s X Z V):w.cell? ⟨b,7,none⟩=some (.pointer (some ⟨y.p,0,none⟩))/\w.cell? ⟨b,8,none⟩=some (.slice (some ⟨y.tb,0,none⟩) y.ts.length y.ts.length)/\w.cell? ⟨b,9,none⟩=some (.int .i64 m.now)/\w.cell? ⟨b,12,none⟩=some (.slice (some ⟨g,0,none⟩) y.es.length c):=by obtain ⟨-,-,-,-,-,-,-,c7,c8,c9,-,-,c12⟩:=zw h.h.ob;unfold mkM mkY Mx.Lay.tv at *;simp only [List.length_set] at c7 c8 c9 c12;rw [h.ev] at c12;exact ⟨c7,c8,c9,c12⟩
theorem MK.tc (h:MK N0 own w b m y n k g c s X Z V):w.cell? ⟨y.tb,n * 6+1,none⟩=some (.bool Z.busy)/\w.cell? ⟨y.tb,n * 6+3,none⟩=some (xz Z.pp)/\w.cell? ⟨y.tb,n * 6+4,none⟩=some (xz Z.gp)/\w.cell? ⟨y.tb,n * 6+5,none⟩=some (xz Z.sp)/\∀ i,w.frozen? ⟨y.tb,i,none⟩=false:=by
 have hz:(mkY y n k Z V).ts[n]? = some Z:=by unfold mkY;exact List.getElem?_set_self h.n
 exact ⟨xm h.h.th hz (j:=1) Lr rfl,xm h.h.th hz (j:=3) Lr rfl,xm h.h.th hz (j:=4) Lr rfl,xm h.h.th hz (j:=5) Lr rfl,h.h.th.frozen⟩
theorem MK.ec (h:MK N0 own w b m y n k g c s X Z V):(∀ j u,(fEv V)[j]? = some u->w.cell? ⟨g,k * 18+j,none⟩=some u)/\∀ i,w.frozen? ⟨g,i,none⟩=false:=by
 have hv:(mkY y n k Z V).es[k]? = some V:=by unfold mkY;exact List.getElem?_set_self h.k
 obtain ⟨g',c',e,-,h3,h4⟩:=h.h.ev_open hv;have e2:(mkY y n k Z V).ev = .slice (some ⟨g,0,none⟩) y.es.length c:=h.ev;rw [e2] at e;simp only [Value.slice.injEq,Option.some.injEq,Addr.mk.injEq] at e;obtain ⟨⟨rfl,-⟩,-⟩:=e;exact ⟨h3,h4⟩
theorem MK.ne (h:MK N0 own w b m y n k g c s X Z V):¬ b=g/\¬ b=y.tb/\¬ y.tb=g:=by have h1:=h.h.cb;have h2:own y.tb=4:=h.h.ct;have h3:=h.og;exact ⟨fun e=>by rw [e] at h1;omega,fun e=>by rw [e] at h1;omega,fun e=>by rw [e] at h2;omega⟩
end
end Go.Proofs.YthokjbikomjhgaaGreatDoor.Mx
