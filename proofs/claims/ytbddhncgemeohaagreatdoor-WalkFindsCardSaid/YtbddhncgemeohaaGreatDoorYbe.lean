/- Parts. -/
import Derived.Test.YtbddhncgemeohaaGreatDoorYbc
import Derived.Test.YtbddhncgemeohaaGreatDoorYbd
set_option linter.unusedVariables false
set_option linter.unusedSimpArgs false
set_option maxRecDepth 100000
set_option maxHeartbeats 12800000
namespace Go.Proofs.YtbddhncgemeohaaGreatDoor.Mx
open Go.RowKit Ar Ref Og Mp
section
variable {N0:Nat} {own:Nat->Nat} {w:World} {b:Nat} {m:Mc} {y:Lay}
theorem ji.setE2 {x0:Evv} {k j g c:Nat} (h:ji N0 own w b { m with e:=m.e.set k x0.e } { y with es:=y.es.set k x0 }) (hk:k<y.es.length) {x':Evv} {u:Value} (hev:y.ev = .slice (some ⟨g,0,none⟩) y.es.length c) (hj:j<18) (hf:fEv x'=(fEv x0).set j u) (ha:Sq fQ w x'.s.v x'.e.ans.pairs/\(x'.e.ans.pairs≠[]->∀ k,k∈x'.s.v.ownBlock.toList->own k=0)) :
  ji N0 own (w.setCell ⟨g,k * 18+j,none⟩ u) b { m with e:=m.e.set k x'.e } { y with es:=y.es.set k x' } /\ FrO N0 w (w.setCell ⟨g,k * 18+j,none⟩ u):=by
 have hz:(y.es.set k x0)[k]? = some x0:=List.getElem?_set_self hk;obtain ⟨h1,h2⟩:=h.setE (k:=k) (x':=x') (by simpa using hev) hz hj hf ha;simp only [List.set_set] at h1;exact ⟨h1,h2⟩
theorem ji.ev_at (h:ji N0 own w b m y) {k:Nat} {v:Ev} (hk:m.e[k]? = some v):∃ x,y.es[k]? = some x/\x.e=v:=by rw [<- h.evl,List.getElem?_map] at hk;obtain ⟨x,h1,h2⟩:=Option.map_eq_some_iff.1 hk;exact ⟨x,h1,h2⟩
theorem ji.ansAt (h:ji N0 own w b m y) {k:Nat} {x:Evv} (hk:y.es[k]? = some x):Sq fQ w x.s.v x.e.ans.pairs/\(x.e.ans.pairs≠[]->∀ k,k∈x.s.v.ownBlock.toList->own k=0):=h.ans x (List.mem_of_getElem? hk)
end
def AcC (a:Acc):Array Value:=#[.int .i64 a.kind,.int .i64 a.at_,.int .i64 a.old,.int .i64 a.new,.bool a.ok]
theorem q27 {l:List Ev} {t i:Int} {k:Nat} (h:l.findIdx? (evP t i)=some k):q59 l t i=(k:Int):=by unfold q59;rw [h]
theorem q8v {l:List Ev} {t i:Int} (h:l.findIdx? (evP t i)=none):q59 l t i = -1:=by unfold q59;rw [h]
theorem q5n {N0:Nat} {own:Nat->Nat} {w:World} {b:Nat} {m:Mc} {y:Lay} {N:Nat} (hI:MInv N m) (hN:N<=900000) (h:ji N0 own w b m y) (hN0:N0<=w.heap.size) :
  Calls Tryz.prog 51 #[.pointer (some ⟨b,0,none⟩)] w (Vx N0 w b m.notes (.tuple #[])):=by
 generalize hX:m.notes=X;have HX:=qb hX;have HI:=qb hI;clear hX hI;have H:=qb h;have oA:=Ob.new w 38 (AcC m.a.a);have F0:=(Fr.refl [] w).alloc (.cells (AcC m.a.a) 38);have hab:∀ k,k<w.heap.size->¬ w.heap.size=k:=fun k hk=>by omega
 have hU:=h.up F0;obtain ⟨-,-,-,-,-,-,-,c7,-,c9,-,c11,-⟩:=zz h.ob;obtain ⟨-,-,-,-,-,-,-,d7,-,d9,-,d11,-⟩:=zz hU.ob;obtain ⟨cap,-,-,-,r2,r3,r4,r5,r6,-⟩:=Zy h.ar;have a0:(w.alloc (.cells (AcC m.a.a) 38)).cell? ⟨w.heap.size,0,none⟩=some (.int .i64 m.a.a.kind):=oA.cell rfl;have a1:(w.alloc (.cells (AcC m.a.a) 38)).cell? ⟨w.heap.size,1,none⟩=some (.int .i64 m.a.a.at_):=oA.cell rfl;have a2:(w.alloc (.cells (AcC m.a.a) 38)).cell? ⟨w.heap.size,2,none⟩=some (.int .i64 m.a.a.old):=oA.cell rfl;have a3:(w.alloc (.cells (AcC m.a.a) 38)).cell? ⟨w.heap.size,3,none⟩=some (.int .i64 m.a.a.new):=oA.cell rfl;have a4:(w.alloc (.cells (AcC m.a.a) 38)).cell? ⟨w.heap.size,4,none⟩=some (.bool m.a.a.ok):=oA.cell rfl;unfold AcC at oA F0 hU d7 d9 d11 a0 a1 a2 a3 a4;have HU:=qb (qd hU (qd oA F0));clear hU oA F0 h;by_cases k4:m.a.a.kind=4
 ·have g1:(m.a.a.kind == 4)=true:=by simpa using k4
  by_cases k1:m.a.a.at_=1
  ·have g2:(m.a.a.at_ == 1)=true:=by simpa using k1
   have g3:(m.a.a.kind == 3)=false:=by rw [k4];rfl
   have K4:=qb k4;have K1:=qb k1;clear k4 k1;go_enter Tryz.func51,Tryz.ntmps51;go_wp2_with fail;have hb:=Ob.lt H.out.ob;generalize World.alloc w _=w1 at *;have hw1:=HU.out.2.2.size;have hkl:=HI.out.tk;have HT:=qb HU.out.1.tk;have HC:=qb HU.out.1.tkc;refine qq Me ?_;refine za [] w1 #[true,true,true,true,true,true,true,true,true,true,true,true,false,false,false] 12 3 rfl ?_;refine lpq [true,true,true,true,true,false,true,true,true,true,false,false,false,false,false] 3 ((Fr.refl _ _).drew) ?_;apply qh;refine ⟨fun wf Ff=>?_,?_⟩
   ·have k9:=qc (Ff.cell d9 Ma);have k11:=qc (Ff.cell d11 Ma);exact Ac
   refine jc [5,10] Me Ma (fun w10 F10 i hi o ho=>?_);have G:=(Fr.refl [] w1).drew.trans F10;clear F10;simp only [List.mem_cons,List.not_mem_nil,or_false] at hi;rcases hi with rfl | rfl
   focus
    obtain rfl:=qj ho
    go_wp2_with (at_builtin;refine Q0 yh rfl _ _ 25 rfl Tryz.underlying25 Uk rfl (B:=w1.heap.size) (.slice none 0 0) [] rfl ⟨rfl,.inl ⟨rfl,rfl⟩⟩ _ m.ticks rfl (HT.out.up G) Ml Mg G.size ?_;intro a21 c21 w21 r21 f21 n21)
    rw [List.nil_append] at r21
    replace G:=G.trans f21
    clear f21 n21
    refine qo ⟨G,?_⟩
    refine loq 10 (fun w11 F11=>?_)
    have r11:=qp r21 F11
    replace G:=G.trans F11
    clear r21 F11
    go_wp2_with fail
    have F12:=(Fr.refl [] w11).alloc (.cells #[.int .i64 m.now] 3)
    have B12:=Go.heap_alloc_new w11 (.cells #[.int .i64 m.now] 3)
    have r12:=qp r11 F12
    replace G:=G.trans F12
    clear r11 F12 ho
   rotate_left
   focus
    obtain rfl:=qj ho
    go_wp2_with fail
    have F12:=(Fr.refl [] w10).alloc (.cells #[.int .i64 m.now] 3)
    have B12:=Go.heap_alloc_new w10 (.cells #[.int .i64 m.now] 3)
    replace G:=G.trans F12
    clear F12 ho
    refine qo ⟨G,?_⟩
    refine loq 5 (fun w11 F11=>?_)
    have B13:=F11.heap B12 Ma
    replace G:=G.trans F11
    clear B12 F11
    go_wp2_with (at_builtin;refine Q0 yh rfl _ _ 25 rfl Tryz.underlying25 Uk rfl (B:=w1.heap.size) (.slice none 0 0) [] rfl ⟨rfl,.inl ⟨rfl,rfl⟩⟩ _ m.ticks rfl (HT.out.up G) Ml Mg G.size ?_;intro a21 c21 w21 r12 f21 n21)
    rw [List.nil_append] at r12
    have B12:=Fr.heap f21 B13 Mo
    replace G:=G.trans f21
    clear f21 n21 B13
   rotate_left
   all_goals
    refine qo ⟨G,?_⟩
    refine loq 11 (fun w13 F13=>?_)
    have r22:=qp r12 F13
    have B22:=F13.heap B12 Ma
    replace G:=G.trans F13
    clear r12 B12 F13
    go_wp2_with (at_builtin;refine Q0 yh rfl _ _ 25 rfl Tryz.underlying25 Uk rfl (B:=w1.heap.size) _ m.ticks rfl r22 _ [m.now] rfl (Sq.block B22 rfl rfl (Nat.le_refl _) Mm) Pd Mg G.size ?_;intro a23 c23 w23 r23 f23 n23;generalize hT3:m.ticks++[m.now]=T3 at r23 ⊢)
    replace G:=G.own f23 (zh r22)
    clear f23 r22 B22 n23
    refine qo ⟨G,?_⟩
    refine qy (k:=12) rfl Me (fun w15 F15=>?_)
    have r26:=qp r23 F15
    replace G:=G.trans F15
    clear r23 F15
    have hM:=(HU.out.1.vk 0 (qi hN0 hw1)).up G
    have hcol:∀ k,k∈(Value.slice a23 T3.length c23).ownBlock.toList->vk own w1.heap.size 0 k=0:=fun k hk=>ym (zh r26 k hk)
    generalize vk own w1.heap.size 0=own2 at *
    have hne:b∉(Value.slice a23 T3.length c23).ownBlock.toList:=fun hi=>by have:=hcol b hi;have:=hM.cb;omega
    have HM:=qb (hM.setTk T3 (.slice a23 T3.length c23) ((Sq.own r26).kept (Fr.setCell (S:=[b]) _ Ma) (fun g hg hi=>by simp at hi;subst hi;exact hne hg)) (fun _ k hk=>hcol k hk))
    have z:=hM.ob.frozen
    have e11:w15.cell? ⟨b,11,none⟩=some y.kv:=G.cell d11 Ma
    have b0:=G.cell a0 Ma
    have nab:=hab b hb
    have nba:¬ b=w.heap.size:=fun e=>nab e.symm
    have HT3:=qb hT3
    have HG:=qb G
    clear hM hcol hne r26 G hT3
    go_wp2_with fail
    go_end0
    have e:X = { m with ticks:=T3 }:=by rw [<- HX.out,<- HT3.out];unfold Mc.notes;simp [K4.out,K1.out]
    rw [e]
    exact ⟨rfl,⟨own2,_,HM.out.1⟩,(FrO.of HU.out.2.2 Ma).trans ((FrO.of HG.out Ma).trans HM.out.2)⟩
  have g2:(m.a.a.at_ == 1)=false:=by simpa using k1
  have g3:(m.a.a.kind == 3)=false:=by rw [k4];rfl
  have K4:=qb k4;have K1:=qb k1;clear k4 k1;go_enter Tryz.func51,Tryz.ntmps51;go_wp2_with fail;go_end0;have e:X=m:=by rw [<- HX.out];unfold Mc.notes;simp only;rw [qf (fun h=>by have h1:=h.1;have h2:=K4.out;omega)];exact qf (fun h=>K1.out h.2)
  exact Cu
 ·have g1:(m.a.a.kind == 4)=false:=by simpa using k4
  have K4:=qb k4;clear k4;by_cases k3:m.a.a.kind=3
  ·have g3:(m.a.a.kind == 3)=true:=by simpa using k3
   have K3:=qb k3;clear k3;cases k5:m.a.a.ok
   ·rw [k5] at a4 r6;have K5:=qb k5;rw [k5] at HU;clear k5;go_enter Tryz.func51,Tryz.ntmps51;go_wp2_with fail;go_end0;have e:X=m:=by rw [<- HX.out];unfold Mc.notes;simp only;rw [qf (fun h=>by have h1:=h.2.1;rw [K5.out] at h1;cases h1)];exact qf (fun h=>K4.out h.1)
    exact Cu
   rw [k5] at a0 a1 a2 a3 a4 r6 d7 d9 d11;have K5:=qb k5;rw [k5] at HU;clear k5;by_cases k6:m.a.a.old=1
   ·have g6:(m.a.a.old == 1)=true:=by simpa using k6
    have K6:=qb k6;clear k6;by_cases k7:3<=m.a.a.new
    ·have g7:decide (m.a.a.new≥3)=true:=by simpa using k7
     have g8:decide (3<=m.a.a.new)=true:=by simpa using k7
     have K7:=qb k7;clear k7;go_enter Tryz.func51,Tryz.ntmps51;go_wp2_with fail;generalize World.alloc w _=w1 at *;have hw1:=HU.out.2.2.size;have k7:=qc d7;have p1:=qc a1;refine wiq ?_;repeat (go_big_quiet_step ((first | (go_at_call 18;exact Calls.in_same (Ref.ja _ y.p y.q m.a _ (HU.out.1.ar.kept (In.fr _) Ma Ma))) | (go_at_call 74;exact Calls.in_same (q7z _ _)) | (go_at_call 73;exact Calls.in_same (q5q _ _)))))
     refine wpQuiet_nil ?_;intro w2 F2;clear k7 p1;generalize hpk:qx m.a.l (wrap64 (m.a.a.at_+2))=pk at *;have HPK:=qb hpk;clear hpk;generalize htt:(ofP (qae pk)).1=tt at *;generalize hii:(ofP (qae pk)).2=ii at *;have HTI:=qb (qd htt hii);clear htt hii;have M2:=HU.out.1.up F2;have HM2:=qb M2;have hel:y.es.length<=1000000:=by have:=HI.out.el;have:=M2.esl;omega
     go_wp2_with fail;refine (q02 m tt ii b _ _ _ _ _ _ _ y.es w2 hel M2.ob (Sq.own (f:=fEv) M2.ev)).mono ?_;rintro e w3 ⟨rfl,rfl⟩;rw [M2.evl]
     have hE:X=(match m.event tt ii with | some k=>{ m with e:=m.e.set k { (m.e.getD k qak) with at_:=m.now,version:=Vg m.a.a.new } } | none=>m):=by rw [<- HX.out,<- HTI.out.1,<- HTI.out.2,<- HPK.out];unfold Mc.notes;simp [K3.out,K5.out,K6.out,K7.out];rfl
     have HE:=qb hE;clear hE M2 hel;cases hev:m.event tt ii with
     | none =>
      have e0:q59 m.e tt ii = -1:=q8v (by rw [<- Uh];exact hev);rw [e0];have HEV:=qb hev;clear hev e0;go_wp2_with fail;go_end0;have e:X=m:=by rw [HE.out,HEV.out]
      rw [e];exact ⟨rfl,⟨own,y,HM2.out⟩,FrO.of (HU.out.2.2.trans F2) Ma⟩
     | some k =>
      have e0:q59 m.e tt ii=(k:Int):=q27 (by rw [<- Uh];exact hev);rw [e0];obtain ⟨v,hv,-,-⟩:=Jc hev;obtain ⟨x,hx,hxv⟩:=HM2.out.ev_at hv;obtain ⟨g,c,hyv,hg5,hcl,zg⟩:=HM2.out.ev_open hx;have hkl:=(List.getElem?_eq_some_iff.1 hx).1;have hklz:(k:Int)<(y.es.length:Int):=by omega
      have HEV:=qb (qd hev (qd hv (qd hx (qd hxv (qd hyv hkl)))));have x10:=hcl 10 _ rfl;have x11:=hcl 11 _ rfl;obtain ⟨-,-,-,-,-,-,-,-,-,e9,-,-,e12⟩:=zz HM2.out.ob;rw [hyv] at e12;have b3:=F2.cell a3 Ma;clear hev hv hx hxv hyv hkl e0 hg5 hcl;go_wp2_with fail;refine qq Me ?_;refine yl 9 rfl Me Me Me rfl (fun _ _ d _ _ h=>by cases d <;> exact h) ?_;go_frame;refine za [] w3 #[true,true,true,true,true,true,true,true,true,true,true,true,true,true,true,true,true,false,false,false,false,false,false] 16 6 rfl ?_;refine jd [true,true,true,true,true,true,true,true,true,false,true,true,true,true,true,true,true,false,false,false,false,false,false] 0 (n:=92) (listed':=#[true,true,true,true,true,true,true,true,true,true,true,true,true,true,true,true,true,false,false,false,false,false,false]) rfl Me Me Me Me rfl Me (fun _ _ d _ _ h=>by cases d <;> exact h) ((Fr.refl _ w3).drew) ?_;apply qh;refine ⟨fun wf Ff=>?_,?_⟩
      ·have k9:=qc (Ff.cell e9 Ma);have k12:=qc (Ff.cell e12 Ma);have k3:=qc (Ff.cell b3 Ma);exact Cv
      refine qy (k:=17) rfl Me (fun w5 F5=>?_);replace F5:=(Fr.refl [] w3).drew.trans F5;have M5:=HM2.out.up F5;have G:=F2.trans F5
      have z:∀ i,w5.frozen? ⟨g,i,none⟩=false:=by obtain ⟨g',c',hyv',-,-,z'⟩:=M5.ev_open HEV.out.2.2.1;rw [HEV.out.2.2.2.2.1] at hyv';simp only [Value.slice.injEq,Option.some.injEq,Addr.mk.injEq] at hyv';obtain ⟨⟨rfl,-⟩,-⟩:=hyv';exact z'
      replace x10:=F5.cell x10 Ma;replace x11:=F5.cell x11 Ma;have HM5:=qb M5;have HG:=qb G;clear M5 G F5 zg;go_wp2_with fail;go_end0;have A1:=HM5.out.ansAt HEV.out.2.2.1;obtain ⟨C1,C2⟩:=HM5.out.setE (k:=k) (j:=10) (u:=.int .i64 m.now) (x':={ x with e:={ x.e with at_:=m.now } }) HEV.out.2.2.2.2.1 HEV.out.2.2.1 Mg N8 A1;obtain ⟨D1,D2⟩:=C1.setE2 HEV.out.2.2.2.2.2 (j:=11) (u:=.int .i64 (Vg m.a.a.new)) (x':={ x with e:={ x.e with at_:=m.now,version:=Vg m.a.a.new } }) HEV.out.2.2.2.2.1 Mg N8 (C1.ansAt (k:=k) (x:={ x with e:={ x.e with at_:=m.now } }) (List.getElem?_set_self HEV.out.2.2.2.2.2))
      have e:X = { m with e:=m.e.set k { x.e with at_:=m.now,version:=Vg m.a.a.new } }:=by rw [HE.out,HEV.out.1];simp only;rw [List.getD_eq_getElem?_getD,HEV.out.2.1,<- HEV.out.2.2.2.1];rfl
      rw [e];exact ⟨rfl,⟨own,_,D1⟩,(FrO.of (HU.out.2.2.trans HG.out) Ma).trans (C2.trans D2)⟩
    have g7:decide (m.a.a.new≥3)=false:=by simpa using k7
    have g8:decide (3<=m.a.a.new)=false:=by simpa using k7
    have K7:=qb k7;clear k7;go_enter Tryz.func51,Tryz.ntmps51;go_wp2_with fail;go_end0;have e:X=m:=by rw [<- HX.out];unfold Mc.notes;simp only;rw [qf (fun h=>by have h1:=h.2.2.2;have h2:=K7.out;omega)];exact qf (fun h=>K4.out h.1)
    exact Cu
   have g6:(m.a.a.old == 1)=false:=by simpa using k6
   have K6:=qb k6;clear k6;go_enter Tryz.func51,Tryz.ntmps51;go_wp2_with fail;go_end0;have e:X=m:=by rw [<- HX.out];unfold Mc.notes;simp only;rw [qf (fun h=>K6.out h.2.2.1)];exact qf (fun h=>K4.out h.1)
   exact Cu
  have g3:(m.a.a.kind == 3)=false:=by simpa using k3
  have K3:=qb k3;clear k3;go_enter Tryz.func51,Tryz.ntmps51;go_wp2_with fail;go_end0;have e:X=m:=by rw [<- HX.out];unfold Mc.notes;simp only;rw [qf (fun h=>K3.out h.1)];exact qf (fun h=>K4.out h.1)
  exact Cu
def mkM (m:Mc) (s:St) (n k:Nat) (X:Th) (V:Ev):Mc:={ m with a:=s,t:=m.t.set n X,e:=m.e.set k V }
def mkY (y:Lay) (n k:Nat) (Z:Tv) (V:Evv):Lay:={ y with ts:=y.ts.set n Z,es:=y.es.set k V }
structure MK (N0:Nat) (own:Nat->Nat) (w:World) (b:Nat) (m:Mc) (y:Lay) (n k g c:Nat) (s:St) (X:Th) (Z:Tv) (V:Evv):Prop where
 h:ji N0 own w b (mkM m s n k X V.e) (mkY y n k Z V)
 n:n<y.ts.length
 k:k<y.es.length
 ev:y.ev = .slice (some ⟨g,0,none⟩) y.es.length c
section
variable {N0:Nat} {own:Nat->Nat} {w:World} {b:Nat} {m:Mc} {y:Lay} {n k g c:Nat} {s:St} {X:Th} {Z:Tv} {V:Evv}
theorem MK.of (h:ji N0 own w b { m with a:=s,t:=m.t.set n X } y) (hz:y.ts[n]? = some Z) (hv:y.es[k]? = some V) (hm:m.e[k]? = some V.e) (hev:y.ev = .slice (some ⟨g,0,none⟩) y.es.length c):MK N0 own w b m y n k g c s X Z V:=by refine ⟨?_,(List.getElem?_eq_some_iff.1 hz).1,(List.getElem?_eq_some_iff.1 hv).1,hev⟩;unfold mkM mkY;rw [Xn hz,Xn hv,Xn hm];exact h
theorem MK.up {w':World} (h:MK N0 own w b m y n k g c s X Z V) (F:Fr [] w w'):MK N0 own w' b m y n k g c s X Z V:=⟨h.h.up F,h.n,h.k,h.ev⟩
theorem MK.vk (h:MK N0 own w b m y n k g c s X Z V) (col:Nat) (hN:N0<=w.heap.size):MK N0 (Mx.vk own w.heap.size col) w b m y n k g c s X Z V:=⟨h.h.vk col hN,h.n,h.k,h.ev⟩
theorem MK.setE (h:MK N0 own w b m y n k g c s X Z V) {j:Nat} {u:Value} {V':Evv} (hj:j<18) (hf:fEv V'=(fEv V).set j u) (ha:Sq fQ w V'.s.v V'.e.ans.pairs/\(V'.e.ans.pairs≠[]->∀ k,k∈V'.s.v.ownBlock.toList->own k=0)) :
  MK N0 own (w.setCell ⟨g,k * 18+j,none⟩ u) b m y n k g c s X Z V'/\FrO N0 w (w.setCell ⟨g,k * 18+j,none⟩ u):=by
 obtain ⟨h1,h2⟩:=ji.setE2 (m:={ m with a:=s,t:=m.t.set n X }) (y:={ y with ts:=y.ts.set n Z }) h.h h.k (x':=V') h.ev hj hf ha;exact ⟨⟨h1,h.n,h.k,h.ev⟩,h2⟩
theorem MK.ans (h:MK N0 own w b m y n k g c s X Z V):Sq fQ w V.s.v V.e.ans.pairs/\(V.e.ans.pairs≠[]->∀ k,k∈V.s.v.ownBlock.toList->own k=0):=h.h.ansAt (k:=k) (List.getElem?_set_self h.k)
theorem MK.setN (h:MK N0 own w b m y n k g c s X Z V) {j:Nat} {u:Value} {e':Ev} (hj:j<18) (hf:fEv ⟨e',V.s⟩=(fEv V).set j u) (ha:e'.ans.pairs=V.e.ans.pairs) :
  MK N0 own (w.setCell ⟨g,k * 18+j,none⟩ u) b m y n k g c s X Z ⟨e',V.s⟩/\FrO N0 w (w.setCell ⟨g,k * 18+j,none⟩ u) :=
 h.setE hj hf (by rw [ha];exact h.ans)
theorem MK.setA (h:MK N0 own w b m y n k g c s X Z V) (a:An) (sv:Sv) (hs:Sq fQ w sv.v a.pairs) (hc:a.pairs≠[]->∀ k,k∈sv.v.ownBlock.toList->own k=0) (hg:own g=5) :
  MK N0 own ((((((w.setCell ⟨g,k * 18+12,none⟩ (.int .i64 a.code)).setCell ⟨g,k * 18+13,none⟩ (.bool a.found)).setCell ⟨g,k * 18+14,none⟩ (.int .i64 a.val)).setCell ⟨g,k * 18+15,none⟩ (.int .i64 a.writer)).setCell ⟨g,k * 18+16,none⟩ (.int .i64 a.version)).setCell ⟨g,k * 18+17,none⟩ sv.v) b m y n k g c s X Z ⟨{ V.e with ans:=a },sv⟩ /\
   FrO N0 w ((((((w.setCell ⟨g,k * 18+12,none⟩ (.int .i64 a.code)).setCell ⟨g,k * 18+13,none⟩ (.bool a.found)).setCell ⟨g,k * 18+14,none⟩ (.int .i64 a.val)).setCell ⟨g,k * 18+15,none⟩ (.int .i64 a.writer)).setCell ⟨g,k * 18+16,none⟩ (.int .i64 a.version)).setCell ⟨g,k * 18+17,none⟩ sv.v):=by
 obtain ⟨h1,f1⟩:=h.setN (j:=12) (u:=.int .i64 a.code) (e':={ V.e with ans:={ V.e.ans with code:=a.code } }) Mg N8 rfl;obtain ⟨h2,f2⟩:=h1.setN (j:=13) (u:=.bool a.found) (e':={ V.e with ans:={ V.e.ans with code:=a.code,found:=a.found } }) Mg N8 rfl;obtain ⟨h3,f3⟩:=h2.setN (j:=14) (u:=.int .i64 a.val) (e':={ V.e with ans:={ V.e.ans with code:=a.code,found:=a.found,val:=a.val } }) Mg N8 rfl;obtain ⟨h4,f4⟩:=h3.setN (j:=15) (u:=.int .i64 a.writer) (e':={ V.e with ans:={ V.e.ans with code:=a.code,found:=a.found,val:=a.val,writer:=a.writer } }) Mg N8 rfl;obtain ⟨h5,f5⟩:=h4.setN (j:=16) (u:=.int .i64 a.version) (e':={ V.e with ans:={ V.e.ans with code:=a.code,found:=a.found,val:=a.val,writer:=a.writer,version:=a.version } }) Mg N8 rfl;have F:Fr [g] w (((((w.setCell ⟨g,k * 18+12,none⟩ (.int .i64 a.code)).setCell ⟨g,k * 18+13,none⟩ (.bool a.found)).setCell ⟨g,k * 18+14,none⟩ (.int .i64 a.val)).setCell ⟨g,k * 18+15,none⟩ (.int .i64 a.writer)).setCell ⟨g,k * 18+16,none⟩ (.int .i64 a.version)):=((((Fr.setCell _ Ma).setCell' _ Ma).setCell' _ Ma).setCell' _ Ma).setCell' _ Ma;obtain ⟨h6,f6⟩:=h5.setE (j:=17) (u:=sv.v) (V':=⟨{ V.e with ans:=a },sv⟩) Mg N8 ⟨hs.keptN F (fun hne i hi hm=>by simp at hm;subst hm;have:=hc hne _ hi;omega),hc⟩;exact ⟨h6,f1.trans (f2.trans (f3.trans (f4.trans (f5.trans f6))))⟩
theorem MK.rest (h:MK N0 own w b m y n k g c s X Z V):MK N0 own (w.setCell ⟨y.tb,n * 6+1,none⟩ (.bool false)) b m y n k g c s { X with busy:=false } { Z with busy:=false } V/\FrO N0 w (w.setCell ⟨y.tb,n * 6+1,none⟩ (.bool false)):=by
 have hn:n<m.t.length:=by have h1:=h.h.thl;have h2:=h.n;unfold mkM mkY at h1;simp at h1;omega
 have hth:qe1 X Z:=(h.h.thr n X Z (by unfold mkM;exact List.getElem?_set_self hn) (by unfold mkY;exact List.getElem?_set_self h.n)).choose_spec.1.1;obtain ⟨h1,h2⟩:=ji.setT2 (m:={ m with a:=s,e:=m.e.set k V.e }) (y:={ y with es:=y.es.set k V }) (t:=n) (x0:=X) (z0:=Z) h.h hn (j:=1) (u:=.bool false) (x':={ X with next:=X.next,busy:=false,scans:=X.scans }) (z':={ Z with next:=X.next,busy:=false,scans:=X.scans }) Mg (by simp [fTv,hth.1,hth.2.2]) (fun w' F=>by obtain ⟨B,k1,k2⟩:=ji.thK2 (m:={ m with a:=s,e:=m.e.set k V.e }) (y:={ y with es:=y.es.set k V }) h.h hn w' F;exact ⟨B,k1.num _ _ _,k2⟩);refine ⟨⟨?_,h.n,h.k,h.ev⟩,h2⟩;have ez:({ Z with next:=X.next,busy:=false,scans:=X.scans }:Tv) = { Z with busy:=false }:=by rw [<- hth.1,<- hth.2.2]
 rw [ez] at h1;exact h1
theorem MK.og (h:MK N0 own w b m y n k g c s X Z V):own g=5:=h.h.evo g (by unfold mkY;simp only;rw [h.ev];simp [Value.ownBlock])
theorem MK.mc (h:MK N0 own w b m y n k g c s X Z V):w.cell? ⟨b,7,none⟩=some (.pointer (some ⟨y.p,0,none⟩))/\w.cell? ⟨b,8,none⟩=some (.slice (some ⟨y.tb,0,none⟩) y.ts.length y.ts.length)/\w.cell? ⟨b,9,none⟩=some (.int .i64 m.now)/\w.cell? ⟨b,12,none⟩=some (.slice (some ⟨g,0,none⟩) y.es.length c):=by obtain ⟨-,-,-,-,-,-,-,c7,c8,c9,-,-,c12⟩:=zz h.h.ob;unfold mkM mkY Mx.Lay.tv at *;simp only [List.length_set] at c7 c8 c9 c12;rw [h.ev] at c12;exact ⟨c7,c8,c9,c12⟩
theorem MK.tc (h:MK N0 own w b m y n k g c s X Z V):w.cell? ⟨y.tb,n * 6+1,none⟩=some (.bool Z.busy)/\w.cell? ⟨y.tb,n * 6+3,none⟩=some (vh Z.pp)/\w.cell? ⟨y.tb,n * 6+4,none⟩=some (vh Z.gp)/\w.cell? ⟨y.tb,n * 6+5,none⟩=some (vh Z.sp)/\∀ i,w.frozen? ⟨y.tb,i,none⟩=false:=by
 have hz:(mkY y n k Z V).ts[n]? = some Z:=by unfold mkY;exact List.getElem?_set_self h.n
 exact ⟨xw h.h.th hz (j:=1) Mg rfl,xw h.h.th hz (j:=3) Mg rfl,xw h.h.th hz (j:=4) Mg rfl,xw h.h.th hz (j:=5) Mg rfl,h.h.th.frozen⟩
theorem MK.ec (h:MK N0 own w b m y n k g c s X Z V):(∀ j u,(fEv V)[j]? = some u->w.cell? ⟨g,k * 18+j,none⟩=some u)/\∀ i,w.frozen? ⟨g,i,none⟩=false:=by
 have hv:(mkY y n k Z V).es[k]? = some V:=by unfold mkY;exact List.getElem?_set_self h.k
 obtain ⟨g',c',e,-,h3,h4⟩:=h.h.ev_open hv;have e2:(mkY y n k Z V).ev = .slice (some ⟨g,0,none⟩) y.es.length c:=h.ev;rw [e2] at e;simp only [Value.slice.injEq,Option.some.injEq,Addr.mk.injEq] at e;obtain ⟨⟨rfl,-⟩,-⟩:=e;exact ⟨h3,h4⟩
theorem MK.ne (h:MK N0 own w b m y n k g c s X Z V):¬ b=g/\¬ b=y.tb/\¬ y.tb=g:=by have h1:=h.h.cb;have h2:own y.tb=4:=h.h.ct;have h3:=h.og;exact ⟨fun e=>by rw [e] at h1;omega,fun e=>by rw [e] at h1;omega,fun e=>by rw [e] at h2;omega⟩
end
structure Mem where
 F:Int->Int->Int
 hn:Int
 ht:Int->Int
 top:Int
def upd (F:Int->Int->Int) (b g v:Int):Int->Int->Int:=fun a f=>if a=b/\f=g then v else F a f
theorem upd_same (F:Int->Int->Int) (b g v:Int):upd F b g v b g=v:=qg ⟨rfl,rfl⟩
theorem xg {F:Int->Int->Int} {b g v a f:Int} (h:f≠g):upd F b g v a f=F a f:=qf (fun e=>h e.2)
theorem J7 {F:Int->Int->Int} {b g v a f:Int} (h:a≠b):upd F b g v a f=F a f:=qf (fun e=>h e.1)
def Mem.set (M:Mem) (b g v:Int):Mem:={ M with F:=upd M.F b g v }
def Al (c:Cf) (a:Int):Prop:=∃ k:Nat,a=jk c+(k:Int) * z8 c
theorem q98 {c:Cf} (hc:c.Ok) {a b:Int} (ha:Al c a) (hb:Al c b) (h:a≠b):a+z8 c<=b\/b+z8 c<=a:=by
 obtain ⟨i,rfl⟩:=ha;obtain ⟨j,rfl⟩:=hb;have hs:0<z8 c:=by have:=hc.c2;have:=hc.t1;unfold z8;omega
 generalize z8 c=S at *;rcases Nat.lt_trichotomy i j with hij | hij | hij
 ·left;have:((i:Int)+1) * S<=(j:Int) * S:=Int.mul_le_mul_of_nonneg_right Ly Ly;rw [Int.add_mul,Int.one_mul] at this;omega
 ·exact absurd (by rw [hij]) h
 ·right;have:((j:Int)+1) * S<=(i:Int) * S:=Int.mul_le_mul_of_nonneg_right Ly Ly;rw [Int.add_mul,Int.one_mul] at this;omega
theorem qcm {c:Cf} (hc:c.Ok) {a b f g:Int} (ha:Al c a) (hb:Al c b) (hf:0<=f/\f<z8 c) (hg:0<=g/\g<z8 c) (h:a+f=b+g):a=b/\f=g:=by
 by_cases e:a=b
 ·exact ⟨e,by omega⟩
 ·rcases q98 hc ha hb e with h1 | h1 <;> omega
theorem Z3 {c:Cf} (hc:c.Ok) {a:Int} (h:Al c a):jk c<=a/\15<=a:=by obtain ⟨k,rfl⟩:=h;have hs:0<=(k:Int) * z8 c:=Int.mul_nonneg Ly O7;have:=hc.t1;unfold jk at *;omega
structure KI (c:Cf) (K:Int->Prop) (up:Int->Int) (M:Mem):Prop where
 al:∀ a,K a->Al c a/\a+z8 c<=c.wd/\a+z8 c<=M.top
 top:Al c M.top
 hd:∃ a,K a/\M.hn=2 * a/\M.F a 0=0
 mn:∀ a,K a->0<=M.F a 0/\M.F a 0<up a/\up a<=64
 nx:∀ a,K a->(M.F a 2 / 2=0/\up a=64)\/(K (M.F a 2 / 2)/\M.F (M.F a 2 / 2) 0=up a)
 ld:∀ a,K a->M.F a 3=0\/(K (M.F a 3)/\(M.F a 3=a\/(M.F (M.F a 3) 4=a/\M.F (M.F a 3) 2 % 2=1)))
 mt:∀ a,K a->M.F a 4=0\/M.F a 4=1\/(K (M.F a 4)/\M.F a 2 / 2=M.F a 4/\M.F a 2 % 2=1)
 rp:∀ a,K a->M.F a 5=0\/(K (M.F a 5)/\M.F (M.F a 5) 0=M.F a 0)
 ht:∀ k,0<=k->k<4->M.ht k=0\/K (M.ht k)
 cl:∀ a i,K a->0<=i->i<c.c->1<=M.F a (7+3 * i)->M.F a (7+3 * i)≠2->M.F a 0<=M.F a (8+3 * i)/\M.F a (8+3 * i)<up a
 cf:∀ a i,K a->0<=i->i<c.c->M.F a 1<=i->M.F a (7+3 * i)=0\/M.F a (7+3 * i)=2
section
variable {c:Cf} {K:Int->Prop} {up:Int->Int} {M:Mem}
theorem KI.pos (hc:c.Ok) (h:KI c K up M) {a:Int} (ha:K a):15<=a:=(Z3 hc (h.al a ha).1).2
theorem KI.setFree (h:KI c K up M) (b g v:Int) (hg:g=1\/g=6) (hv:g=1->M.F b 1<=v):KI c K up (M.set b g v):=by
 have f0:∀ a,upd M.F b g v a 0=M.F a 0:=fun a=>xg Ly
 have f2:∀ a,upd M.F b g v a 2=M.F a 2:=fun a=>xg Ly
 have f3:∀ a,upd M.F b g v a 3=M.F a 3:=fun a=>xg Ly
 have f4:∀ a,upd M.F b g v a 4=M.F a 4:=fun a=>xg Ly
 have f5:∀ a,upd M.F b g v a 5=M.F a 5:=fun a=>xg Ly
 unfold Mem.set;refine ⟨h.al,h.top,?_,?_,?_,?_,?_,?_,h.ht,?_,?_⟩ <;> simp only [f0,f2,f3,f4,f5]
 ·exact h.hd
 ·exact h.mn
 ·exact h.nx
 ·exact h.ld
 ·exact h.mt
 ·exact h.rp
 ·intro a i ha h0 h1;rw [xg (show 7+3 * i≠g by omega),xg (show 8+3 * i≠g by omega)];exact h.cl a i ha h0 h1
 ·intro a i ha h0 h1 h2;rw [xg (show 7+3 * i≠g by omega)];refine h.cf a i ha h0 h1 (Int.le_trans ?_ h2);by_cases e:a=b/\(1:Int)=g
  ·unfold upd;rw [qg e,e.1];exact hv e.2.symm
  ·unfold upd;rw [qf e];exact Int.le_refl _
theorem KI.setLead (h:KI c K up M) {b v:Int} (hv:K v) (hb:v=b\/(M.F v 4=b/\M.F v 2 % 2=1)):KI c K up (M.set b 3 v):=by
 have f0:∀ a,upd M.F b 3 v a 0=M.F a 0:=fun a=>xg Ly
 have f2:∀ a,upd M.F b 3 v a 2=M.F a 2:=fun a=>xg Ly
 have f4:∀ a,upd M.F b 3 v a 4=M.F a 4:=fun a=>xg Ly
 have f5:∀ a,upd M.F b 3 v a 5=M.F a 5:=fun a=>xg Ly
 unfold Mem.set;refine ⟨h.al,h.top,?_,?_,?_,?_,?_,?_,h.ht,?_,?_⟩ <;> simp only [f0,f2,f4,f5]
 ·exact h.hd
 ·exact h.mn
 ·exact h.nx
 ·intro a ha;by_cases e:a=b
  ·subst e;rw [upd_same];exact .inr ⟨hv,hb⟩
  ·rw [J7 e];exact h.ld a ha
 ·exact h.mt
 ·exact h.rp
 ·intro a i ha h0 h1;rw [xg (show 7+3 * i≠3 by omega),xg (show 8+3 * i≠3 by omega)];exact h.cl a i ha h0 h1
 ·intro a i ha h0 h1;rw [xg (show 7+3 * i≠3 by omega),xg (show (1:Int)≠3 by omega)];exact h.cf a i ha h0 h1
theorem KI.setMate (hc:c.Ok) (h:KI c K up M) {b v:Int} (h0:M.F b 4=0) (hv:v=1\/(K v/\M.F b 2 / 2=v/\M.F b 2 % 2=1)):KI c K up (M.set b 4 v):=by
 have f0:∀ a,upd M.F b 4 v a 0=M.F a 0:=fun a=>xg Ly
 have f2:∀ a,upd M.F b 4 v a 2=M.F a 2:=fun a=>xg Ly
 have f3:∀ a,upd M.F b 4 v a 3=M.F a 3:=fun a=>xg Ly
 have f5:∀ a,upd M.F b 4 v a 5=M.F a 5:=fun a=>xg Ly
 unfold Mem.set;refine ⟨h.al,h.top,?_,?_,?_,?_,?_,?_,h.ht,?_,?_⟩ <;> simp only [f0,f2,f3,f5]
 ·exact h.hd
 ·exact h.mn
 ·exact h.nx
 ·intro a ha;rcases h.ld a ha with e | ⟨k,e | ⟨e1,e2⟩⟩
  ·exact .inl e
  ·exact .inr ⟨k,.inl e⟩
  ·refine .inr ⟨k,.inr ⟨?_,e2⟩⟩;by_cases e:M.F a 3=b
   ·rw [e] at e1;have:=h.pos hc ha;omega
   ·rw [J7 e];exact e1
 ·intro a ha;by_cases e:a=b
  ·subst e;rw [upd_same];exact hv.imp (fun _=>hv) id |>.elim (fun _=>hv.elim (fun e=>.inr (.inl e)) (fun e=>.inr (.inr e))) (fun e=>.inr (.inr e))
  ·rw [J7 e];exact h.mt a ha
 ·exact h.rp
 ·intro a i ha h0 h1;rw [xg (show 7+3 * i≠4 by omega),xg (show 8+3 * i≠4 by omega)];exact h.cl a i ha h0 h1
 ·intro a i ha h0 h1;rw [xg (show 7+3 * i≠4 by omega),xg (show (1:Int)≠4 by omega)];exact h.cf a i ha h0 h1
theorem KI.setNext (h:KI c K up M) {b v:Int} (h0:M.F b 2 % 2=0) (hv:(v / 2=0/\up b=64)\/(K (v / 2)/\M.F (v / 2) 0=up b)):KI c K up (M.set b 2 v):=by
 have f0:∀ a,upd M.F b 2 v a 0=M.F a 0:=fun a=>xg Ly
 have f3:∀ a,upd M.F b 2 v a 3=M.F a 3:=fun a=>xg Ly
 have f4:∀ a,upd M.F b 2 v a 4=M.F a 4:=fun a=>xg Ly
 have f5:∀ a,upd M.F b 2 v a 5=M.F a 5:=fun a=>xg Ly
 unfold Mem.set;refine ⟨h.al,h.top,?_,?_,?_,?_,?_,?_,h.ht,?_,?_⟩ <;> simp only [f0,f3,f4,f5]
 ·exact h.hd
 ·exact h.mn
 ·intro a ha;by_cases e:a=b
  ·subst e;rw [upd_same];exact hv
  ·rw [J7 e];exact h.nx a ha
 ·intro a ha;rcases h.ld a ha with e | ⟨k,e | ⟨e1,e2⟩⟩
  ·exact .inl e
  ·exact .inr ⟨k,.inl e⟩
  ·refine .inr ⟨k,.inr ⟨e1,?_⟩⟩;by_cases e:M.F a 3=b
   ·rw [e] at e2;omega
   ·rw [J7 e];exact e2
 ·intro a ha;by_cases e:a=b
  ·subst e;rcases h.mt a ha with k | k | ⟨k1,k2,k3⟩
   ·exact .inl k
   ·exact .inr (.inl k)
   ·omega
  ·rw [J7 e];exact h.mt a ha
 ·exact h.rp
 ·intro a i ha h0 h1;rw [xg (show 7+3 * i≠2 by omega),xg (show 8+3 * i≠2 by omega)];exact h.cl a i ha h0 h1
 ·intro a i ha h0 h1;rw [xg (show 7+3 * i≠2 by omega),xg (show (1:Int)≠2 by omega)];exact h.cf a i ha h0 h1
theorem KI.setRepl (h:KI c K up M) {b v:Int} (hv:K v/\M.F v 0=M.F b 0):KI c K up (M.set b 5 v):=by
 have f0:∀ a,upd M.F b 5 v a 0=M.F a 0:=fun a=>xg Ly
 have f2:∀ a,upd M.F b 5 v a 2=M.F a 2:=fun a=>xg Ly
 have f3:∀ a,upd M.F b 5 v a 3=M.F a 3:=fun a=>xg Ly
 have f4:∀ a,upd M.F b 5 v a 4=M.F a 4:=fun a=>xg Ly
 unfold Mem.set;refine ⟨h.al,h.top,?_,?_,?_,?_,?_,?_,h.ht,?_,?_⟩ <;> simp only [f0,f2,f3,f4]
 ·exact h.hd
 ·exact h.mn
 ·exact h.nx
 ·exact h.ld
 ·exact h.mt
 ·intro a ha;by_cases e:a=b
  ·subst e;rw [upd_same];exact .inr hv
  ·rw [J7 e];exact h.rp a ha
 ·intro a i ha h0 h1;rw [xg (show 7+3 * i≠5 by omega),xg (show 8+3 * i≠5 by omega)];exact h.cl a i ha h0 h1
 ·intro a i ha h0 h1;rw [xg (show 7+3 * i≠5 by omega),xg (show (1:Int)≠5 by omega)];exact h.cf a i ha h0 h1
theorem KI.setCell (h:KI c K up M) {b j v:Int} (hj:0<=j) {o:Int} (ho:o=7\/o=8\/o=9)
  (hv:K b->j<c.c->(o=7->v<1\/v=2\/(M.F b 0<=M.F b (8+3 * j)/\M.F b (8+3 * j)<up b))/\(o=8->M.F b (7+3 * j)<1\/M.F b (7+3 * j)=2)/\(o=7->v=2\/j<M.F b 1)):KI c K up (M.set b (o+3 * j) v):=by
 have f0:∀ a,upd M.F b (o+3 * j) v a 0=M.F a 0:=fun a=>xg Ly
 have f2:∀ a,upd M.F b (o+3 * j) v a 2=M.F a 2:=fun a=>xg Ly
 have f3:∀ a,upd M.F b (o+3 * j) v a 3=M.F a 3:=fun a=>xg Ly
 have f4:∀ a,upd M.F b (o+3 * j) v a 4=M.F a 4:=fun a=>xg Ly
 have f5:∀ a,upd M.F b (o+3 * j) v a 5=M.F a 5:=fun a=>xg Ly
 unfold Mem.set;refine ⟨h.al,h.top,?_,?_,?_,?_,?_,?_,h.ht,?_,?_⟩ <;> simp only [f0,f2,f3,f4,f5]
 ·exact h.hd
 ·exact h.mn
 ·exact h.nx
 ·exact h.ld
 ·exact h.mt
 ·exact h.rp
 ·intro a i ha h0 h1;by_cases e:a=b/\i=j
  ·obtain ⟨rfl,rfl⟩:=e;obtain ⟨v1,v2,-⟩:=hv ha h1;rcases ho with rfl | rfl | rfl
   ·rw [upd_same,xg (show 8+3 * i≠7+3 * i by omega)];intro h2 h3;rcases v1 rfl with k | k | k
    ·omega
    ·exact absurd k h3
    ·exact k
   ·rw [upd_same,xg (show 7+3 * i≠8+3 * i by omega)];intro h2 h3;rcases v2 rfl with k | k
    ·omega
    ·exact absurd k h3
   ·rw [xg (show 7+3 * i≠9+3 * i by omega),xg (show 8+3 * i≠9+3 * i by omega)];exact h.cl a i ha h0 h1
  ·have n7:¬ (a=b/\7+3 * i=o+3 * j):=fun k=>e ⟨k.1,by omega⟩
   have n8:¬ (a=b/\8+3 * i=o+3 * j):=fun k=>by
    rcases ho with rfl | rfl | rfl
    ·omega
    ·exact e ⟨k.1,by omega⟩
    ·omega
   unfold upd;rw [qf n7,qf n8];exact h.cl a i ha h0 h1
 ·intro a i ha h0 h1;rw [xg (show (1:Int)≠o+3 * j by omega)];intro h2;by_cases e:a=b/\7+3 * i=o+3 * j
  ·obtain ⟨rfl,e2⟩:=e;obtain rfl:o=7:=by omega
   obtain rfl:i=j:=by omega
   rw [upd_same];rcases (hv ha h1).2.2 rfl with k | k
   ·exact .inr k
   ·omega
  ·unfold upd;rw [qf e];exact h.cf a i ha h0 h1 h2
theorem KI.setHint (h:KI c K up M) {b v:Int} (hv:K v):KI c K up { M with ht:=fun k=>if k=b then v else M.ht k } :=
 ⟨h.al,h.top,h.hd,h.mn,h.nx,h.ld,h.mt,h.rp,fun k h0 h1=>by simp only;split;exact .inr hv;exact h.ht k h0 h1,h.cl,h.cf⟩
theorem KI.setHead (h:KI c K up M) {v:Int} (hv:K v/\M.F v 0=0):KI c K up { M with hn:=2 * v }:=⟨h.al,h.top,⟨v,hv.1,rfl,hv.2⟩,h.mn,h.nx,h.ld,h.mt,h.rp,h.ht,h.cl,h.cf⟩
theorem KI.setTop (hc:c.Ok) (h:KI c K up M) (n:Nat):KI c K up { M with top:=M.top+(n:Int) * z8 c }:=by have hs:0<=(n:Int) * z8 c:=Int.mul_nonneg Ly O7;refine ⟨fun a ha=>⟨(h.al a ha).1,(h.al a ha).2.1,by have:=(h.al a ha).2.2;simp only;omega⟩,?_,h.hd,h.mn,h.nx,h.ld,h.mt,h.rp,h.ht,h.cl,h.cf⟩;obtain ⟨k,hk⟩:=h.top;exact ⟨k+n,by simp only;rw [hk];push_cast;rw [Int.add_mul];omega⟩
structure qcp (c:Cf) (K:Int->Prop) (up:Int->Int) (M:Mem) (a:Int):Prop where
 al:Al c a/\a+z8 c<=c.wd/\a+z8 c<=M.top
 mn:0<=M.F a 0/\M.F a 0<up a/\up a<=64
 nx:(M.F a 2 / 2=0/\up a=64)\/(K (M.F a 2 / 2)/\M.F (M.F a 2 / 2) 0=up a)
 ld:M.F a 3=0
 mt:M.F a 4=0
 rp:M.F a 5=0
 cl:∀ i,0<=i->i<c.c->1<=M.F a (7+3 * i)->M.F a (7+3 * i)≠2->M.F a 0<=M.F a (8+3 * i)/\M.F a (8+3 * i)<up a
 cf:∀ i,0<=i->i<c.c->M.F a 1<=i->M.F a (7+3 * i)=0\/M.F a (7+3 * i)=2
 c16:0<=M.F a 1/\M.F a 1<=16
theorem KI.grow {K':Int->Prop} {up':Int->Int} {M':Mem} (h:KI c K up M) (hK:∀ a,K a->K' a) (hu:∀ a,K a->up' a=up a) (hF:∀ a,K a->∀ f,M'.F a f=M.F a f) (e1:M'.hn=M.hn) (e2:∀ k,M'.ht k=M.ht k) (e3:M'.top=M.top) (hn:∀ a,K' a->¬ K a->qcp c K' up' M' a):KI c K' up' M':=by
 refine ⟨fun a ha=>?_,by rw [e3];exact h.top,?_,fun a ha=>?_,fun a ha=>?_,fun a ha=>?_,fun a ha=>?_,fun a ha=>?_,fun k h0 h1=>?_,fun a i ha=>?_,fun a i ha=>?_⟩
 ·by_cases k:K a
  ·rw [e3];exact h.al a k
  ·exact (hn a ha k).al
 ·obtain ⟨a,h1,h2,h3⟩:=h.hd;exact ⟨a,hK a h1,by rw [e1];exact h2,by rw [hF a h1];exact h3⟩
 ·by_cases k:K a
  ·rw [hF a k,hu a k];exact h.mn a k
  ·exact (hn a ha k).mn
 ·by_cases k:K a
  ·rw [hF a k,hu a k];rcases h.nx a k with e | ⟨e,e'⟩
   ·exact .inl e
   ·exact .inr ⟨hK _ e,by rw [hF _ e];exact e'⟩
  ·exact (hn a ha k).nx
 ·by_cases k:K a
  ·rw [hF a k];rcases h.ld a k with e | ⟨e,e'⟩
   ·exact .inl e
   ·exact .inr ⟨hK _ e,by rw [hF _ e,hF _ e];exact e'⟩
  ·exact .inl (hn a ha k).ld
 ·by_cases k:K a
  ·rw [hF a k,hF a k];rcases h.mt a k with e | e | ⟨e,e'⟩
   ·exact .inl e
   ·exact .inr (.inl e)
   ·exact .inr (.inr ⟨hK _ e,e'⟩)
  ·exact .inl (hn a ha k).mt
 ·by_cases k:K a
  ·rw [hF a k,hF a k];rcases h.rp a k with e | ⟨e,e'⟩
   ·exact .inl e
   ·exact .inr ⟨hK _ e,by rw [hF _ e];exact e'⟩
  ·exact .inl (hn a ha k).rp
 ·rw [e2];exact (h.ht k h0 h1).imp id (hK _)
 ·by_cases k:K a
  ·rw [hF a k,hF a k,hF a k,hu a k];exact h.cl a i k
  ·exact (hn a ha k).cl i
 ·by_cases k:K a
  ·rw [hF a k,hF a k];exact h.cf a i k
  ·exact (hn a ha k).cf i
end
theorem Uy (l:List Int) (q:Int):qx l q=if 0<=q/\q<(l.length:Int) then l.getD q.toNat 0 else 0:=by unfold qx q05 nth;simp only [Bool.and_eq_true,decide_eq_true_eq]
theorem xn (l:List Int) (p v q:Int):qx (vg l p v) q=if q=p/\0<=p/\p<(l.length:Int) then v else qx l q:=by
 by_cases hp:0<=p/\p<(l.length:Int)
 ·obtain ⟨k,rfl⟩:=Int.eq_ofNat_of_zero_le hp.1;have hk:k<l.length:=by omega
  have e:vg l (k:Int) v=l.set k v:=by unfold vg q05;simp [hk]
  rw [e,Uy,Uy l,List.length_set];by_cases hq:0<=q/\q<(l.length:Int)
  ·rw [qg hq,qg hq];by_cases h:q=(k:Int)
   ·subst h;rw [qg ⟨rfl,hp⟩,Int.toNat_natCast,List.getD_eq_getElem?_getD,List.getElem?_set_self hk];rfl
   ·rw [qf (fun e=>h e.1),List.getD_eq_getElem?_getD,List.getElem?_set_ne Ly,List.getD_eq_getElem?_getD]
  ·rw [qf hq,qf hq,qf (fun e=>hq (by rw [e.1];exact e.2))]
 ·have e:vg l p v=l:=by unfold vg q05;rw [qf (by simpa using hp)]
  rw [e,qf (fun h=>hp h.2)]
theorem q9l {l:List Int} {q:Int} (h:q<0\/(l.length:Int)<=q):qx l q=0:=by rw [Uy,qf Ly]
theorem kw (l:List Int) (p v:Int):(vg l p v).length=l.length:=by unfold vg;split <;> simp
structure Rel (c:Cf) (l:List Int) (K:Int->Prop) (M:Mem):Prop where
 len:(l.length:Int)=c.wd
 F:∀ a,K a->∀ f,0<=f->f<z8 c->qx l (a+f)=M.F a f
 hn:qx l (zq c+2)=M.hn
 ht:∀ k,0<=k->k<4->qx l (3+c.t+k)=M.ht k
 top:qx l 2=M.top
 fz:∀ p,M.top<=p->qx l p=0
structure Gst where
 K:Int->Prop
 up:Int->Int
 M:Mem
 L:List Int
def Sg (F:Int->Int->Int):Int->List Int->Int->Prop
 | a,[],b=>a=b
 | a,x :: r,b=>a=x/\Sg F (F x 2 / 2) r b
def Bn (g:Gst) (x:Int):Prop:=x∈g.L\/(g.K x/\g.M.F x 2 % 2=1/\1<=g.M.F x 6)
def Dec (g:Gst) (a m:Int):Prop:=(m=0/\(g.M.F a 4=1\/(g.K (g.M.F a 4)/\g.M.F (g.M.F a 4) 3≠0/\g.M.F (g.M.F a 4) 3≠a)))\/(g.K m/\g.M.F a 4=m/\g.M.F m 3=a)
structure Led (c:Cf) (g:Gst) (a m r:Int):Prop where
 K:g.K a
 mk':g.M.F a 2 % 2=1
 B:Bn g a
 self:g.M.F a 3=a
 dec:Dec g a m
 m:(m=0/\r=g.M.F a 2 / 2)\/(g.K m/\m=g.M.F a 2 / 2/\g.M.F m 2 % 2=1/\r=g.M.F m 2 / 2)
structure Rp (c:Cf) (g:Gst) (a:Int):Prop where
 st:1<=g.M.F a 6
 rb:a∉g.L->Bn g (g.M.F a 5)
 led:∃ m r,Led c g a m r/\(m≠0->1<=g.M.F m 6)/\(a∈g.L->∃ qs,qs≠[]/\Sg g.M.F (g.M.F a 5) qs r/\∀ q∈qs,g.K q/\¬ Bn g q)
structure Bg (c:Cf) (g:Gst):Prop where
 cl:Sg g.M.F (g.M.hn / 2) g.L 0
 K:∀ x∈g.L,g.K x
 nx:∀ x,Bn g x->g.M.F x 2 / 2=0\/Bn g (g.M.F x 2 / 2)
 ht:∀ k,0<=k->k<4->g.M.ht k=0\/Bn g (g.M.ht k)
 ld:∀ x,g.K x->g.M.F x 3≠0->Bn g (g.M.F x 3)/\g.M.F (g.M.F x 3) 3=g.M.F x 3
 rp:∀ x,g.K x->g.M.F x 5≠0->Rp c g x
 gn:∀ x,Bn g x->x∉g.L->g.M.F x 3≠0/\(g.M.F x 3=x->g.M.F x 5≠0)
structure OkG (c:Cf) (g:Gst) (l:List Int):Prop where
 ki:KI c g.K g.up g.M
 rel:Rel c l g.K g.M
 bg:Bg c g
structure Ext (c:Cf) (g g':Gst):Prop where
 K:∀ a,g.K a->g'.K a
 up:∀ a,g.K a->g'.up a=g.up a
 mn:∀ a,g.K a->g'.M.F a 0=g.M.F a 0
 nm:∀ a,g.K a->g.M.F a 2 % 2=1->g'.M.F a 2=g.M.F a 2
 ld:∀ a,g.K a->g.M.F a 3≠0->g'.M.F a 3=g.M.F a 3
 mt:∀ a,g.K a->g.M.F a 4≠0->g'.M.F a 4=g.M.F a 4
 rp:∀ a,g.K a->g.M.F a 5≠0->g'.M.F a 5=g.M.F a 5
 gv:∀ a i,g.K a->0<=i->i<c.c->3<=g.M.F a (7+3 * i)->g'.M.F a (7+3 * i)=g.M.F a (7+3 * i)/\g'.M.F a (8+3 * i)=g.M.F a (8+3 * i)/\g'.M.F a (9+3 * i)=g.M.F a (9+3 * i)
 ct:∀ a,g.K a->g.M.F a 1<=g'.M.F a 1
 top:g.M.top<=g'.M.top
 bn:∀ a,Bn g a->Bn g' a
 gone:∀ a,Bn g a->a∉g.L->a∉g'.L
 st:∀ a,g.K a->1<=g.M.F a 6->1<=g'.M.F a 6
theorem Ext.refl (c:Cf) (g:Gst):Ext c g g:=⟨fun _ h=>h,fun _ _=>rfl,fun _ _=>rfl,fun _ _ _=>rfl,fun _ _ _=>rfl,fun _ _ _=>rfl,fun _ _ _=>rfl,fun _ _ _ _ _ _=>⟨rfl,rfl,rfl⟩,fun _ _=>Int.le_refl _,Int.le_refl _,fun _ h=>h,fun _ _ h=>h,fun _ _ h=>h⟩
theorem Ext.trans {c:Cf} {g g' g2:Gst} (h:Ext c g g') (k:Ext c g' g2):Ext c g g2 :=
 ⟨fun a e=>k.K a (h.K a e),fun a e=>(k.up a (h.K a e)).trans (h.up a e),fun a e=>(k.mn a (h.K a e)).trans (h.mn a e),
  fun a e e2=>(k.nm a (h.K a e) (by rw [h.nm a e e2];exact e2)).trans (h.nm a e e2),
  fun a e e2=>(k.ld a (h.K a e) (by rw [h.ld a e e2];exact e2)).trans (h.ld a e e2),
  fun a e e2=>(k.mt a (h.K a e) (by rw [h.mt a e e2];exact e2)).trans (h.mt a e e2),
  fun a e e2=>(k.rp a (h.K a e) (by rw [h.rp a e e2];exact e2)).trans (h.rp a e e2),
  fun a i e e0 e1 e2=>by
   obtain ⟨h1,h2,h3⟩:=h.gv a i e e0 e1 e2;obtain ⟨k1,k2,k3⟩:=k.gv a i (h.K a e) e0 e1 (by rw [h1];exact e2);exact ⟨k1.trans h1,k2.trans h2,k3.trans h3⟩,
  fun a e=>Int.le_trans (h.ct a e) (k.ct a (h.K a e)),Int.le_trans h.top k.top,fun a e=>k.bn a (h.bn a e),fun a e e2=>k.gone a (h.bn a e) (h.gone a e e2),fun a e e2=>k.st a (h.K a e) (h.st a e e2)⟩
theorem Sg.congr {F F':Int->Int->Int} {b:Int}:∀ {L:List Int} {a:Int},(∀ x∈L,F' x 2 / 2=F x 2 / 2)->Sg F a L b->Sg F' a L b
 | [],_,_,h=>h
 | x :: r,a,e,h=>⟨h.1,by rw [e x Ma];exact Sg.congr (fun y hy=>e y A01) h.2⟩
theorem Sg.app {F:Int->Int->Int} {b:Int}:∀ {L L2:List Int} {a:Int},Sg F a (L++L2) b↔∃ m,Sg F a L m/\Sg F m L2 b
 | [],L2,a=>⟨fun h=>⟨a,rfl,h⟩,fun ⟨m,e,h⟩=>by cases e;exact h⟩
 | x :: r,L2,a=>by
  constructor
  ·rintro ⟨h1,h2⟩;obtain ⟨m,k1,k2⟩:=Sg.app.1 h2;exact ⟨m,⟨h1,k1⟩,k2⟩
  ·rintro ⟨m,⟨h1,k1⟩,k2⟩;exact ⟨h1,Sg.app.2 ⟨m,k1,k2⟩⟩
structure q24 (g g':Gst):Prop where
 L:g'.L=g.L
 K:g'.K=g.K
 hn:g'.M.hn=g.M.hn
 nx:∀ a,g.K a->g'.M.F a 2 / 2=g.M.F a 2 / 2
 f26:∀ a,g.K a->(g'.M.F a 2=g.M.F a 2/\g'.M.F a 6=g.M.F a 6)\/(Bn g a/\(g.M.F a 2 % 2=1->g'.M.F a 2=g.M.F a 2)/\(1<=g.M.F a 6->1<=g'.M.F a 6))
 f3:∀ a,g.K a->g.M.F a 3≠0->g'.M.F a 3=g.M.F a 3
 f3n:∀ a,g.K a->g.M.F a 3=0->g'.M.F a 3≠0->Bn g (g'.M.F a 3)/\g'.M.F (g'.M.F a 3) 3=g'.M.F a 3
 f4:∀ a,g.K a->g.M.F a 4≠0->g'.M.F a 4=g.M.F a 4
 f5:∀ a,g.K a->g'.M.F a 5=g.M.F a 5
 ht:∀ k,g'.M.ht k=g.M.ht k\/Bn g (g'.M.ht k)
theorem q24.bn {c:Cf} {g g':Gst} (e:q24 g g') (x:Int):Bn g' x↔Bn g x:=by
 unfold Bn;rw [e.L,e.K];constructor
 ·rintro (h | ⟨h1,h2,h3⟩)
  ·exact .inl h
  ·rcases e.f26 x h1 with ⟨k1,k2⟩ | ⟨k,-⟩
   ·rw [k1] at h2;rw [k2] at h3;exact .inr ⟨h1,h2,h3⟩
   ·exact k
 ·rintro (h | ⟨h1,h2,h3⟩)
  ·exact .inl h
  ·rcases e.f26 x h1 with ⟨k1,k2⟩ | ⟨-,k1,k2⟩
   ·rw [k1,k2];exact .inr ⟨h1,h2,h3⟩
   ·rw [k1 h2];exact .inr ⟨h1,h2,k2 h3⟩
theorem q24.mrk {g g':Gst} (e:q24 g g') {a:Int} (ha:g.K a) (h:g.M.F a 2 % 2=1):g'.M.F a 2=g.M.F a 2:=by
 rcases e.f26 a ha with ⟨k,-⟩ | ⟨-,k,-⟩
 ·exact k
 ·exact k h
theorem q24.st {g g':Gst} (e:q24 g g') {a:Int} (ha:g.K a) (h:1<=g.M.F a 6):1<=g'.M.F a 6:=by
 rcases e.f26 a ha with ⟨-,k⟩ | ⟨-,-,k⟩
 ·rw [k];exact h
 ·exact k h
theorem Dec.keep {g g':Gst} {a m:Int} (ha:g.K a) (h15:∀ x,g.K x->15<=x) (hK:∀ x,g.K x->g'.K x) (f3:∀ a,g.K a->g.M.F a 3≠0->g'.M.F a 3=g.M.F a 3) (f4:∀ a,g.K a->g.M.F a 4≠0->g'.M.F a 4=g.M.F a 4) (h:Dec g a m):Dec g' a m:=by
 unfold Dec at *;rcases h with ⟨e,h | ⟨h1,h2,h3⟩⟩ | ⟨h1,h2,h3⟩
 ·rw [f4 a ha Ly];exact .inl ⟨e,.inl h⟩
 ·have:=h15 _ h1;rw [f4 a ha Ly,f3 _ h1 h2];exact .inl ⟨e,.inr ⟨hK _ h1,h2,h3⟩⟩
 ·have:=h15 _ h1;have:=h15 _ ha;rw [f4 a ha Ly,f3 _ h1 Ly];exact .inr ⟨hK _ h1,h2,h3⟩
theorem Led.keep {c:Cf} {g g':Gst} {a m r:Int} (h15:∀ x,g.K x->15<=x) (hK:∀ x,g.K x->g'.K x) (hB:∀ x,Bn g x->Bn g' x) (f2:∀ a,g.K a->g.M.F a 2 % 2=1->g'.M.F a 2=g.M.F a 2) (f3:∀ a,g.K a->g.M.F a 3≠0->g'.M.F a 3=g.M.F a 3) (f4:∀ a,g.K a->g.M.F a 4≠0->g'.M.F a 4=g.M.F a 4) (h:Led c g a m r):Led c g' a m r:=by
 have e2:=f2 _ h.K h.mk';have:=h15 _ h.K;refine ⟨hK _ h.K,by rw [e2];exact h.mk',hB _ h.B,by rw [f3 _ h.K (by rw [h.self];omega)];exact h.self,h.dec.keep h.K h15 hK f3 f4,?_⟩;rw [e2];rcases h.m with k | ⟨k1,k2,k3,k4⟩
 ·exact .inl k
 ·exact .inr ⟨hK _ k1,k2,by rw [f2 _ k1 k3];exact k3,by rw [f2 _ k1 k3];exact k4⟩
theorem Led.m0' {c:Cf} {g:Gst} {a m r:Int} (h:Led c g a m r):m=0\/g.K m:=h.m.elim (fun k=>.inl k.1) (fun k=>.inr k.1)
theorem q24.bg {c:Cf} {g g':Gst} (h15:∀ x,g.K x->15<=x) (h:Bg c g) (e:q24 g g'):Bg c g':=by
 have eb:=e.bn (c:=c);refine ⟨?_,fun x hx=>?_,fun x hx=>?_,fun k k0 k1=>?_,fun x hx hn=>?_,fun x hx hn=>?_,fun x hx hn=>?_⟩
 ·rw [e.hn,e.L];exact h.cl.congr (fun x hx=>e.nx x (h.K x hx))
 ·rw [e.K];rw [e.L] at hx;exact h.K x hx
 ·have hx':=(eb x).1 hx;have hk:g.K x:=hx'.elim (h.K x) (fun k=>k.1);rw [e.nx x hk,eb];exact h.nx x hx'
 ·rcases e.ht k with q | q
  ·rw [q,eb];exact h.ht k k0 k1
  ·exact .inr ((eb _).2 q)
 ·rw [e.K] at hx;by_cases k:g.M.F x 3=0
  ·obtain ⟨q1,q2⟩:=e.f3n x hx k hn;exact ⟨(eb _).2 q1,q2⟩
  ·obtain ⟨q1,q2⟩:=h.ld x hx k;have hk:g.K (g.M.F x 3):=q1.elim (h.K _) (fun k=>k.1);have:=h15 _ hk;rw [e.f3 x hx k,eb];exact ⟨q1,by rw [e.f3 _ hk Ly];exact q2⟩
 ·rw [e.K] at hx;rw [e.f5 x hx] at hn;obtain ⟨st,rb,m,r,L,sm,sh⟩:=h.rp x hx hn;refine ⟨e.st hx st,fun k=>by rw [e.L] at k;rw [e.f5 x hx];exact (eb _).2 (rb k),m,r,L.keep h15 (fun x hx=>by rw [e.K];exact hx) (fun x=>(eb x).2) (fun a ha=>e.mrk ha) e.f3 e.f4,fun k=>e.st (L.m0'.resolve_left k) (sm k),fun k=>?_⟩;rw [e.L] at k;obtain ⟨qs,q1,q2,q3⟩:=sh k;exact ⟨qs,q1,by rw [e.f5 x hx];exact q2.congr (fun y hy=>e.nx y (q3 y hy).1),fun y hy=>⟨by rw [e.K];exact (q3 y hy).1,by rw [eb];exact (q3 y hy).2⟩⟩
 ·have hx':=(eb x).1 hx;have hk:g.K x:=hx'.elim (h.K x) (fun k=>k.1);rw [e.L] at hn;obtain ⟨k1,k2⟩:=h.gn x hx' hn;rw [e.f3 x hk k1,e.f5 x hk];exact ⟨k1,k2⟩
structure Kp (c:Cf) (g:Gst) (l:List Int) (g':Gst) (l':List Int) (mc:Int->Int->Prop) (mp:Int->Prop):Prop where
 cell:∀ a i,g.K a->0<=i->i<c.c->¬ mc a i->(g.M.F a (7+3 * i)=0\/g.M.F a (7+3 * i)=2)->(g'.M.F a (7+3 * i)=0\/g'.M.F a (7+3 * i)=2)/\g'.M.F a (8+3 * i)=g.M.F a (8+3 * i)
 priv:∀ p,jk c<=p->p<g.M.top->(∀ a,g.K a->¬ (a<=p/\p<a+z8 c))->¬ mp p->qx l' p=qx l p/\∀ a,g'.K a->¬ (a<=p/\p<a+z8 c)
structure Goes (c:Cf) (g:Gst) (l:List Int) (g':Gst) (l':List Int) (mc:Int->Int->Prop) (mp:Int->Prop):Prop where
 ok:OkG c g' l'
 ext:Ext c g g'
 kp:Kp c g l g' l' mc mp
 cu:∀ a,g'.K a->(g.K a/\g'.M.F a 1<=g.M.F a 1+1)\/(0<=g'.M.F a 1/\g'.M.F a 1<=16)
 tu:g'.M.top<=g.M.top+3000
 go:∀ a,a∈g.L->a∉g'.L->g.M.F a 2 % 2=1
def no2:Int->Int->Prop:=fun _ _=>False
def no1:Int->Prop:=fun _=>False
section
variable {c:Cf} {g:Gst} {l:List Int}
theorem Goes.same (h:OkG c g l) (mc:Int->Int->Prop) (mp:Int->Prop):Goes c g l g l mc mp :=
 ⟨h,Ext.refl c g,⟨fun a i _ _ _ _ e=>⟨e,rfl⟩,fun p _ _ e _=>⟨rfl,e⟩⟩,fun a k=>.inl ⟨k,by omega⟩,by omega,fun a k k2=>absurd k k2⟩
theorem Goes.weak {g':Gst} {l':List Int} {mc mc':Int->Int->Prop} {mp mp':Int->Prop} (h:Goes c g l g' l' mc mp) (h1:∀ a i,mc a i->mc' a i) (h2:∀ p,mp p->mp' p):Goes c g l g' l' mc' mp' :=
 ⟨h.ok,h.ext,⟨fun a i e0 e1 e2 e3=>h.kp.cell a i e0 e1 e2 (fun k=>e3 (h1 a i k)),fun p e0 e1 e2 e3=>h.kp.priv p e0 e1 e2 (fun k=>e3 (h2 p k))⟩,h.cu,h.tu,h.go⟩
def Gst.set (g:Gst) (b f v:Int):Gst:={ g with M:=g.M.set b f v }
theorem Uz {b f v:Int} (hb:g.K b) (h2:f=2->v / 2=g.M.F b 2 / 2/\Bn g b/\g.M.F b 2 % 2=0) (h3:f=3->g.M.F b 3=0/\Bn g v/\(v=b\/g.M.F v 3=v)) (h4:f=4->g.M.F b 4=0) (h5:f≠5) (h6:f=6->Bn g b/\1<=v):q24 g (g.set b f v):=by
 have eq:∀ a f',(a≠b\/f'≠f)->(g.set b f v).M.F a f'=g.M.F a f':=fun a f' k=>k.elim (fun e=>J7 e) (fun e=>xg e)
 have on:(g.set b f v).M.F b f=v:=upd_same _ _ _ _;refine ⟨rfl,rfl,rfl,fun a ha=>?_,fun a ha=>?_,fun a ha k=>?_,fun a ha k k2=>?_,fun a ha k=>?_,fun a ha=>eq a 5 (.inr (fun e=>h5 e.symm)),fun k=>.inl rfl⟩
 ·by_cases e:a=b/\(2:Int)=f
  ·obtain ⟨rfl,rfl⟩:=e;rw [on];exact (h2 rfl).1
  ·rw [eq a 2 Ly]
 ·by_cases e:a=b/\((2:Int)=f\/(6:Int)=f)
  ·obtain ⟨rfl,rfl | rfl⟩:=e
   ·right;refine ⟨(h2 rfl).2.1,fun k=>?_,fun k=>by rw [eq a 6 (.inr Ly)];exact k⟩;have:=(h2 rfl).2.2;omega
   ·right;refine ⟨(h6 rfl).1,fun k=>eq a 2 (.inr Ly),fun k=>by rw [on];exact (h6 rfl).2⟩
  ·left;exact ⟨eq a 2 Ly,eq a 6 Ly⟩
 ·refine eq a 3 ?_;by_cases e:a=b
  ·right;intro e2;subst e;exact k (h3 e2.symm).1
  ·exact .inl e
 ·by_cases e:a=b/\(3:Int)=f
  ·obtain ⟨rfl,rfl⟩:=e;obtain ⟨-,q1,q2⟩:=h3 rfl;rw [on];refine ⟨q1,?_⟩;by_cases e:v=a
   ·rw [e] at on ⊢;exact on
   ·rw [eq v 3 (.inl e)];exact q2.resolve_left e
  ·rw [eq a 3 Ly] at k2;exact absurd k k2
 ·exact Fp
theorem OkG.p15 (hc:c.Ok) (h:OkG c g l):∀ x,g.K x->15<=x:=fun x hx=>h.ki.pos hc hx
theorem Bn.K {x:Int} (h:OkG c g l) (k:Bn g x):g.K x:=k.elim (h.bg.K x) (fun k=>k.1)
theorem Rel.low (hc:c.Ok) (h:OkG c g l) {a:Int} (ha:g.K a):14+c.t<=a/\a+z8 c<=c.wd/\a+z8 c<=g.M.top/\0<z8 c:=by obtain ⟨h1,h2,h3⟩:=h.ki.al a ha;have:=(Z3 hc h1).1;have:=hc.c2;have:=hc.t1;unfold jk at *;exact ⟨by omega,h2,h3,by unfold z8;omega⟩
theorem Rel.setF (hc:c.Ok) (h:OkG c g l) {b f:Int} (hb:g.K b) (hf:0<=f/\f<z8 c) (v:Int):Rel c (vg l (b+f) v) g.K (g.M.set b f v):=by
 obtain ⟨l1,l2,l3,l4⟩:=Rel.low hc h hb;have hl:=h.rel.len;have hin:0<=b+f/\b+f<(l.length:Int):=by have:=hc.t1;omega
 refine ⟨by rw [kw];exact hl,fun a ha f' h0 h1=>?_,?_,fun k h0 h1=>?_,?_,fun p hp=>?_⟩
 ·rw [xn];unfold Mem.set upd;simp only;by_cases e:a=b/\f'=f
  ·rw [qg ⟨by omega,hin⟩,qg e]
  ·rw [qf (fun k=>e (qcm hc (h.ki.al a ha).1 (h.ki.al b hb).1 ⟨h0,h1⟩ hf k.1)),qf e];exact h.rel.F a ha f' h0 h1
 ·rw [xn,qf Mw];exact h.rel.hn
 ·rw [xn,qf Ly];exact h.rel.ht k h0 h1
 ·rw [xn,qf (by have:=hc.t1;omega)];exact h.rel.top
 ·rw [xn,qf (by have:(g.M.set b f v).top=g.M.top:=rfl;omega)];exact h.rel.fz p hp
theorem Vv (hc:c.Ok) (h:OkG c g l) {b f:Int} (hb:g.K b) (hf:0<=f/\f<z8 c) (v:Int):∀ p,jk c<=p->p<g.M.top->(∀ a,g.K a->¬ (a<=p/\p<a+z8 c))->qx (vg l (b+f) v) p=qx l p/\∀ a,(g.set b f v).K a->¬ (a<=p/\p<a+z8 c):=fun p _ _ e =>
 ⟨by rw [xn,qf (fun k=>e b hb Ly)],e⟩
theorem q8x (hc:c.Ok) (h:OkG c g l) {b f:Int} (hb:g.K b) (hf:0<=f/\f<=6) (v:Int) (ki:KI c g.K g.up (g.M.set b f v)) (e:Ext c g (g.set b f v)) (hu:f=1->v<=g.M.F b 1+1) (mi:q24 g (g.set b f v)):Goes c g l (g.set b f v) (vg l (b+f) v) no2 no1:=by
 have hs:f<z8 c:=by have:=hc.c2;have:=hc.t1;unfold z8;omega
 refine ⟨⟨ki,Rel.setF hc h hb ⟨hf.1,hs⟩ v,mi.bg (h.p15 hc) h.bg⟩,e,⟨fun a i ha h0 h1 _ k=>?_,fun p h0 h1 h2 _=>Vv hc h hb ⟨hf.1,hs⟩ v p h0 h1 h2⟩,fun a k=>.inl ⟨k,?_⟩,by show g.M.top<=_;omega,fun a k k2=>absurd k k2⟩;rotate_left
 ·unfold Gst.set Mem.set upd;simp only;split
  ·rename_i e1;rw [e1.1];exact hu e1.2.symm
  ·omega
 have e7:(g.set b f v).M.F a (7+3 * i)=g.M.F a (7+3 * i):=xg Ly;have e8:(g.set b f v).M.F a (8+3 * i)=g.M.F a (8+3 * i):=xg Ly;rw [e7,e8];exact ⟨k,rfl⟩
theorem qc6 {b f v:Int} (hf:0<=f/\f<=6) (h0:f≠0) (h2:f=2->g.M.F b 2 % 2=0) (h3:f=3->g.M.F b 3=0) (h4:f=4->g.M.F b 4=0) (h5:f=5->g.M.F b 5=0) (h1:f=1->g.M.F b 1<=v) (mi:q24 g (g.set b f v)):Ext c g (g.set b f v):=by
 have eq:∀ a f',(a≠b\/f'≠f)->(g.set b f v).M.F a f'=g.M.F a f':=fun a f' k=>k.elim (fun e=>J7 e) (fun e=>xg e)
 refine ⟨fun _ k=>k,fun _ _=>rfl,fun a _=>eq a 0 (.inr Ly),fun a _ k=>?_,fun a _ k=>?_,fun a _ k=>?_,fun a _ k=>?_,fun a i _ i0 i1 k=>⟨eq a _ (.inr Ly),eq a _ (.inr Ly),eq a _ (.inr Ly)⟩,fun a _=>?_,Int.le_refl _,fun a k=>(mi.bn (c:=c) a).2 k,fun a _ k=>k,fun a ha k=>mi.st ha k⟩
 ·refine eq a 2 ?_;by_cases e:a=b
  ·right;intro e2;subst e;have:=h2 e2.symm;omega
  ·exact .inl e
 ·refine eq a 3 ?_;by_cases e:a=b
  ·right;intro e2;subst e;exact k (h3 e2.symm)
  ·exact .inl e
 ·exact Fp
 ·refine eq a 5 ?_;by_cases e:a=b
  ·right;intro e2;subst e;exact k (h5 e2.symm)
  ·exact .inl e
 ·by_cases e:a=b/\(1:Int)=f
  ·obtain ⟨rfl,e2⟩:=e;have:(g.set a f v).M.F a 1=v:=by unfold Gst.set Mem.set;simp only;rw [<- e2];exact upd_same _ _ _ _
   rw [this];exact h1 e2.symm
  ·have:(g.set b f v).M.F a 1=g.M.F a 1:=by unfold Gst.set Mem.set upd;simp only;exact qf e
   rw [this];exact Int.le_refl _
theorem Xk (hc:c.Ok) (h:OkG c g l) {b f:Int} (hb:g.K b) (hf:0<=f/\f<=6) (v:Int) (ki:KI c g.K g.up (g.M.set b f v)) (h0:f≠0) (h5:f≠5) (h1:f=1->g.M.F b 1<=v/\v<=g.M.F b 1+1) (h2:f=2->v / 2=g.M.F b 2 / 2/\Bn g b/\g.M.F b 2 % 2=0) (h3:f=3->g.M.F b 3=0/\Bn g v/\(v=b\/g.M.F v 3=v)) (h4:f=4->g.M.F b 4=0) (h6:f=6->Bn g b/\1<=v) :
  Goes c g l (g.set b f v) (vg l (b+f) v) no2 no1 :=
 q8x hc h hb hf v ki (qc6 hf h0 (fun e=>(h2 e).2.2) (fun e=>(h3 e).1) h4 (fun e=>absurd e h5) (fun e=>(h1 e).1) (Uz hb h2 h3 h4 h5 h6)) (fun e=>(h1 e).2) (Uz hb h2 h3 h4 h5 h6)
theorem q3e (hc:c.Ok) (h:OkG c g l) {b v:Int} (hb:g.K b) (hv:g.M.F b 1<=v) (hu:v<=g.M.F b 1+1):Goes c g l (g.set b 1 v) (vg l (b+1) v) no2 no1 :=
 Xk hc h hb Ly v (h.ki.setFree b 1 v (.inl rfl) (fun _=>hv)) Ly Ly (fun _=>⟨hv,hu⟩) Ly Ly Ly Ly
theorem X7 (hc:c.Ok) (h:OkG c g l) {b:Int} (v:Int) (hb:Bn g b) (hv:1<=v):Goes c g l (g.set b 6 v) (vg l (b+6) v) no2 no1 :=
 Xk hc h (hb.K h) Ly v (h.ki.setFree b 6 v (.inr rfl) Ly) Ly Ly Ly Ly Ly Ly (fun _=>⟨hb,hv⟩)
theorem Sb (hc:c.Ok) (h:OkG c g l) {b v:Int} (hb:g.K b) (h0:g.M.F b 3=0) (hv:Bn g v) (hb2:v=b\/(g.M.F v 4=b/\g.M.F v 2 % 2=1)) (hs:v=b\/g.M.F v 3=v):Goes c g l (g.set b 3 v) (vg l (b+3) v) no2 no1 :=
 Xk hc h hb Ly v (h.ki.setLead (hv.K h) hb2) Ly Ly Ly Ly (fun _=>⟨h0,hv,hs⟩) Ly Ly
theorem q7q (hc:c.Ok) (h:OkG c g l) {b v:Int} (hb:g.K b) (h0:g.M.F b 4=0) (hv:v=1\/(g.K v/\g.M.F b 2 / 2=v/\g.M.F b 2 % 2=1)):Goes c g l (g.set b 4 v) (vg l (b+4) v) no2 no1 :=
 Xk hc h hb Ly v (h.ki.setMate hc h0 hv) Ly Ly Ly Ly Ly (fun _=>h0) Ly
theorem Ra (hc:c.Ok) (h:OkG c g l) {b v:Int} (hb:Bn g b) (h0:g.M.F b 2 % 2=0) (hv:v / 2=g.M.F b 2 / 2):Goes c g l (g.set b 2 v) (vg l (b+2) v) no2 no1 :=
 Xk hc h (hb.K h) Ly v (h.ki.setNext h0 (by rw [hv];exact h.ki.nx b (hb.K h))) Ly Ly Ly (fun _=>⟨hv,hb,h0⟩) Ly Ly Ly
theorem q5v (hc:c.Ok) (h:OkG c g l) {b v:Int} (hb:g.K b) (h0:g.M.F b 5=0) (hv:g.K v/\g.M.F v 0=g.M.F b 0) (st:1<=g.M.F b 6) (led:∃ m r,Led c g b m r/\(m≠0->1<=g.M.F m 6)/\(b∈g.L->∃ qs,qs≠[]/\Sg g.M.F v qs r/\∀ q∈qs,g.K q/\¬ Bn g q)):Goes c g l (g.set b 5 v) (vg l (b+5) v) no2 no1:=by
 have hs:(5:Int)<z8 c:=by have:=hc.c2;have:=hc.t1;unfold z8;omega
 have eq:∀ a f',(a≠b\/f'≠5)->(g.set b 5 v).M.F a f'=g.M.F a f':=fun a f' k=>k.elim (fun e=>J7 e) (fun e=>xg e)
 have e2:∀ a,(g.set b 5 v).M.F a 2=g.M.F a 2:=fun a=>eq a 2 (.inr Ly)
 have e3:∀ a,(g.set b 5 v).M.F a 3=g.M.F a 3:=fun a=>eq a 3 (.inr Ly)
 have e4:∀ a,(g.set b 5 v).M.F a 4=g.M.F a 4:=fun a=>eq a 4 (.inr Ly)
 have e6:∀ a,(g.set b 5 v).M.F a 6=g.M.F a 6:=fun a=>eq a 6 (.inr Ly)
 have eb:∀ x,Bn (g.set b 5 v) x↔Bn g x:=fun x=>by show (x∈g.L\/(g.K x/\(g.set b 5 v).M.F x 2 % 2=1/\1<=(g.set b 5 v).M.F x 6))↔_;rw [e2,e6];exact Iff.rfl
 have lk:∀ {a m r:Int},Led c g a m r->Led c (g.set b 5 v) a m r:=fun L=>L.keep (h.p15 hc) (fun _ k=>k) (fun x=>(eb x).2) (fun a _ _=>e2 a) (fun a _ _=>e3 a) (fun a _ _=>e4 a)
 have bg:Bg c (g.set b 5 v):=by
  have hb5:∀ x,g.M.F x 5≠0->(g.set b 5 v).M.F x 5≠0:=fun x k=>by
   by_cases e:x=b
   ·subst e;exact absurd h0 k
   ·rw [eq x 5 (.inl e)];exact k
  have bL:b∈g.L:=Classical.byContradiction fun k=>by obtain ⟨m,r,L,-⟩:=led;exact (h.bg.gn b L.B k).2 L.self h0
  refine ⟨h.bg.cl.congr (fun x _=>by rw [e2]),h.bg.K,fun x hx=>?_,fun k k0 k1=>?_,fun x hx hn=>?_,fun x hx hn=>?_,fun x hx hn=>?_⟩
  ·rw [e2,eb];exact h.bg.nx x ((eb x).1 hx)
  ·have:(g.set b 5 v).M.ht k=g.M.ht k:=rfl;rw [this,eb];exact h.bg.ht k k0 k1
  ·rw [e3] at hn ⊢;rw [e3,eb];exact h.bg.ld x hx hn
  ·by_cases e:x=b
   ·subst e;obtain ⟨m,r,L,sm,sh⟩:=led;refine ⟨by rw [e6];exact st,fun k=>absurd bL k,m,r,lk L,fun k=>by rw [e6];exact sm k,fun k=>?_⟩;obtain ⟨qs,q1,q2,q3⟩:=sh k;have:(g.set x 5 v).M.F x 5=v:=upd_same _ _ _ _;rw [this];exact Ex
   ·have e5:(g.set b 5 v).M.F x 5=g.M.F x 5:=eq x 5 (.inl e);rw [e5] at hn;obtain ⟨s1,rb,m,r,L,sm,sh⟩:=h.bg.rp x hx hn;refine ⟨by rw [e6];exact s1,fun k=>by rw [e5,eb];exact rb k,m,r,lk L,fun k=>by rw [e6];exact sm k,fun k=>?_⟩;obtain ⟨qs,q1,q2,q3⟩:=sh k;rw [e5];exact Ex
  ·obtain ⟨k1,k2⟩:=h.bg.gn x ((eb x).1 hx) hn;rw [e3];exact ⟨k1,fun k=>hb5 x (k2 k)⟩
 refine ⟨⟨h.ki.setRepl hv,Rel.setF hc h hb ⟨by omega,hs⟩ v,bg⟩,⟨fun _ k=>k,fun _ _=>rfl,fun a _=>eq a 0 (.inr Ly),fun a _ _=>e2 a,fun a _ _=>e3 a,fun a _ _=>e4 a,fun a _ k=>?_,fun a i _ i0 i1 k=>⟨eq a _ (.inr Ly),eq a _ (.inr Ly),eq a _ (.inr Ly)⟩,fun a _=>by rw [eq a 1 (.inr Ly)];exact Int.le_refl _,Int.le_refl _,fun x k=>(eb x).2 k,fun _ _ k=>k,fun a _ k=>by rw [e6];exact k⟩,⟨fun a i ha h0 h1 _ k=>?_,fun p h0 h1 h2 _=>Vv hc h hb ⟨by omega,hs⟩ v p h0 h1 h2⟩,fun a k=>.inl ⟨k,by rw [eq a 1 (.inr Ly)];omega⟩,by show g.M.top<=_;omega,fun a k k2=>absurd k k2⟩
 ·by_cases e:a=b
  ·subst e;exact absurd h0 k
  ·exact eq a 5 (.inl e)
 ·rw [eq a (7+3 * i) (.inr Ly),eq a (8+3 * i) (.inr Ly)];exact ⟨k,rfl⟩
theorem Yb (hc:c.Ok) (h:OkG c g l) {b j o v:Int} (hb:g.K b) (hj:0<=j/\j<c.c) (ho:o=7\/o=8\/o=9) (hs:g.M.F b (7+3 * j)<3)
  (hv:(o=7->v<1\/v=2\/(g.M.F b 0<=g.M.F b (8+3 * j)/\g.M.F b (8+3 * j)<g.up b))/\(o=8->g.M.F b (7+3 * j)<1\/g.M.F b (7+3 * j)=2)/\(o=7->v=2\/j<g.M.F b 1)) :
  Goes c g l (g.set b (o+3 * j) v) (vg l (b+(o+3 * j)) v) (fun a i=>a=b/\i=j) no1:=by
 have hsz:o+3 * j<z8 c:=by unfold z8;omega
 have eq:∀ a f',(a≠b\/f'≠o+3 * j)->(g.set b (o+3 * j) v).M.F a f'=g.M.F a f':=fun a f' k=>k.elim (fun e=>J7 e) (fun e=>xg e)
 have eq2:∀ a i o',(o'=7\/o'=8\/o'=9)->¬ (a=b/\i=j)->(g.set b (o+3 * j) v).M.F a (o'+3 * i)=g.M.F a (o'+3 * i):=fun a i o' k1 k2=>by
  refine eq a _ ?_;by_cases e:a=b
  ·right;intro e2;exact k2 ⟨e,by omega⟩
  ·exact .inl e
 have mi:q24 g (g.set b (o+3 * j) v):=Uz hb Ly Ly Ly Ly Ly;refine ⟨⟨h.ki.setCell hj.1 ho (fun _ _=>hv),Rel.setF hc h hb ⟨by omega,hsz⟩ v,mi.bg (h.p15 hc) h.bg⟩,⟨fun _ k=>k,fun _ _=>rfl,fun a _=>eq a 0 (.inr Ly),fun a _ _=>eq a 2 (.inr Ly),fun a _ _=>eq a 3 (.inr Ly),fun a _ _=>eq a 4 (.inr Ly),fun a _ _=>eq a 5 (.inr Ly),fun a i _ i0 i1 k=>?_,fun a _=>by rw [eq a 1 (.inr Ly)];exact Int.le_refl _,Int.le_refl _,fun a k=>(mi.bn (c:=c) a).2 k,fun a _ k=>k,fun a ha k=>mi.st ha k⟩,⟨fun a i ha h0 h1 hn k=>?_,fun p h0 h1 h2 _=>Vv hc h hb ⟨by omega,hsz⟩ v p h0 h1 h2⟩,fun a k=>.inl ⟨k,by rw [eq a 1 (.inr Ly)];omega⟩,by show g.M.top<=_;omega,fun a k k2=>absurd k k2⟩
 ·have hne:¬ (a=b/\i=j):=by rintro ⟨rfl,rfl⟩;omega
  exact ⟨eq2 a i 7 (.inl rfl) hne,eq2 a i 8 (.inr (.inl rfl)) hne,eq2 a i 9 (.inr (.inr rfl)) hne⟩
 ·rw [eq2 a i 7 (.inl rfl) hn,eq2 a i 8 (.inr (.inl rfl)) hn];exact ⟨k,rfl⟩
theorem Y6 (hc:c.Ok) (h:OkG c g l) {b j v:Int} (hb:g.K b) (hj:0<=j/\j<c.c) (hv:(g.M.F b (7+3 * j)=0/\v=2)\/(g.M.F b (7+3 * j)=1/\3<=v)) :
  Goes c g l (g.set b (7+3 * j) v) (vg l (b+(7+3 * j)) v) no2 no1:=by
 have hcl:=h.ki.cl b j hb hj.1 hj.2;have k:=Yb hc h hb hj (o:=7) (v:=v) (.inl rfl) Ly ⟨fun _=>by rcases hv with ⟨e1,e2⟩ | ⟨e1,e2⟩;exact .inr (.inl e2);exact .inr (.inr (hcl Ly Ly)),fun e=>by omega,fun _=>by rcases hv with ⟨e1,e2⟩ | ⟨e1,e2⟩;exact .inl e2;exact .inr (by by_cases q:g.M.F b 1<=j;(have:=h.ki.cf b j hb hj.1 hj.2 q;omega);omega)⟩;refine ⟨k.ok,k.ext,⟨fun a i ha h0 h1 _ e=>?_,k.kp.priv⟩,k.cu,k.tu,k.go⟩;by_cases hab:a=b/\i=j
 ·obtain ⟨rfl,rfl⟩:=hab;have e7:(g.set a (7+3 * i) v).M.F a (7+3 * i)=v:=upd_same _ _ _ _;have e8:(g.set a (7+3 * i) v).M.F a (8+3 * i)=g.M.F a (8+3 * i):=xg Ly;rw [e7,e8];rcases hv with ⟨e1,e2⟩ | ⟨e1,e2⟩
  ·exact ⟨.inr e2,rfl⟩
  ·omega
 ·exact k.kp.cell a i ha h0 h1 hab e
theorem Xe (hc:c.Ok) (h:OkG c g l) {p:Int} (v:Int) (hp:0<=p/\p<3+c.t/\p≠2):Goes c g l g (vg l p v) no2 no1:=by
 have hl:=h.rel.len;have ne:∀ q,q≠p->qx (vg l p v) q=qx l q:=fun q k=>by rw [xn,qf (fun e=>k e.1)]
 refine ⟨⟨h.ki,⟨by rw [kw];exact hl,fun a ha f h0 h1=>?_,?_,fun k h0 h1=>?_,?_,fun q hq=>?_⟩,h.bg⟩,Ext.refl c g,⟨fun a i _ _ _ _ k=>⟨k,rfl⟩,fun q h0 h1 h2 _=>⟨ne q Ps,h2⟩⟩,fun a k=>.inl ⟨k,by first | omega | (simp only;omega)⟩,by first | omega | (simp only;omega),fun a k k2=>absurd k k2⟩
 ·exact En
 ·exact Ga
 ·rw [ne _ Ly];exact h.rel.ht k h0 h1
 ·rw [ne _ Ly];exact h.rel.top
 ·obtain ⟨a,ha,-⟩:=h.ki.hd;obtain ⟨l1,l2,l3,l4⟩:=Rel.low hc h ha;exact Hy
theorem q5o (hc:c.Ok) (h:OkG c g l) {k v:Int} (hk:0<=k/\k<4) (hv:Bn g v):Goes c g l { g with M:={ g.M with ht:=fun j=>if j=k then v else g.M.ht j } } (vg l (3+c.t+k) v) no2 no1:=by
 have hl:=h.rel.len;have ht:=hc.t1;have hw:=hc.top;have hc2:=hc.c2;have ne:∀ q,q≠3+c.t+k->qx (vg l (3+c.t+k) v) q=qx l q:=fun q e=>by rw [xn,qf (fun e2=>e e2.1)]
 have mi:q24 g { g with M:={ g.M with ht:=fun j=>if j=k then v else g.M.ht j } }:=⟨rfl,rfl,rfl,fun _ _=>rfl,fun _ _=>.inl ⟨rfl,rfl⟩,fun _ _ _=>rfl,fun _ _ k k2=>absurd k k2,fun _ _ _=>rfl,fun _ _=>rfl,fun j=>by
  simp only
  split
  ·exact .inr hv
  ·exact .inl rfl⟩
 refine ⟨⟨h.ki.setHint (hv.K h),⟨by rw [kw];exact hl,fun a ha f h0 h1=>?_,?_,fun j h0 h1=>?_,?_,fun q hq=>?_⟩,mi.bg (h.p15 hc) h.bg⟩,⟨fun _ e=>e,fun _ _=>rfl,fun _ _=>rfl,fun _ _ _=>rfl,fun _ _ _=>rfl,fun _ _ _=>rfl,fun _ _ _=>rfl,fun _ _ _ _ _ _=>⟨rfl,rfl,rfl⟩,fun _ _=>Int.le_refl _,Int.le_refl _,fun _ k=>k,fun _ _ k=>k,fun _ _ k=>k⟩,⟨fun a i _ _ _ _ e=>⟨e,rfl⟩,fun q h0 h1 h2 _=>⟨ne q Ps,h2⟩⟩,fun a k=>.inl ⟨k,by first | omega | (simp only;omega)⟩,by first | omega | (simp only;omega),fun a k k2=>absurd k k2⟩
 ·exact En
 ·exact Ga
 ·simp only;by_cases e:j=k
  ·subst e;rw [xn,qg ⟨rfl,by omega,by omega⟩,qg rfl]
  ·rw [ne _ Ly,qf e];exact h.rel.ht j h0 h1
 ·rw [ne _ Ly];exact h.rel.top
 ·obtain ⟨a,ha,-⟩:=h.ki.hd;obtain ⟨l1,l2,l3,l4⟩:=Rel.low hc h ha;have hq':g.M.top<=q:=hq;exact Hy
theorem q6m {F:Int->Int->Int} {a b y:Int} {L:List Int} (h:Sg F a L b) (hy:y∈L):a∈L:=by
 cases L with
 | nil=>simp at hy
 | cons x r=>rw [h.1];simp
theorem q69 (hc:c.Ok) (h:OkG c g l):∀ {L:List Int} {a b:Int},Sg g.M.F a L b->(∀ x∈L,g.K x)->∀ y∈L,g.M.F a 0<=g.M.F y 0
 | [],_,_,_,_,y,hy=>by simp at hy
 | x :: r,a,b,s,hk,y,hy=>by
  obtain ⟨rfl,s2⟩:=s;rcases List.mem_cons.1 hy with rfl | hy
  ·exact Int.le_refl _
  ·have k1:=q69 hc h s2 (fun z hz=>hk z Pv) y hy;have kx:=hk a Ma;have:=h.ki.mn a kx;have kn:=hk _ (List.mem_cons_of_mem _ (q6m s2 hy));have:=h.p15 hc _ kn;rcases h.ki.nx a kx with ⟨e,-⟩ | ⟨-,e⟩
   ·omega
   ·omega
theorem q78 (hc:c.Ok) (h:OkG c g l):∀ {L:List Int} {a b:Int},Sg g.M.F a L b->(∀ x∈L,g.K x)->L.Pairwise fun x y=>g.up x<=g.M.F y 0
 | [],_,_,_,_=>List.Pairwise.nil
 | x :: r,a,b,s,hk=>by
  obtain ⟨rfl,s2⟩:=s;refine List.pairwise_cons.2 ⟨fun y hy=>?_,q78 hc h s2 (fun z hz=>hk z Pv)⟩;have k1:=q69 hc h s2 (fun z hz=>hk z Pv) y hy;have kn:=hk _ (List.mem_cons_of_mem _ (q6m s2 hy));have:=h.p15 hc _ kn;rcases h.ki.nx a (hk a Ma) with ⟨e,-⟩ | ⟨-,e⟩
  ·omega
  ·omega
theorem qcw (hc:c.Ok) (h:OkG c g l):∀ {L:List Int} {a b:Int},Sg g.M.F a L b->(∀ x∈L,g.K x)->b≠0->∀ y∈L,g.up y<=g.M.F b 0
 | [],_,_,_,_,_,y,hy=>by simp at hy
 | x :: r,a,b,s,hk,hb,y,hy=>by
  obtain ⟨rfl,s2⟩:=s;have kx:=hk a Ma;have ih:=qcw hc h s2 (fun z hz=>hk z Pv) hb;rcases List.mem_cons.1 hy with rfl | hy
  ·cases r with
   | nil =>
    rcases h.ki.nx y kx with ⟨e,-⟩ | ⟨-,e⟩
    ·rw [show g.M.F y 2 / 2=b from s2] at e;exact absurd e hb
    ·rw [show g.M.F y 2 / 2=b from s2] at e;omega
   | cons z r =>
    have k1:=ih z Ma;obtain ⟨e2,-⟩:=s2;have kz:=hk z Ma;have:=h.ki.mn z kz;have:=h.p15 hc z kz;rcases h.ki.nx y kx with ⟨e,-⟩ | ⟨-,e⟩
    ·omega
    ·rw [e2] at e;omega
  ·exact ih y hy
theorem Jy {F:Int->Int->Int}:∀ {L:List Int} {a b x:Int},Sg F a L b->x∈L->F x 2 / 2=b\/F x 2 / 2∈L
 | [],_,_,x,_,hx=>by simp at hx
 | y :: r,a,b,x,s,hx=>by
  obtain ⟨rfl,s2⟩:=s;rcases List.mem_cons.1 hx with rfl | hx
  ·cases r with
   | nil=>exact .inl s2
   | cons z r=>right;rw [s2.1];simp
  ·rcases Jy s2 hx with k | k
   ·exact .inl k
   ·exact .inr (by simp [k])
theorem OkG.rise (hc:c.Ok) (h:OkG c g l):g.L.Pairwise fun x y=>g.up x<=g.M.F y 0:=q78 hc h h.bg.cl h.bg.K
theorem q6u {α:Type} {R:α->α->Prop}:∀ {L:List α} {x y:α},L.Pairwise R->x∈L->y∈L->x≠y->R x y\/R y x
 | [],x,_,_,hx,_,_=>by simp at hx
 | z :: r,x,y,h,hx,hy,hn=>by
  rw [List.pairwise_cons] at h;rcases List.mem_cons.1 hx with e | hx
  ·rcases List.mem_cons.1 hy with e2 | hy
   ·exact absurd (e.trans e2.symm) hn
   ·rw [e];exact .inl (h.1 y hy)
  ·rcases List.mem_cons.1 hy with e | hy
   ·rw [e];exact .inr (h.1 x hx)
   ·exact q6u h.2 hx hy hn
theorem OkG.tri (hc:c.Ok) (h:OkG c g l) {x y:Int} (hx:x∈g.L) (hy:y∈g.L) (hn:x≠y):g.up x<=g.M.F y 0\/g.up y<=g.M.F x 0:=q6u (h.rise hc) hx hy hn
theorem OkG.apart (hc:c.Ok) (h:OkG c g l) {A B:List Int} (e:g.L=A++B) {x y:Int} (hx:x∈A) (hy:y∈B):x≠y:=by have:=h.rise hc;rw [e,List.pairwise_append] at this;have k:=this.2.2 x hx y hy;intro e2;subst e2;have:=h.ki.mn x (h.bg.K x (by rw [e];simp [hx]));omega
def hiL (g:Gst) (a m:Int):Int:=g.up (if m=0 then a else m)
structure Ctt (c:Cf) (g:Gst) (a:Int) (A:List Int) (m r:Int) (qs R:List Int):Prop where
 L:Led c g a m r
 sa:1<=g.M.F a 6
 sm:m≠0->1<=g.M.F m 6
 gl:g.L=A++a :: ((if m=0 then [] else [m])++R)
 sA:Sg g.M.F (g.M.hn / 2) A a
 sR:Sg g.M.F r R 0
 qn:qs≠[]
 sq:Sg g.M.F (g.M.F a 5) qs r
 qK:∀ q∈qs,g.K q/\¬ Bn g q
theorem qag (hc:c.Ok) (h:OkG c g l) {a:Int} (ha:a∈g.L) (h5:g.M.F a 5≠0):∃ A m r qs R,Ctt c g a A m r qs R:=by
 obtain ⟨sa,-,m,r,L,sm,sh⟩:=h.bg.rp a (h.bg.K a ha) h5;obtain ⟨qs,q1,q2,q3⟩:=sh ha;obtain ⟨A,B,e⟩:=List.append_of_mem ha;have hcl:=h.bg.cl;rw [e] at hcl;obtain ⟨a',s1,s2,s3⟩:=Sg.app.1 hcl;subst s2;have h15:=h.p15 hc;rcases L.m with ⟨e1,e2⟩ | ⟨e1,e2,e3,e4⟩
 ·subst e1;exact ⟨A,0,r,qs,B,L,sa,sm,by rw [qg rfl];exact e,s1,by rw [e2];exact s3,q1,q2,q3⟩
 ·have:=h15 m e1;cases B with
  | nil=>have e0:g.M.F a' 2 / 2=0:=s3;omega
  | cons z R =>
   obtain ⟨k1,k2⟩:=s3;rw [<- e2] at k1;subst k1;exact ⟨A,m,r,qs,R,L,sa,sm,by rw [qf Ly];exact e,s1,by rw [e4];exact k2,q1,q2,q3⟩
theorem Led.hi (hc:c.Ok) (h:OkG c g l) {a m r:Int} (L:Led c g a m r):g.M.F a 0<hiL g a m/\(r=0->hiL g a m=64)/\(r≠0->hiL g a m=g.M.F r 0):=by
 have h1:=h.ki.mn a L.K;unfold hiL;rcases L.m with ⟨e1,e2⟩ | ⟨e1,e2,e3,e4⟩
 ·rw [qg e1];refine ⟨h1.2.1,fun e=>?_,fun e=>?_⟩
  ·rcases h.ki.nx a L.K with ⟨q1,q2⟩ | ⟨q1,q2⟩
   ·exact q2
   ·have:=h.p15 hc _ q1;omega
  ·rcases h.ki.nx a L.K with ⟨q1,q2⟩ | ⟨q1,q2⟩
   ·omega
   ·rw [e2];exact q2.symm
 ·have:=h.p15 hc _ e1;have h2:=h.ki.mn m e1;rw [qf Ly];refine ⟨?_,fun e=>?_,fun e=>?_⟩
  ·rcases h.ki.nx a L.K with ⟨q1,q2⟩ | ⟨q1,q2⟩
   ·omega
   ·rw [<- e2] at q2;omega
  ·rcases h.ki.nx m e1 with ⟨q1,q2⟩ | ⟨q1,q2⟩
   ·exact q2
   ·have:=h.p15 hc _ q1;omega
  ·rcases h.ki.nx m e1 with ⟨q1,q2⟩ | ⟨q1,q2⟩
   ·omega
   ·rw [e4];exact q2.symm
theorem qcq (hc:c.Ok) (h:OkG c g l) {a m r:Int} {qs:List Int} (L:Led c g a m r) (h5:g.M.F a 5≠0) (sq:Sg g.M.F (g.M.F a 5) qs r) (qK:∀ q∈qs,g.K q/\¬ Bn g q):∀ q∈qs,g.M.F a 0<=g.M.F q 0/\g.up q<=hiL g a m:=fun q hq=>by
 have hK:=fun z hz=>(qK z hz).1
 have k1:=q69 hc h sq hK q hq;have k2:=(h.ki.rp a L.K).resolve_left h5;obtain ⟨-,k3,k4⟩:=L.hi hc h;have k5:=h.ki.mn q (hK q hq);refine ⟨by rw [k2.2] at k1;exact k1,?_⟩;by_cases e:r=0
 ·rw [k3 e];omega
 ·rw [k4 e];exact qcw hc h sq hK e q hq
theorem qb6 (hc:c.Ok) (h:OkG c g l) {a m r y n t:Int} (L:Led c g a m r) (N:Led c g y n t) (ha:a∈g.L) (hy:y∈g.L) (hne:y≠a):hiL g a m<=g.M.F y 0\/hiL g y n<=g.M.F a 0:=by
 have one:∀ {a m r y n t:Int},Led c g a m r->Led c g y n t->a∈g.L->y∈g.L->y≠a->g.up a<=g.M.F y 0->hiL g a m<=g.M.F y 0:=fun {a m r y n t} L N ha hy hne hk=>by
  unfold hiL;split
  ·exact hk
  ·rename_i hm;rcases L.m with ⟨e1,-⟩ | ⟨e1,e2,e3,e4⟩
   ·exact absurd e1 hm
   ·have hmL:m∈g.L:=by
     rcases Jy h.bg.cl ha with k | k
     ·omega
     ·rw [e2];exact k
    have hmy:m≠y:=fun e=>by
     rcases L.dec with ⟨q,-⟩ | ⟨-,-,q⟩
     ·exact hm q
     ·rw [e,N.self] at q;exact hne q
    have hu:g.M.F m 0=g.up a:=by
     rcases h.ki.nx a L.K with ⟨q1,q2⟩ | ⟨q1,q2⟩
     ·omega
     ·rw [e2];exact q2
    rcases h.tri hc hmL hy hmy with k | k
    ·exact k
    ·have:=h.ki.mn y N.K;omega
 rcases h.tri hc ha hy (fun e=>hne e.symm) with k | k
 ·exact .inl (one L N ha hy hne k)
 ·exact .inr (one N L hy ha (fun e=>hne e.symm) k)
theorem qaj (hc:c.Ok) (h:OkG c g l) {a m r:Int} {A qs R:List Int} (C:Ctt c g a A m r qs R) (h5:g.M.F a 5≠0) {g':Gst} (eK:g'.K=g.K) (e0:∀ x f,f≠2->g'.M.F x f=g.M.F x f) (e2:∀ x,g'.M.F x 2=g.M.F x 2\/(x∈A/\g.M.F x 2 % 2=0)) (eht:∀ k,g'.M.ht k=g.M.ht k)
  (eL:g'.L=A++(qs++R)) (eA:Sg g'.M.F (g'.M.hn / 2) A (g.M.F a 5)):Bg c g'/\(∀ x,Bn g x->Bn g' x)/\(∀ x,Bn g x->x∉g.L->x∉g'.L)/\(∀ x,x∈g.L->x∉g'.L->g.M.F x 2 % 2=1):=by
 have h15:=h.p15 hc;have gl:=C.gl;have inA:∀ x∈A,x∈g.L:=fun x hx=>by rw [gl];simp [hx]
 have inR:∀ x∈R,x∈g.L:=fun x hx=>by rw [gl];simp [hx]
 have inm:m≠0->m∈g.L:=fun k=>by rw [gl,qf k];simp
 have ina:a∈g.L:=by rw [gl];simp
 have qA:∀ q∈qs,q∉A:=fun q hq hA=>(C.qK q hq).2 (.inl (inA q hA))
 have RA:∀ x∈R,x∉A:=fun x hx hA=>h.apart hc gl hA (show x∈a :: ((if m=0 then [] else [m])++R) by simp [hx]) rfl
 have aA:a∉A:=fun hA=>h.apart hc gl hA (show a∈a :: ((if m=0 then [] else [m])++R) by simp) rfl
 have mA:m≠0->m∉A:=fun k hA=>h.apart hc gl hA (show m∈a :: ((if m=0 then [] else [m])++R) by rw [qf k];simp) rfl
 have aR:a∉R:=fun hR=>h.apart hc (A:=A++[a]) (B:=(if m=0 then [] else [m])++R) (by rw [gl];simp) (show a∈A++[a] by simp) (show a∈(if m=0 then [] else [m])++R by simp [hR]) rfl
 have off:∀ x,x∉A->g'.M.F x 2=g.M.F x 2:=fun x hx=>(e2 x).resolve_right (fun k=>hx k.1)
 have odd:∀ x,g.M.F x 2 % 2=1->g'.M.F x 2=g.M.F x 2:=fun x hx=>(e2 x).resolve_right (fun k=>by omega)
 have mm:m≠0->g.K m/\g.M.F m 2 % 2=1:=fun k=>by
  rcases C.L.m with ⟨e,-⟩ | ⟨k1,k2,k3,k4⟩
  ·exact absurd e k
  ·exact ⟨k1,k3⟩
 have bn:∀ x,Bn g x->Bn g' x:=fun x hx=>by
  rcases hx with hx | ⟨k1,k2,k3⟩
  ·rw [gl] at hx;rcases List.mem_append.1 hx with hx | hx
   ·left;rw [eL];simp [hx]
   ·rcases List.mem_cons.1 hx with rfl | hx
    ·right;rw [eK,odd _ C.L.mk',e0 _ 6 Ly];exact ⟨C.L.K,C.L.mk',C.sa⟩
    ·rcases List.mem_append.1 hx with hx | hx
     ·split at hx
      ·simp at hx
      ·rename_i k;rw [List.mem_singleton.1 hx];right;rw [eK,odd _ (mm k).2,e0 _ 6 Ly];exact ⟨(mm k).1,(mm k).2,C.sm k⟩
     ·left;rw [eL];simp [hx]
  ·right;rw [eK,odd _ k2,e0 _ 6 Ly];exact ⟨k1,k2,k3⟩
 have bn':∀ x,Bn g' x->Bn g x\/x∈qs:=fun x hx=>by
  rcases hx with hx | ⟨k1,k2,k3⟩
  ·rw [eL] at hx;rcases List.mem_append.1 hx with hx | hx
   ·exact .inl (.inl (inA x hx))
   ·rcases List.mem_append.1 hx with hx | hx
    ·exact .inr hx
    ·exact .inl (.inl (inR x hx))
  ·rw [eK] at k1;rw [e0 _ 6 Ly] at k3;rcases e2 x with q | ⟨q,-⟩
   ·rw [q] at k2;exact .inl (.inr ⟨k1,k2,k3⟩)
   ·exact .inl (.inl (inA x q))
 have ld:∀ {y n t:Int},Led c g y n t->Led c g' y n t:=fun L=>L.keep h15 (fun x k=>by rw [eK];exact k) bn (fun a _ k=>odd a k) (fun a _ _=>e0 a 3 Ly) (fun a _ _=>e0 a 4 Ly)
 have hcl:Sg g'.M.F (g'.M.hn / 2) g'.L 0:=by
  rw [eL];refine Sg.app.2 ⟨_,eA,Sg.app.2 ⟨r,?_,?_⟩⟩
  ·exact C.sq.congr (fun q hq=>by rw [off q (qA q hq)])
  ·exact C.sR.congr (fun x hx=>by rw [off x (RA x hx)])
 have vL:g.M.F a 5∈g'.L:=by have k:=C.sq;rw [eL];exact Dz
 have left:∀ x,x∈g.L->x∉g'.L->x=a\/(m≠0/\x=m):=fun x hx k=>by
  rw [gl] at hx;rcases List.mem_append.1 hx with hx | hx
  ·exact H3
  ·rcases List.mem_cons.1 hx with rfl | hx
   ·exact .inl rfl
   ·rcases List.mem_append.1 hx with hx | hx
    ·split at hx
     ·simp at hx
     ·rename_i q;exact .inr ⟨q,List.mem_singleton.1 hx⟩
    ·exact H3
 have m3:m≠0->g.M.F m 3=a/\m≠a:=fun k=>by
  refine ⟨?_,fun e=>?_⟩
  ·rcases C.L.dec with ⟨q,-⟩ | ⟨-,-,q⟩
   ·exact absurd q k
   ·exact q
  ·refine h.apart hc (A:=A++[a]) (B:=(if m=0 then [] else [m])++R) (by rw [gl];simp) (show a∈A++[a] by simp) (show m∈(if m=0 then [] else [m])++R by rw [qf k];simp) e.symm
 refine ⟨⟨hcl,fun x hx=>?_,fun x hx=>?_,fun k k0 k1=>?_,fun x hx hn=>?_,fun x hx hn=>?_,fun x hx hn=>?_⟩,bn,fun x hx k k2=>?_,fun x hx k=>?_⟩
 ·rw [eK];rw [eL] at hx;rcases List.mem_append.1 hx with hx | hx
  ·exact h.bg.K x (inA x hx)
  ·rcases List.mem_append.1 hx with hx | hx
   ·exact (C.qK x hx).1
   ·exact h.bg.K x (inR x hx)
 ·by_cases k:x∈g'.L
  ·rcases Jy hcl k with q | q
   ·exact .inl q
   ·exact .inr (.inl q)
  ·have kq:x∉qs:=fun q=>k A04
   have kA:x∉A:=fun q=>k A04
   have hx':=(bn' x hx).resolve_right kq;rw [off x kA];exact (h.bg.nx x hx').imp id (bn _)
 ·rw [eht];exact (h.bg.ht k k0 k1).imp id (bn _)
 ·rw [eK] at hx;rw [e0 _ 3 Ly] at hn ⊢;rw [e0 _ 3 Ly];obtain ⟨q1,q2⟩:=h.bg.ld x hx hn;exact ⟨bn _ q1,q2⟩
 ·rw [eK] at hx;rw [e0 _ 5 Ly] at hn;obtain ⟨st,rb,n,t,N,sn,sh⟩:=h.bg.rp x hx hn;refine ⟨by rw [e0 _ 6 Ly];exact st,fun k=>?_,n,t,ld N,fun k=>by rw [e0 _ 6 Ly];exact sn k,fun k=>?_⟩
  ·rw [e0 _ 5 Ly];by_cases xL:x∈g.L
   ·rcases left x xL k with e | ⟨e1,e2⟩
    ·rw [e];exact .inl vL
    ·exfalso;have:=(m3 e1).1;rw [e2] at N;rw [N.self] at this;exact (m3 e1).2 this
   ·exact bn _ (rb xL)
  have xq:x∉qs:=fun q=>(C.qK x q).2 N.B
  have xL:x∈g.L:=by
   rw [eL] at k;rcases List.mem_append.1 k with k | k
   ·exact inA x k
   ·exact inR x ((List.mem_append.1 k).resolve_left xq)
  have xa:x≠a:=fun e=>by
   rw [e,eL] at k;rcases List.mem_append.1 k with k | k
   ·exact aA k
   ·rcases List.mem_append.1 k with k | k
    ·exact (C.qK a k).2 (.inl ina)
    ·exact aR k
  obtain ⟨ps,p1,p2,p3⟩:=sh xL;rw [e0 _ 5 Ly];refine ⟨ps,p1,p2.congr (fun z hz=>by rw [off z (fun q=>(p3 z hz).2 (.inl (inA z q)))]),fun z hz=>⟨by rw [eK];exact (p3 z hz).1,fun q=>?_⟩⟩;rcases bn' z q with q | q
  ·exact (p3 z hz).2 q
  ·have k1:=qcq hc h C.L h5 C.sq C.qK z q;have k2:=qcq hc h N hn p2 p3 z hz;have k3:=h.ki.mn z (p3 z hz).1;rcases qb6 hc h C.L N ina xL xa with k4 | k4
   ·omega
   ·omega
 ·rw [e0 _ 3 Ly,e0 _ 5 Ly];have xq:x∉qs:=fun q=>hn A04
  have hx':=(bn' x hx).resolve_right xq;by_cases xL:x∈g.L
  ·rcases left x xL hn with e | ⟨e1,e2⟩
   ·rw [e,C.L.self];have:=h15 a C.L.K;exact ⟨by omega,fun _=>h5⟩
   ·have:=m3 e1;have:=h15 a C.L.K;rw [e2];exact ⟨by omega,fun k=>by omega⟩
  ·exact h.bg.gn x hx' xL
 ·rw [eL] at k2;rcases List.mem_append.1 k2 with k2 | k2
  ·exact k (inA x k2)
  ·rcases List.mem_append.1 k2 with k2 | k2
   ·exact (C.qK x k2).2 hx
   ·exact k (inR x k2)
 ·rw [gl] at hx;rcases List.mem_append.1 hx with hx | hx
  ·exact H3
  ·rcases List.mem_cons.1 hx with rfl | hx
   ·exact C.L.mk'
   ·rcases List.mem_append.1 hx with hx | hx
    ·split at hx
     ·simp at hx
     ·rename_i q;rw [List.mem_singleton.1 hx];exact (mm q).2
    ·exact H3
theorem q93 (hc:c.Ok) (h:OkG c g l) {a b:Int} (hb:b∈g.L) (h0:g.M.F b 2 % 2=0) (hn:g.M.F b 2 / 2=a) (ha:a∈g.L) (h5:g.M.F a 5≠0):∃ g',Goes c g l g' (vg l (b+2) (2 * g.M.F a 5)) no2 no1/\a∉g'.L/\g.M.F a 5∈g'.L/\g'.K=g.K/\∀ x f,f≠2->g'.M.F x f=g.M.F x f:=by
 obtain ⟨A,m,r,qs,R,C⟩:=qag hc h ha h5;have hbK:=h.bg.K b hb;have haK:=h.bg.K a ha;have hv:=(h.ki.rp a haK).resolve_left h5;generalize hve:g.M.F a 5=v at *;have hs:(2:Int)<z8 c:=by have:=hc.c2;have:=hc.t1;unfold z8;omega
 have eq:∀ x f',(x≠b\/f'≠2)->(g.set b 2 (2 * v)).M.F x f'=g.M.F x f':=fun x f' k=>k.elim (fun e=>J7 e) (fun e=>xg e)
 have on:(g.set b 2 (2 * v)).M.F b 2=2 * v:=upd_same _ _ _ _;have h15:=h.p15 hc
 have hup:g.up b=g.M.F a 0:=by
  rcases h.ki.nx b hbK with ⟨q1,q2⟩ | ⟨q1,q2⟩
  ·rw [hn] at q1;have:=h15 a haK;omega
  ·rw [hn] at q2;exact q2.symm
 have ki:KI c g.K g.up (g.M.set b 2 (2 * v)):=h.ki.setNext h0 (.inr (by rw [show 2 * v / 2=v by omega,hup];exact hv))
 have bA:b∈A:=by
  have k:=hb;rw [C.gl] at k;rcases List.mem_append.1 k with k | k
  ·exact k
  ·exfalso;rcases List.mem_cons.1 k with k | k
   ·rw [k] at hn;have:=C.L.mk';rw [k] at h0;omega
   ·have hr:=h.rise hc;rw [C.gl,List.pairwise_append] at hr;have:=(List.pairwise_cons.1 hr.2.1).1 b k;have h1:=h.ki.mn b hbK;have h2:=h.ki.mn a haK;omega
 obtain ⟨A1,A2,eA⟩:=List.append_of_mem bA;have sA:=C.sA;rw [eA] at sA;obtain ⟨b',s1,s2,s3⟩:=Sg.app.1 sA;subst s2
 have e2:A2=[]:=by
  cases A2 with
  | nil=>rfl
  | cons z t =>
   exfalso;obtain ⟨q,-⟩:=s3;rw [hn] at q;exact h.apart hc C.gl (show a∈A by rw [eA,q];simp) (show a∈a :: ((if m=0 then [] else [m])++R) by simp) rfl
 subst e2;have bA1:∀ x∈A1,x≠b':=fun x hx=>h.apart hc (A:=A1) (B:=b' :: ([]++a :: ((if m=0 then [] else [m])++R))) (by rw [C.gl,eA];simp) hx Ma
 obtain ⟨bg,bn,gone,go⟩:=qaj hc h (g':=⟨g.K,g.up,g.M.set b' 2 (2 * v),A++(qs++R)⟩) C (by rw [hve];exact h5) rfl (fun x f hf=>eq x f (.inr hf)) (fun x=>by
   by_cases e:x=b'
   ·right;rw [e];exact ⟨bA,h0⟩
   ·left;exact eq x 2 (.inl e)) (fun k=>rfl) rfl (by
   rw [eA]
   refine Sg.app.2 ⟨b',s1.congr (fun x hx=>?_),rfl,?_⟩
   ·show (g.set b' 2 (2 * v)).M.F x 2 / 2=_
    rw [eq x 2 (.inl (bA1 x hx))]
   ·show (g.set b' 2 (2 * v)).M.F b' 2 / 2=_
    rw [on,hve];omega)
 have aN:a∉A++(qs++R):=fun k=>by
  rcases List.mem_append.1 k with k | k
  ·exact h.apart hc C.gl k (show a∈a :: ((if m=0 then [] else [m])++R) by simp) rfl
  ·rcases List.mem_append.1 k with k | k
   ·exact (C.qK a k).2 (.inl ha)
   ·exact h.apart hc (A:=A++[a]) (B:=(if m=0 then [] else [m])++R) (by rw [C.gl];simp) (show a∈A++[a] by simp) (show a∈(if m=0 then [] else [m])++R by simp [k]) rfl
 have vL:v∈A++(qs++R):=by have k:=C.sq;rw [hve] at k;exact Dz
 refine ⟨⟨g.K,g.up,g.M.set b' 2 (2 * v),A++(qs++R)⟩,⟨⟨ki,Rel.setF hc h hbK ⟨by omega,hs⟩ (2 * v),bg⟩,⟨fun _ k=>k,fun _ _=>rfl,fun x _=>eq x 0 (.inr Ly),fun x _ k=>?_,fun x _ _=>eq x 3 (.inr Ly),fun x _ _=>eq x 4 (.inr Ly),fun x _ _=>eq x 5 (.inr Ly),fun x i _ i0 i1 k=>⟨eq x _ (.inr Ly),eq x _ (.inr Ly),eq x _ (.inr Ly)⟩,fun x _=>Int.le_of_eq (eq x 1 (.inr Ly)).symm,Int.le_refl _,bn,gone,fun x _ k=>(eq x 6 (.inr Ly)).symm ▸ k⟩,⟨fun x i hx h0 h1 _ k=>?_,fun p h0 h1 h2 _=>Vv hc h hbK ⟨by omega,hs⟩ (2 * v) p h0 h1 h2⟩,fun x k=>.inl ⟨k,?_⟩,by show g.M.top<=_;omega,go⟩,aN,vL,rfl,fun x f hf=>eq x f (.inr hf)⟩
 ·refine eq x 2 (.inl (fun e=>?_));rw [e] at k;omega
 ·have e7:(g.set b' 2 (2 * v)).M.F x (7+3 * i)=_:=eq x (7+3 * i) (.inr Ly);have e8:(g.set b' 2 (2 * v)).M.F x (8+3 * i)=_:=eq x (8+3 * i) (.inr Ly);exact ⟨by show (g.set b' 2 (2 * v)).M.F x (7+3 * i)=0\/(g.set b' 2 (2 * v)).M.F x (7+3 * i)=2;rw [e7];exact k,e8⟩
 ·have e1:(g.set b' 2 (2 * v)).M.F x 1=_:=eq x 1 (.inr Ly);show (g.set b' 2 (2 * v)).M.F x 1<=_;rw [e1];omega
theorem q5d (hc:c.Ok) (h:OkG c g l) {a:Int} (hn:g.M.hn / 2=a) (h5:g.M.F a 5≠0):∃ g',Goes c g l g' (vg l (zq c+2) (2 * g.M.F a 5)) no2 no1/\a∉g'.L/\g.M.F a 5∈g'.L/\g'.K=g.K/\∀ x f,g'.M.F x f=g.M.F x f:=by
 have hl:=h.rel.len;have ht:=hc.t1;have hw:=hc.top;have hc2:=hc.c2;have h15:=h.p15 hc
 have ha:a∈g.L:=by
  obtain ⟨z,hz,e1,-⟩:=h.ki.hd;have k:=h.bg.cl;rw [hn] at k;cases e:g.L with
  | nil =>
   rw [e] at k;have:a=0:=k;have:=h15 z hz;omega
  | cons y t=>rw [e] at k;rw [k.1];simp
 have haK:=h.bg.K a ha;obtain ⟨A,m,r,qs,R,C⟩:=qag hc h ha h5;have hv:=(h.ki.rp a haK).resolve_left h5;generalize hve:g.M.F a 5=v at *
 have eA:A=[]:=by
  have k:=C.sA;cases A with
  | nil=>rfl
  | cons z t =>
   exfalso;rw [hn] at k;exact h.apart hc C.gl (show a∈z :: t by rw [k.1];simp) (show a∈a :: ((if m=0 then [] else [m])++R) by simp) rfl
 subst eA
 have m0:g.M.F a 0=0:=by
  obtain ⟨z,hz,e1,e2⟩:=h.ki.hd;have:z=a:=by omega
  rw [<- this];exact e2
 have ne:∀ q,q≠zq c+2->qx (vg l (zq c+2) (2 * v)) q=qx l q:=fun q e=>by rw [xn,qf (fun e2=>e e2.1)]
 obtain ⟨bg,bn,gone,go⟩:=qaj hc h (g':=⟨g.K,g.up,{ g.M with hn:=2 * v },[]++(qs++R)⟩) C (by rw [hve];exact h5) rfl (fun x f hf=>rfl) (fun x=>.inl rfl) (fun k=>rfl) rfl (by
  show 2 * v / 2=_
  rw [hve];omega)
 have aN:a∉([]:List Int)++(qs++R):=fun k=>by
  rcases List.mem_append.1 k with k | k
  ·simp at k
  ·rcases List.mem_append.1 k with k | k
   ·exact (C.qK a k).2 (.inl ha)
   ·exact h.apart hc (A:=[]++[a]) (B:=(if m=0 then [] else [m])++R) (by rw [C.gl];simp) (show a∈[]++[a] by simp) (show a∈(if m=0 then [] else [m])++R by simp [k]) rfl
 have vL:v∈([]:List Int)++(qs++R):=by have k:=C.sq;rw [hve] at k;exact Dz
 refine ⟨⟨g.K,g.up,{ g.M with hn:=2 * v },[]++(qs++R)⟩,⟨⟨h.ki.setHead ⟨hv.1,by rw [hv.2];exact m0⟩,⟨by rw [kw];exact hl,fun a ha f h0 h1=>?_,?_,fun j h0 h1=>?_,?_,fun q hq=>?_⟩,bg⟩,⟨fun _ e=>e,fun _ _=>rfl,fun _ _=>rfl,fun _ _ _=>rfl,fun _ _ _=>rfl,fun _ _ _=>rfl,fun _ _ _=>rfl,fun _ _ _ _ _ _=>⟨rfl,rfl,rfl⟩,fun _ _=>Int.le_refl _,Int.le_refl _,bn,gone,fun _ _ k=>k⟩,⟨fun a i _ _ _ _ e=>⟨e,rfl⟩,fun q h0 h1 h2 _=>⟨ne q (by unfold jk at h0;unfold zq;omega),h2⟩⟩,fun a k=>.inl ⟨k,by first | omega | (simp only;omega)⟩,by first | omega | (simp only;omega),go⟩,aN,vL,rfl,fun _ _=>rfl⟩
 ·have:=(Rel.low hc h ha).1;rw [ne _ Mw];exact h.rel.F a ha f h0 h1
 ·rw [xn,qg ⟨rfl,by unfold zq;omega,by unfold zq;omega⟩]
 ·rw [ne _ Mw];exact h.rel.ht j h0 h1
 ·rw [ne _ Mw];exact h.rel.top
 ·obtain ⟨l1,l2,l3,l4⟩:=Rel.low hc h haK;have hq':g.M.top<=q:=hq;rw [ne _ Mw];exact h.rel.fz q hq
theorem q9t (hc:c.Ok) (h:OkG c g l) (n:Nat) (hn:(n:Int) * z8 c<=3000):Goes c g l { g with M:={ g.M with top:=g.M.top+(n:Int) * z8 c } } (vg l 2 (g.M.top+(n:Int) * z8 c)) no2 no1:=by
 have hl:=h.rel.len;have ht:=hc.t1;have hw:=hc.top;have hc2:=hc.c2;have hs:0<=(n:Int) * z8 c:=Int.mul_nonneg Ly P5;have ne:∀ q,q≠2->qx (vg l 2 (g.M.top+(n:Int) * z8 c)) q=qx l q:=fun q e=>by rw [xn,qf (fun e2=>e e2.1)]
 have mi:q24 g { g with M:={ g.M with top:=g.M.top+(n:Int) * z8 c } }:=⟨rfl,rfl,rfl,fun _ _=>rfl,fun _ _=>.inl ⟨rfl,rfl⟩,fun _ _ _=>rfl,fun _ _ k k2=>absurd k k2,fun _ _ _=>rfl,fun _ _=>rfl,fun j=>.inl rfl⟩;refine ⟨⟨h.ki.setTop hc n,⟨by rw [kw];exact hl,fun a ha f h0 h1=>?_,?_,fun j h0 h1=>?_,?_,fun q hq=>?_⟩,mi.bg (h.p15 hc) h.bg⟩,⟨fun _ e=>e,fun _ _=>rfl,fun _ _=>rfl,fun _ _ _=>rfl,fun _ _ _=>rfl,fun _ _ _=>rfl,fun _ _ _=>rfl,fun _ _ _ _ _ _=>⟨rfl,rfl,rfl⟩,fun _ _=>Int.le_refl _,by simp only;omega,fun _ k=>k,fun _ _ k=>k,fun _ _ k=>k⟩,⟨fun a i _ _ _ _ e=>⟨e,rfl⟩,fun q h0 h1 h2 _=>⟨ne q Ps,h2⟩⟩,fun a k=>.inl ⟨k,by first | omega | (simp only;omega)⟩,by first | omega | (simp only;omega),fun a k k2=>absurd k k2⟩
 ·exact En
 ·exact Ga
 ·rw [ne _ Ly];exact h.rel.ht j h0 h1
 ·rw [xn,qg ⟨rfl,by omega,by omega⟩]
 ·obtain ⟨a,ha,-⟩:=h.ki.hd;obtain ⟨l1,l2,l3,l4⟩:=Rel.low hc h ha;simp only at hq;rw [ne _ Ly];exact h.rel.fz q Ly
theorem q5p (hc:c.Ok) (h:OkG c g l) {p:Int} (v:Int) (h1:jk c<=p) (h2:p<g.M.top) (h3:∀ a,g.K a->¬ (a<=p/\p<a+z8 c)):Goes c g l g (vg l p v) no2 (fun q=>q=p):=by
 have hl:=h.rel.len;unfold jk at h1;have ne:∀ q,q≠p->qx (vg l p v) q=qx l q:=fun q k=>by rw [xn,qf (fun e=>k e.1)]
 refine ⟨⟨h.ki,⟨by rw [kw];exact hl,fun a ha f h0 h1=>?_,?_,fun k h0 h1=>?_,?_,fun q hq=>?_⟩,h.bg⟩,Ext.refl c g,⟨fun a i _ _ _ _ k=>⟨k,rfl⟩,fun q h0 h1 h2 h3=>⟨ne q h3,h2⟩⟩,fun a k=>.inl ⟨k,by first | omega | (simp only;omega)⟩,by first | omega | (simp only;omega),fun a k k2=>absurd k k2⟩
 ·rw [ne _ (fun e=>h3 a ha ⟨by omega,by omega⟩)];exact h.rel.F a ha f h0 h1
 ·exact Ga
 ·rw [ne _ Ly];exact h.rel.ht k h0 h1
 ·rw [ne _ (by have:=hc.t1;omega)];exact h.rel.top
 ·exact Hy
end
theorem Zk {a:Int} (h0:0<=a) (h1:a<=1000000000):wrap64 a=a:=w64 Ly Ly
theorem Xd (s:St) (p v:Int):(s.store p v).l=vg s.l p v:=rfl
theorem qd3 (s:St) (p v:Int):(s.add p v).l=vg s.l p (wrap64 (qx s.l p+v)):=rfl
theorem jq {s:St} {p o v:Int} (h:s.can p o=true):(s.swap p o v).l=vg s.l p v:=by unfold St.swap;rw [qg h];rfl
theorem Qa {s:St} {p o v:Int} (h:s.can p o=false):(s.swap p o v).l=s.l:=by unfold St.swap;rw [qf (by rw [h];simp)];rfl
theorem kr {s:St} {p o:Int} (h:s.can p o=true):qx s.l p=o:=by unfold St.can at h;simp only [Bool.and_eq_true,beq_iff_eq] at h;exact h.2
section
variable {c:Cf} {g:Gst} {l:List Int}
theorem xk (hc:c.Ok):16<=z8 c/\z8 c<=55:=by have:=hc.c2;have:=hc.t1;have:=hc.c16;unfold z8;omega
theorem Kq (hc:c.Ok) (h:OkG c g l) {a:Int} (ha:g.K a):15<=a/\a+z8 c<=20000:=by have:=(Rel.low hc h ha).1;have:=(Rel.low hc h ha).2.1;have:=hc.t1;have:=hc.w2;omega
theorem rd (hc:c.Ok) (h:OkG c g l) {a f:Int} (ha:g.K a) (h0:0<=f) (h1:f<z8 c):qx l (wrap64 (a+f))=g.M.F a f:=by have:=Kq hc h ha;rw [Zk Ly Ly];exact h.rel.F a ha f h0 h1
theorem rd0 (hc:c.Ok) (h:OkG c g l) {a:Int} (ha:g.K a):qx l (wrap64 a)=g.M.F a 0:=by have:=rd hc h ha (f:=0) Ly Nt;rwa [Int.add_zero] at this
theorem ko (hc:c.Ok) (h:OkG c g l):¬ g.K (zq c):=fun k=>by have:=(Rel.low hc h k).1;unfold zq at this;omega
theorem q8e (hc:c.Ok) (h:OkG c g l) {a i:Int} (ha:g.K a) (hi:0<=i/\i<c.c):Qo a i=a+(7+3 * i)/\7+3 * i<z8 c/\9+3 * i<z8 c:=by have:=Kq hc h ha;have:=hc.c16;refine ⟨?_,by unfold z8;omega,by unfold z8;omega⟩;unfold Qo;rw [Zk Ly (by unfold z8 at *;omega)];omega
structure WkI (c:Cf) (g:Gst) (x:Wk):Prop where
 cc:x.c=c
 key:0<=x.key/\x.key<=63
 x2:x.line=2\/x.line=3->g.K x.x
 c5:x.line=5\/x.line=6->(g.K x.cur/\g.M.F x.cur 0<=x.key)\/x.cur=zq c
 n6:x.line=6->g.K x.n/\(x.cur=zq c->g.M.F x.n 0=0)/\(g.K x.cur->g.M.F x.n 0=g.up x.cur)
 e0:x.line=0->g.K x.at_/\g.M.F x.at_ 0<=x.key/\x.key<g.up x.at_
 ln:x.line=0\/x.live=true
theorem WkI.ext {g':Gst} {x:Wk} (h:WkI c g x) (e:Ext c g g') (hh:¬ g'.K (zq c)):WkI c g' x:=by
 refine ⟨h.cc,h.key,fun k=>e.K _ (h.x2 k),fun k=>?_,fun k=>?_,fun k=>?_,h.ln⟩
 ·rcases h.c5 k with ⟨h1,h2⟩ | h1
  ·exact .inl ⟨e.K _ h1,by rw [e.mn _ h1];exact h2⟩
  ·exact .inr h1
 ·obtain ⟨h1,h2,h3⟩:=h.n6 k;refine ⟨e.K _ h1,fun q=>by rw [e.mn _ h1];exact h2 q,fun q=>?_⟩;rcases h.c5 (.inr k) with ⟨h4,-⟩ | h4
  ·rw [e.mn _ h1,e.up _ h4];exact h3 h4
  ·rw [h4] at q;exact absurd q hh
 ·obtain ⟨h1,h2,h3⟩:=h.e0 k;exact ⟨e.K _ h1,by rw [e.mn _ h1];exact h2,by rw [e.up _ h1];exact h3⟩
theorem WkI.new {key:Int} (hk:0<=key/\key<=63):WkI c g (Wk.new c key) :=
 ⟨rfl,hk,fun k=>by simp [Wk.new] at k,fun k=>by simp [Wk.new] at k,fun k=>by simp [Wk.new] at k,fun k=>by simp [Wk.new] at k,.inr rfl⟩
theorem Jd (x:Wk) (s:St):(x.step s).2.l=s.l:=by unfold Wk.step;split <;> rfl
theorem WkI.step (hc:c.Ok) {s:St} (h:OkG c g s.l) {x:Wk} (hx:WkI c g x):WkI c g (x.step s).1:=by
 unfold Wk.step;by_cases hl:x.live=true
 ·rw [qg hl];simp only;have hlv:=hl;unfold Wk.live at hlv;simp only [Bool.or_eq_true,decide_eq_true_eq] at hlv
  have toHead:∀ y:Wk,y.c=c->y.key=x.key->WkI c g y.head:=fun y e1 e2 =>
   ⟨e1,by show 0<=y.key/\y.key<=63;rw [e2];exact hx.key,fun k=>by simp [Wk.head] at k,fun _=>.inr Oq,fun k=>by simp [Wk.head] at k,fun k=>by simp [Wk.head] at k,.inr rfl⟩
  have ends:∀ y:Wk,y.c=c->y.key=x.key->g.K y.cur->g.M.F y.cur 0<=x.key->x.key<g.up y.cur->WkI c g y.ends:=fun y e1 e2 e3 e4 e5 =>
   ⟨e1,by show 0<=y.key/\y.key<=63;rw [e2];exact hx.key,fun k=>by simp [Wk.ends] at k,fun k=>by simp [Wk.ends] at k,fun k=>by simp [Wk.ends] at k,fun _=>⟨e3,by show g.M.F y.cur 0<=y.key;rw [e2];exact e4,by show y.key<g.up y.cur;rw [e2];exact e5⟩,.inl rfl⟩
  unfold Wk.next Wk.looks;by_cases l1:x.line=1
  ·rw [qg l1,qg l1];have hk:=hx.key
   have hh:qx s.l (yn x.c x.key)=g.M.ht (x.key / 16):=Gc
   rw [hh];by_cases v0:g.M.ht (x.key / 16)=0
   ·rw [qg v0];exact toHead _ hx.cc rfl
   ·rw [qf v0];have hK:=(h.ki.ht (x.key / 16) Ly Ly).resolve_left v0;exact ⟨hx.cc,hx.key,fun _=>hK,fun k=>by simp at k,fun k=>by simp at k,fun k=>by simp at k,.inr rfl⟩
  ·rw [qf l1,qf l1];by_cases l2:x.line=2
   ·rw [qg l2,qg l2];by_cases v0:qx s.l (wrap64 (x.x+6))=0
    ·rw [qg v0];exact ⟨hx.cc,hx.key,fun _=>hx.x2 (.inl l2),fun k=>by simp at k,fun k=>by simp at k,fun k=>by simp at k,.inr rfl⟩
    ·rw [qf v0];exact toHead _ hx.cc rfl
   ·rw [qf l2,qf l2];by_cases l3:x.line=3
    ·rw [qg l3,qg l3];have hK:=hx.x2 (.inr l3);rw [rd0 hc h hK];split
     ·rename_i hv;exact ⟨hx.cc,hx.key,fun k=>by simp at k,fun _=>.inl ⟨hK,hv⟩,fun k=>by simp at k,fun k=>by simp at k,.inr rfl⟩
     ·exact toHead _ hx.cc rfl
    ·rw [qf l3,qf l3];by_cases l5:x.line=5
     ·rw [qg l5,qg l5];rcases hx.c5 (.inl l5) with ⟨hK,hm⟩ | hh
      ·rw [rd hc h hK Ly Nt];unfold atW;rcases h.ki.nx x.cur hK with ⟨e1,e2⟩ | ⟨e1,e2⟩
       ·rw [qg e1];exact ends _ hx.cc rfl hK hm (by show x.key<g.up x.cur;have:=hx.key;omega)
       ·have:g.M.F x.cur 2 / 2≠0:=fun e=>by rw [e] at e1;have:=h.ki.pos hc e1;omega
        rw [qf this];exact ⟨hx.cc,hx.key,fun k=>by simp at k,fun _=>.inl ⟨hK,hm⟩,fun _=>⟨e1,fun q=>by simp only at q;rw [q] at hK;exact absurd hK (ko hc h),fun _=>e2⟩,fun k=>by simp at k,.inr rfl⟩
      ·obtain ⟨a,ha,e1,e2⟩:=h.ki.hd
       have hp:qx s.l (wrap64 (x.cur+2))=2 * a:=Gd
       rw [hp];have ea:atW (2 * a)=a:=by unfold atW;omega
       rw [ea,qf (by have:=h.ki.pos hc ha;omega)];exact ⟨hx.cc,hx.key,fun k=>by simp at k,fun _=>.inr hh,fun _=>⟨ha,fun _=>e2,fun q=>by simp only at q;rw [hh] at q;exact absurd q (ko hc h)⟩,fun k=>by simp at k,.inr rfl⟩
     ·rw [qf l5,qf l5];have l6:x.line=6:=by omega
      obtain ⟨hn,hn1,hn2⟩:=hx.n6 l6;rw [rd0 hc h hn];split
      ·rename_i hv;exact ⟨hx.cc,hx.key,fun k=>by simp at k,fun _=>.inl ⟨hn,hv⟩,fun k=>by simp at k,fun k=>by simp at k,.inr rfl⟩
      ·rename_i hv;rcases hx.c5 (.inr l6) with ⟨hK,hm⟩ | hh
       ·refine ends _ hx.cc rfl hK hm ?_;have:=hn2 hK;omega
       ·have:=hn1 hh;have:=hx.key;omega
 ·rw [qf hl];exact hx
structure WkB (c:Cf) (B H:Int->Prop) (x:Wk):Prop where
 b2:x.line=2->H x.x
 b3:x.line=3->B x.x
 b5:x.line=5\/x.line=6->B x.cur\/x.cur=zq c
 b6:x.line=6->B x.n
 b0:x.line=0->B x.at_
theorem WkB.new (B H:Int->Prop) (key:Int):WkB c B H (Wk.new c key) :=
 ⟨fun k=>by simp [Wk.new] at k,fun k=>by simp [Wk.new] at k,fun k=>by simp [Wk.new] at k,fun k=>by simp [Wk.new] at k,fun k=>by simp [Wk.new] at k⟩
theorem WkB.more {B H B' H':Int->Prop} {x:Wk} (h:WkB c B H x) (h1:∀ y,B y->B' y) (h2:∀ y,H y->H' y):WkB c B' H' x :=
 ⟨fun k=>h2 _ (h.b2 k),fun k=>h1 _ (h.b3 k),fun k=>(h.b5 k).imp (h1 _) id,fun k=>h1 _ (h.b6 k),fun k=>h1 _ (h.b0 k)⟩
theorem WkB.step (hc:c.Ok) {s:St} (h:OkG c g s.l) {x:Wk} (hx:WkI c g x) {B H:Int->Prop} (hb:WkB c B H x) (cl:∀ y,B y->g.M.F y 2 / 2=0\/B (g.M.F y 2 / 2)) (hd:B (g.M.hn / 2)) (hh:∀ k,0<=k->k<4->g.M.ht k=0\/H (g.M.ht k)) (h2:∀ y,H y->g.M.F y 6=0->B y):WkB c B H (x.step s).1:=by
 unfold Wk.step;by_cases hl:x.live=true
 ·rw [qg hl];simp only;have hlv:=hl;unfold Wk.live at hlv;simp only [Bool.or_eq_true,decide_eq_true_eq] at hlv
  have toHead:∀ y:Wk,y.c=c->WkB c B H y.head:=fun y e1 =>
   ⟨fun k=>by simp [Wk.head] at k,fun k=>by simp [Wk.head] at k,fun _=>.inr Oq,fun k=>by simp [Wk.head] at k,fun k=>by simp [Wk.head] at k⟩
  have ends:∀ y:Wk,B y.cur->WkB c B H y.ends:=fun y e=>⟨fun k=>by simp [Wk.ends] at k,fun k=>by simp [Wk.ends] at k,fun k=>by simp [Wk.ends] at k,fun k=>by simp [Wk.ends] at k,fun _=>e⟩
  unfold Wk.next Wk.looks;by_cases l1:x.line=1
  ·rw [qg l1,qg l1];have hk:=hx.key
   have hh1:qx s.l (yn x.c x.key)=g.M.ht (x.key / 16):=Gc
   rw [hh1];by_cases v0:g.M.ht (x.key / 16)=0
   ·rw [qg v0];exact toHead _ hx.cc
   ·rw [qf v0];exact ⟨fun _=>(hh _ Ly Ly).resolve_left v0,fun k=>by simp at k,fun k=>by simp at k,fun k=>by simp at k,fun k=>by simp at k⟩
  ·rw [qf l1,qf l1];by_cases l2:x.line=2
   ·rw [qg l2,qg l2,rd hc h (hx.x2 (.inl l2)) Ly Nt];by_cases v0:g.M.F x.x 6=0
    ·rw [qg v0];exact ⟨fun k=>by simp at k,fun _=>h2 _ (hb.b2 l2) v0,fun k=>by simp at k,fun k=>by simp at k,fun k=>by simp at k⟩
    ·rw [qf v0];exact toHead _ hx.cc
   ·rw [qf l2,qf l2];by_cases l3:x.line=3
    ·rw [qg l3,qg l3];split
     ·exact ⟨fun k=>by simp at k,fun k=>by simp at k,fun _=>.inl (hb.b3 l3),fun k=>by simp at k,fun k=>by simp at k⟩
     ·exact toHead _ hx.cc
    ·rw [qf l3,qf l3];by_cases l5:x.line=5
     ·rw [qg l5,qg l5];rcases hx.c5 (.inl l5) with ⟨hK,hm⟩ | hh'
      ·have hB:B x.cur:=(hb.b5 (.inl l5)).resolve_right (fun e=>by rw [e] at hK;exact ko hc h hK);rw [rd hc h hK Ly Nt];unfold atW;by_cases e0:g.M.F x.cur 2 / 2=0
       ·rw [qg e0];exact ends _ hB
       ·rw [qf e0];exact ⟨fun k=>by simp at k,fun k=>by simp at k,fun _=>.inl hB,fun _=>(cl _ hB).resolve_left e0,fun k=>by simp at k⟩
      ·obtain ⟨a,ha,e1,e2⟩:=h.ki.hd
       have hp:qx s.l (wrap64 (x.cur+2))=2 * a:=by rw [hh',Zk Ox Oy,h.rel.hn,e1]
       rw [hp];have ea:atW (2 * a)=a:=by unfold atW;omega
       rw [ea,qf (by have:=h.ki.pos hc ha;omega)];have:B a:=by rw [e1,show 2 * a / 2=a by omega] at hd;exact hd
       exact ⟨fun k=>by simp at k,fun k=>by simp at k,fun _=>.inr hh',fun _=>this,fun k=>by simp at k⟩
     ·rw [qf l5,qf l5];have l6:x.line=6:=by omega
      obtain ⟨hn,hn1,hn2⟩:=hx.n6 l6;rw [rd0 hc h hn];split
      ·exact ⟨fun k=>by simp at k,fun k=>by simp at k,fun _=>.inl (hb.b6 l6),fun k=>by simp at k,fun k=>by simp at k⟩
      ·rename_i hv;rcases hb.b5 (.inr l6) with hB | hh'
       ·exact ends _ hB
       ·have:=hn1 hh';have:=hx.key;omega
 ·rw [qf hl];exact hb
structure ClI (c:Cf) (g:Gst) (x:Cl):Prop where
 cc:x.c=c
 K:g.K x.chunk
 key:g.M.F x.chunk 0<=x.key/\x.key<g.up x.chunk
 i3:3<=x.line->0<=x.i/\x.i<c.c
 own:3<=x.line/\x.line<=5->(g.M.F x.chunk (7+3 * x.i)=0\/g.M.F x.chunk (7+3 * x.i)=2)/\x.i<g.M.F x.chunk 1
 k4:4<=x.line/\x.line<=5->g.M.F x.chunk (8+3 * x.i)=x.key
 ln:0<=x.line/\x.line<=8
 B:Bn g x.chunk
def Cl.mine (x:Cl):Int->Int->Prop:=fun a i=>(3<=x.line/\x.line<=5)/\a=x.chunk/\i=x.i
theorem ClI.keep {g':Gst} {l':List Int} {mc:Int->Int->Prop} {mp:Int->Prop} {x:Cl} (h:ClI c g x) (e:Goes c g l g' l' mc mp) (hm:∀ a i,x.mine a i->¬ mc a i):ClI c g' x:=by
 refine ⟨h.cc,e.ext.K _ h.K,?_,h.i3,fun k=>?_,fun k=>?_,h.ln,e.ext.bn _ h.B⟩
 ·rw [e.ext.mn _ h.K,e.ext.up _ h.K];exact h.key
 ·obtain ⟨h1,h2⟩:=h.own k;have h3:=h.i3 k.1;exact ⟨(e.kp.cell _ _ h.K h3.1 h3.2 (hm _ _ ⟨k,rfl,rfl⟩) h1).1,Int.lt_of_lt_of_le h2 (e.ext.ct _ h.K)⟩
 ·have k':3<=x.line/\x.line<=5:=⟨by omega,k.2⟩;obtain ⟨h1,h2⟩:=h.own k';have h3:=h.i3 k'.1;rw [(e.kp.cell _ _ h.K h3.1 h3.2 (hm _ _ ⟨k',rfl,rfl⟩) h1).2];exact h.k4 k
theorem ClI.rest {g':Gst} {x y:Cl} (hx:ClI c g x) (e:Ext c g g') (h1:y.c=x.c) (h2:y.chunk=x.chunk) (h3:y.key=x.key) (h4:3<=y.line->0<=y.i/\y.i<c.c) (h5:y.line<3\/5<y.line) (h6:0<=y.line/\y.line<=8):ClI c g' y :=
 ⟨h1.trans hx.cc,by rw [h2];exact e.K _ hx.K,by rw [h2,h3,e.mn _ hx.K,e.up _ hx.K];exact hx.key,h4,fun k=>by omega,fun k=>by omega,h6,by rw [h2];exact e.bn _ hx.B⟩
theorem ClI.step (hc:c.Ok) {s:St} (h:OkG c g s.l) (hB:∀ a,g.K a->0<=g.M.F a 1/\g.M.F a 1<=900000000) {x:Cl} (hx:ClI c g x):∃ g',Goes c g s.l g' (x.step s).2.l x.mine no1/\ClI c g' (x.step s).1/\(∀ a i,(x.step s).1.mine a i->x.mine a i\/(x.line=2/\a=x.chunk/\i=g.M.F a 1)):=by
 have hsz:=xk hc;have hK:=hx.K;have hkb:=Kq hc h hK;have hb:=hB _ hK;unfold Cl.step;by_cases hl:x.live=true
 ·rw [qg hl];simp only;unfold Cl.live at hl;simp only [Bool.and_eq_true,decide_eq_true_eq] at hl;have same:Goes c g s.l g s.l x.mine no1:=Goes.same h _ _;have nomine:∀ (y:Cl) (a i:Int),(y.line<3\/5<y.line)->y.mine a i->x.mine a i\/(x.line=2/\a=x.chunk/\i=g.M.F a 1):=fun y a i k1 k2=>by obtain ⟨k2,-⟩:=k2;omega
  unfold Cl.act Cl.told Cl.next;by_cases l1:x.line=1
  ·rw [qg l1,qg l1,qg l1];split
   ·exact Bj
   ·exact Bj
  ·rw [qf l1,qf l1,qf l1];by_cases l2:x.line=2
   ·rw [qg l2,qg l2,qg l2];have e1:=rd hc h hK (f:=1) Ly Ly;have hw:wrap64 (x.chunk+1)=x.chunk+1:=Zk Ly Ly;have hw2:wrap64 (g.M.F x.chunk 1+1)=g.M.F x.chunk 1+1:=Zk Ly Ly;rw [e1,qd3,e1,hw,hw2];have G:=(q3e hc h hK (v:=g.M.F x.chunk 1+1) Ly Ly).weak (mc':=x.mine) (mp':=no1) (fun _ _ k=>k.elim) (fun _ k=>k);by_cases hv:0<=g.M.F x.chunk 1/\g.M.F x.chunk 1<x.c.c
    ·rw [qg hv];have e7:(g.set x.chunk 1 (g.M.F x.chunk 1+1)).M.F x.chunk (7+3 * g.M.F x.chunk 1)=g.M.F x.chunk (7+3 * g.M.F x.chunk 1):=xg Ly;have e11:(g.set x.chunk 1 (g.M.F x.chunk 1+1)).M.F x.chunk 1=g.M.F x.chunk 1+1:=upd_same _ _ _ _;rw [hx.cc] at hv;refine ⟨_,G,⟨hx.cc,hK,?_,fun _=>hv,fun _=>?_,fun k=>by simp at k,by simp,G.ext.bn _ hx.B⟩,fun a i k=>?_⟩
     ·have e0:(g.set x.chunk 1 (g.M.F x.chunk 1+1)).M.F x.chunk 0=g.M.F x.chunk 0:=xg Ly;show (g.set x.chunk 1 (g.M.F x.chunk 1+1)).M.F x.chunk 0<=_/\_;rw [e0];exact hx.key
     ·show ((g.set x.chunk 1 (g.M.F x.chunk 1+1)).M.F x.chunk (7+3 * g.M.F x.chunk 1)=0\/(g.set x.chunk 1 (g.M.F x.chunk 1+1)).M.F x.chunk (7+3 * g.M.F x.chunk 1)=2)/\g.M.F x.chunk 1<(g.set x.chunk 1 (g.M.F x.chunk 1+1)).M.F x.chunk 1;rw [e7,e11];exact ⟨h.ki.cf _ _ hK hv.1 hv.2 (Int.le_refl _),by omega⟩
     ·obtain ⟨-,rfl,rfl⟩:=k;exact .inr ⟨l2,rfl,rfl⟩
    ·rw [qf hv];exact ⟨_,G,hx.rest G.ext rfl rfl rfl (fun k=>by simp at k) (.inl Ma) Ma,fun a i k=>nomine _ a i (.inl Ma) k⟩
   ·rw [qf l2,qf l2];have h3:=hx.i3 Ly;obtain ⟨sa,sz7,sz9⟩:=q8e hc h hK h3;have hsa:x.sa=x.chunk+(7+3 * x.i):=sa;have hrd:qx s.l x.sa=g.M.F x.chunk (7+3 * x.i):=by rw [hsa];exact h.rel.F _ hK _ Ly Ly
    by_cases l3:x.line=3
    ·obtain ⟨o1,o2⟩:=hx.own Ly;rw [qg l3,qf l2,qg l3,Xd,hsa,Zk Ly Ly,show x.chunk+(7+3 * x.i)+1=x.chunk+(8+3 * x.i) by omega];have G:=Yb hc h hK h3 (o:=8) (v:=x.key) (.inr (.inl rfl)) Ly ⟨fun k=>by omega,fun _=>by omega,fun k=>by omega⟩;refine ⟨_,G.weak (fun a i k=>⟨by omega,k.1,k.2⟩) (fun _ k=>k),⟨hx.cc,hK,?_,fun _=>h3,fun _=>?_,fun _=>upd_same _ _ _ _,by simp,G.ext.bn _ hx.B⟩,fun a i k=>.inl ⟨by omega,k.2⟩⟩
     ·rw [G.ext.mn _ hK,G.ext.up _ hK];exact hx.key
     ·have e7:(g.set x.chunk (8+3 * x.i) x.key).M.F x.chunk (7+3 * x.i)=g.M.F x.chunk (7+3 * x.i):=xg Ly;exact ⟨by show (g.set x.chunk (8+3 * x.i) x.key).M.F x.chunk (7+3 * x.i)=0\/(g.set x.chunk (8+3 * x.i) x.key).M.F x.chunk (7+3 * x.i)=2;rw [e7];exact o1,Int.lt_of_lt_of_le o2 (G.ext.ct _ hK)⟩
    ·rw [qf l3];by_cases l4:x.line=4
     ·obtain ⟨o1,o2⟩:=hx.own Ly;have hk4:=hx.k4 Ly;rw [qg l4,qf l2,qf l3,qg l4,Xd,hsa,Zk Ly Ly,show x.chunk+(7+3 * x.i)+2=x.chunk+(9+3 * x.i) by omega];have G:=Yb hc h hK h3 (o:=9) (v:=x.data) (.inr (.inr rfl)) Ly ⟨fun k=>by omega,fun k=>by omega,fun k=>by omega⟩;have e7:(g.set x.chunk (9+3 * x.i) x.data).M.F x.chunk (7+3 * x.i)=g.M.F x.chunk (7+3 * x.i):=xg Ly;have e8:(g.set x.chunk (9+3 * x.i) x.data).M.F x.chunk (8+3 * x.i)=g.M.F x.chunk (8+3 * x.i):=xg Ly;refine ⟨_,G.weak (fun a i k=>⟨by omega,k.1,k.2⟩) (fun _ k=>k),⟨hx.cc,hK,?_,fun _=>h3,fun _=>?_,fun _=>?_,by simp,G.ext.bn _ hx.B⟩,fun a i k=>.inl ⟨by omega,k.2⟩⟩
      ·rw [G.ext.mn _ hK,G.ext.up _ hK];exact hx.key
      ·exact ⟨by show (g.set x.chunk (9+3 * x.i) x.data).M.F x.chunk (7+3 * x.i)=0\/(g.set x.chunk (9+3 * x.i) x.data).M.F x.chunk (7+3 * x.i)=2;rw [e7];exact o1,Int.lt_of_lt_of_le o2 (G.ext.ct _ hK)⟩
      ·exact e8.trans hk4
     ·rw [qf l4];by_cases l5:x.line=5
      ·obtain ⟨o1,o2⟩:=hx.own Ly;have hk4:=hx.k4 Ly;rw [qg l5,qg l5,qf l2,qf l3,qf l4,qg l5];cases hcn:s.can x.sa 0 with
       | true =>
        have hp:=kr hcn;rw [hrd] at hp;simp only [if_true];rw [jq hcn,hsa];have G:=Yb hc h hK h3 (o:=7) (v:=1) (.inl rfl) Ly ⟨fun _=>.inr (.inr (by rw [hk4];exact hx.key)),fun k=>by omega,fun _=>.inr o2⟩;exact ⟨_,G.weak (fun a i k=>⟨by omega,k.1,k.2⟩) (fun _ k=>k),hx.rest G.ext rfl rfl rfl (fun _=>h3) (.inr Ma) Ma,fun a i k=>nomine _ a i (.inr Ma) k⟩
       | false =>
        simp only [Bool.false_eq_true,if_false];rw [Qa hcn];exact Bj
      ·rw [qf l5,qf l5];by_cases l6:x.line=6
       ·rw [qg l6,qg l6,qf l2,qf l3,qf l4,qf l5,qg l6];exact Dt
       ·rw [qf l6,qf l6];by_cases l7:x.line=7
        ·rw [qg l7,qf l2,qf l3,qf l4,qf l5,qf l6,qg l7];cases hcn:s.can x.sa 1 with
         | true =>
          have hp:=kr hcn;rw [hrd] at hp;rw [jq hcn,hsa];have G:=(Y6 hc h hK h3 (v:=yg x.g) (.inr ⟨hp,Y9 _⟩)).weak (mc':=x.mine) (mp':=no1) (fun _ _ k=>k.elim) (fun _ k=>k);exact ⟨_,G,hx.rest G.ext rfl rfl rfl (fun _=>h3) (.inr Ma) Ma,fun a i k=>nomine _ a i (.inr Ma) k⟩
         | false =>
          rw [Qa hcn];exact Dt
        ·rw [qf l7,qf l2,qf l3,qf l4,qf l5,qf l6,qf l7];exact Bj
 ·rw [qf hl];exact ⟨g,Goes.same h _ _,hx,fun a i k=>.inl k⟩
end
end Go.Proofs.YtbddhncgemeohaaGreatDoor.Mx
