/- Parts. -/
import Derived.Test.YtleclbldlladmaaGreatVba
set_option linter.unusedVariables false
set_option linter.unusedSimpArgs false
set_option maxRecDepth 100000
set_option maxHeartbeats 12800000
namespace Go.Proofs.YtleclbldlladmaaGreat.Mx
open Go.RowKit Ar Ref Og Mp
def mkM (m:Mc) (s:St) (n k:Nat) (X:Th) (V:Ev):Mc:={ m with a:=s,t:=m.t.set n X,e:=m.e.set k V }
def mkY (y:Lay) (n k:Nat) (Z:Tv) (V:Evv):Lay:={ y with ts:=y.ts.set n Z,es:=y.es.set k V }
structure MK (N0:Nat->Prop) (own:Nat->Nat) (w:World) (b:Nat) (m:Mc) (y:Lay) (n k g c:Nat) (s:St) (X:Th) (Z:Tv) (V:Evv):Prop where
 h:jc N0 own w b (mkM m s n k X V.e) (mkY y n k Z V)
 n:n<y.ts.length
 k:k<y.es.length
 ev:y.ev = .slice (some ⟨g,0,none⟩) y.es.length c
section
variable {N0:Nat->Prop} {own:Nat->Nat} {w:World} {b:Nat} {m:Mc} {y:Lay} {n k g c:Nat} {s:St} {X:Th} {Z:Tv} {V:Evv}
theorem MK.of (h:jc N0 own w b { m with a:=s,t:=m.t.set n X } y) (hz:y.ts[n]? = some Z) (hv:y.es[k]? = some V) (hm:m.e[k]? = some V.e) (hev:y.ev = .slice (some ⟨g,0,none⟩) y.es.length c):MK N0 own w b m y n k g c s X Z V:=by refine ⟨?_,(List.getElem?_eq_some_iff.1 hz).1,(List.getElem?_eq_some_iff.1 hv).1,hev⟩;unfold mkM mkY;rw [Xn hz,Xn hv,Xn hm];exact h
theorem MK.up {w':World} (h:MK N0 own w b m y n k g c s X Z V) (F:Fr [] w w'):MK N0 own w' b m y n k g c s X Z V:=⟨h.h.up F,h.n,h.k,h.ev⟩
theorem MK.xo (h:MK N0 own w b m y n k g c s X Z V) (col:Nat) (hN:ju N0 w.heap.size):MK N0 (Mx.xo own w.heap.size col) w b m y n k g c s X Z V:=⟨h.h.xo col hN,h.n,h.k,h.ev⟩
theorem MK.setE (h:MK N0 own w b m y n k g c s X Z V) {j:Nat} {u:Value} {V':Evv} (hj:j<18) (hf:fEv V'=(fEv V).set j u) (ha:Sq fQ w V'.s.v V'.e.ans.pairs/\(V'.e.ans.pairs≠[]->∀ k,k∈V'.s.v.ownBlock.toList->own k=0)) :
  MK N0 own (w.setCell ⟨g,k * 18+j,none⟩ u) b m y n k g c s X Z V'/\FrO N0 w (w.setCell ⟨g,k * 18+j,none⟩ u):=by
 obtain ⟨h1,h2⟩:=jc.setE2 (m:={ m with a:=s,t:=m.t.set n X }) (y:={ y with ts:=y.ts.set n Z }) h.h h.k (x':=V') h.ev hj hf ha;exact ⟨⟨h1,h.n,h.k,h.ev⟩,h2⟩
theorem MK.ans (h:MK N0 own w b m y n k g c s X Z V):Sq fQ w V.s.v V.e.ans.pairs/\(V.e.ans.pairs≠[]->∀ k,k∈V.s.v.ownBlock.toList->own k=0):=h.h.ansAt (k:=k) (List.getElem?_set_self h.k)
theorem MK.setN (h:MK N0 own w b m y n k g c s X Z V) {j:Nat} {u:Value} {e':Ev} (hj:j<18) (hf:fEv ⟨e',V.s⟩=(fEv V).set j u) (ha:e'.ans.pairs=V.e.ans.pairs) :
  MK N0 own (w.setCell ⟨g,k * 18+j,none⟩ u) b m y n k g c s X Z ⟨e',V.s⟩/\FrO N0 w (w.setCell ⟨g,k * 18+j,none⟩ u) :=
 h.setE hj hf (by rw [ha];exact h.ans)
theorem MK.setA (h:MK N0 own w b m y n k g c s X Z V) (a:An) (sv:Sv) (hs:Sq fQ w sv.v a.pairs) (hc:a.pairs≠[]->∀ k,k∈sv.v.ownBlock.toList->own k=0) (hg:own g=5) :
  MK N0 own ((((((w.setCell ⟨g,k * 18+12,none⟩ (.int .i64 a.code)).setCell ⟨g,k * 18+13,none⟩ (.bool a.found)).setCell ⟨g,k * 18+14,none⟩ (.int .i64 a.val)).setCell ⟨g,k * 18+15,none⟩ (.int .i64 a.writer)).setCell ⟨g,k * 18+16,none⟩ (.int .i64 a.version)).setCell ⟨g,k * 18+17,none⟩ sv.v) b m y n k g c s X Z ⟨{ V.e with ans:=a },sv⟩ /\
   FrO N0 w ((((((w.setCell ⟨g,k * 18+12,none⟩ (.int .i64 a.code)).setCell ⟨g,k * 18+13,none⟩ (.bool a.found)).setCell ⟨g,k * 18+14,none⟩ (.int .i64 a.val)).setCell ⟨g,k * 18+15,none⟩ (.int .i64 a.writer)).setCell ⟨g,k * 18+16,none⟩ (.int .i64 a.version)).setCell ⟨g,k * 18+17,none⟩ sv.v):=by
 obtain ⟨h1,f1⟩:=h.setN (j:=12) (u:=.int .i64 a.code) (e':={ V.e with ans:={ V.e.ans with code:=a.code } }) Lg Ly rfl;obtain ⟨h2,f2⟩:=h1.setN (j:=13) (u:=.bool a.found) (e':={ V.e with ans:={ V.e.ans with code:=a.code,found:=a.found } }) Lg Ly rfl;obtain ⟨h3,f3⟩:=h2.setN (j:=14) (u:=.int .i64 a.val) (e':={ V.e with ans:={ V.e.ans with code:=a.code,found:=a.found,val:=a.val } }) Lg Ly rfl;obtain ⟨h4,f4⟩:=h3.setN (j:=15) (u:=.int .i64 a.writer) (e':={ V.e with ans:={ V.e.ans with code:=a.code,found:=a.found,val:=a.val,writer:=a.writer } }) Lg Ly rfl;obtain ⟨h5,f5⟩:=h4.setN (j:=16) (u:=.int .i64 a.version) (e':={ V.e with ans:={ V.e.ans with code:=a.code,found:=a.found,val:=a.val,writer:=a.writer,version:=a.version } }) Lg Ly rfl;have F:Fr [g] w (((((w.setCell ⟨g,k * 18+12,none⟩ (.int .i64 a.code)).setCell ⟨g,k * 18+13,none⟩ (.bool a.found)).setCell ⟨g,k * 18+14,none⟩ (.int .i64 a.val)).setCell ⟨g,k * 18+15,none⟩ (.int .i64 a.writer)).setCell ⟨g,k * 18+16,none⟩ (.int .i64 a.version)):=((((Fr.setCell _ Lc).setCell' _ Lc).setCell' _ Lc).setCell' _ Lc).setCell' _ Lc;obtain ⟨h6,f6⟩:=h5.setE (j:=17) (u:=sv.v) (V':=⟨{ V.e with ans:=a },sv⟩) Lg Ly ⟨hs.keptN F (fun hne i hi hm=>by simp at hm;subst hm;have:=hc hne _ hi;omega),hc⟩;exact ⟨h6,f1.trans (f2.trans (f3.trans (f4.trans (f5.trans f6))))⟩
theorem MK.rest (h:MK N0 own w b m y n k g c s X Z V):MK N0 own (w.setCell ⟨y.tb,n * 6+1,none⟩ (.bool false)) b m y n k g c s { X with busy:=false } { Z with busy:=false } V/\FrO N0 w (w.setCell ⟨y.tb,n * 6+1,none⟩ (.bool false)):=by
 have hn:n<m.t.length:=by have h1:=h.h.thl;have h2:=h.n;unfold mkM mkY at h1;simp at h1;omega
 have hth:qdp X Z:=(h.h.thr n X Z (by unfold mkM;exact List.getElem?_set_self hn) (by unfold mkY;exact List.getElem?_set_self h.n)).choose_spec.1.1;obtain ⟨h1,h2⟩:=jc.setT2 (m:={ m with a:=s,e:=m.e.set k V.e }) (y:={ y with es:=y.es.set k V }) (t:=n) (x0:=X) (z0:=Z) h.h hn (j:=1) (u:=.bool false) (x':={ X with next:=X.next,busy:=false,scans:=X.scans }) (z':={ Z with next:=X.next,busy:=false,scans:=X.scans }) Lg (by simp [fTv,hth.1,hth.2.2]) (fun w' F=>by obtain ⟨B,k1,k2⟩:=jc.thK2 (m:={ m with a:=s,e:=m.e.set k V.e }) (y:={ y with es:=y.es.set k V }) h.h hn w' F;exact ⟨B,k1.num _ _ _,k2⟩);refine ⟨⟨?_,h.n,h.k,h.ev⟩,h2⟩;have ez:({ Z with next:=X.next,busy:=false,scans:=X.scans }:Tv) = { Z with busy:=false }:=by rw [<- hth.1,<- hth.2.2]
 rw [ez] at h1;exact h1
theorem MK.og (h:MK N0 own w b m y n k g c s X Z V):own g=5:=h.h.evo g (by unfold mkY;simp only;rw [h.ev];simp [Value.ownBlock])
theorem MK.mc (h:MK N0 own w b m y n k g c s X Z V):w.cell? ⟨b,7,none⟩=some (.pointer (some ⟨y.p,0,none⟩))/\w.cell? ⟨b,8,none⟩=some (.slice (some ⟨y.tb,0,none⟩) y.ts.length y.ts.length)/\w.cell? ⟨b,9,none⟩=some (.int .i64 m.now)/\w.cell? ⟨b,12,none⟩=some (.slice (some ⟨g,0,none⟩) y.es.length c):=by obtain ⟨-,-,-,-,-,-,-,c7,c8,c9,-,-,c12⟩:=zw h.h.ob;unfold mkM mkY Mx.Lay.tv at *;simp only [List.length_set] at c7 c8 c9 c12;rw [h.ev] at c12;exact ⟨c7,c8,c9,c12⟩
theorem MK.tc (h:MK N0 own w b m y n k g c s X Z V):w.cell? ⟨y.tb,n * 6+1,none⟩=some (.bool Z.busy)/\w.cell? ⟨y.tb,n * 6+3,none⟩=some (vg Z.pp)/\w.cell? ⟨y.tb,n * 6+4,none⟩=some (vg Z.gp)/\w.cell? ⟨y.tb,n * 6+5,none⟩=some (vg Z.sp)/\∀ i,w.frozen? ⟨y.tb,i,none⟩=false:=by
 have hz:(mkY y n k Z V).ts[n]? = some Z:=by unfold mkY;exact List.getElem?_set_self h.n
 exact ⟨xj h.h.th hz (j:=1) Lg rfl,xj h.h.th hz (j:=3) Lg rfl,xj h.h.th hz (j:=4) Lg rfl,xj h.h.th hz (j:=5) Lg rfl,h.h.th.frozen⟩
theorem MK.ec (h:MK N0 own w b m y n k g c s X Z V):(∀ j u,(fEv V)[j]? = some u->w.cell? ⟨g,k * 18+j,none⟩=some u)/\∀ i,w.frozen? ⟨g,i,none⟩=false:=by
 have hv:(mkY y n k Z V).es[k]? = some V:=by unfold mkY;exact List.getElem?_set_self h.k
 obtain ⟨g',c',e,-,h3,h4⟩:=h.h.ev_open hv;have e2:(mkY y n k Z V).ev = .slice (some ⟨g,0,none⟩) y.es.length c:=h.ev;rw [e2] at e;simp only [Value.slice.injEq,Option.some.injEq,Addr.mk.injEq] at e;obtain ⟨⟨rfl,-⟩,-⟩:=e;exact ⟨h3,h4⟩
theorem MK.ne (h:MK N0 own w b m y n k g c s X Z V):¬ b=g/\¬ b=y.tb/\¬ y.tb=g:=by have h1:=h.h.cb;have h2:own y.tb=4:=h.h.ct;have h3:=h.og;exact ⟨fun e=>by rw [e] at h1;omega,fun e=>by rw [e] at h1;omega,fun e=>by rw [e] at h2;omega⟩
end
theorem Y0 (g:Gt):g.answer.pairs=[]:=by
 unfold Gt.answer Xw Vt;split
 ·split
  ·split <;> rfl
  rfl
 ·rfl
theorem qad {N0:Nat->Prop} {own:Nat->Nat} {w:World} {b:Nat} {m:Mc} {y:Lay} {N:Nat} (hI:MInv N m) (hN:N<=4000000) (h:jc N0 own w b m y) (hN0:ju N0 w.heap.size) {n k:Nat} {x:Th} {ve:Ev} (hx:m.t[n]? = some x) (hv:m.e[k]? = some ve) (P:Pt) (hp:x.p=some P) :
  Calls Tryz.prog 50 #[.pointer (some ⟨b,0,none⟩),.int .i64 n,.int .i64 k] w (Vs N0 w b (m.steps (n:Int) k) (.tuple #[])):=by
 have hn:=(List.getElem?_eq_some_iff.1 hx).1;obtain ⟨z,hz⟩:∃ z,y.ts[n]? = some z:=⟨y.ts[n]'(by rw [h.thl];exact hn),List.getElem?_eq_getElem _⟩;obtain ⟨⟨ve',vs⟩,hV,rfl⟩:=h.ev_at hv;simp only at hv;obtain ⟨B,hth,hBc⟩:=h.thr n x z hx hz;obtain ⟨hIs,⟨P0,pb,ep,eg,es,z1,z2,z3,hP⟩ | ⟨_,_,ep,_⟩ | ⟨_,_,ep,_⟩ | ⟨ep,_⟩⟩:=hth;rotate_left
 ·rw [hp] at ep;cases ep
 ·rw [hp] at ep;cases ep
 ·rw [hp] at ep;cases ep
 obtain rfl:P0=P:=by rw [hp] at ep;exact (qi ep).symm
 obtain ⟨g,c,hev,-,-,-⟩:=h.ev_open hV;generalize hX:m.steps (n:Int) k=X;have HX:=q9 hX;have HI:=q9 hI;have hsteps:=hI.es ve' (List.mem_of_getElem? hv);have HTH:=q9 (show m.th (n:Int)=x by unfold Mc.th;rw [Int.toNat_natCast,List.getD_eq_getElem?_getD,hx];rfl);have HGD:=q9 (show m.e.getD k qa6=ve' by rw [List.getD_eq_getElem?_getD,hv];rfl);clear hX hI;have hpB:y.p∉B:=fun hi=>by have:=hBc _ hi;have:=h.cp;omega
 have hqB:y.q∉B:=fun hi=>by have:=hBc _ hi;have:=h.cq;omega
 have hpR:y.p∉y.R:=fun hi=>by have:=h.R0 _ hi;have:=h.cp;omega
 have hqR:y.q∉y.R:=fun hi=>by have:=h.R0 _ hi;have:=h.cq;omega
 obtain ⟨-,-,-,-,-,-,-,c7,c8,-,-,-,-⟩:=zw h.ob;unfold Lay.tv at c8;have t3:=xj h.th hz (j:=3) Lg rfl;have t4:=xj h.th hz (j:=4) Lg rfl;have t5:=xj h.th hz (j:=5) Lg rfl;rw [z1] at t3;rw [z2] at t4;rw [z3] at t5;unfold vg at t3 t4 t5;simp only at t3 t4 t5;have hlz:(n:Int)<(y.ts.length:Int):=by rw [h.thl];omega
 have HH:=q9 (qc hx (qc hz (qc hV (qc hv (qc hev (qc hp (qc hIs (qc eg es))))))));have hklz:(k:Int)<(y.es.length:Int):=by have:=(List.getElem?_eq_some_iff.1 hV).1;omega
 have HBC:=q9 hBc;have HZ:=q9 (qc z1 (qc z2 z3));have HHP:=q9 hP;have HM:=q9 h;have HNN:=q9 (qc hpB (qc hqB (qc hpR hqR)));clear hx hz hV hv hev hp hIs eg es hBc z1 z2 z3 ep hP h hpB hqB hpR hqR hn;go_enter Tryz.func50,Tryz.ntmps50;go_wp2_with fail;refine qp Le ?_;refine za [] w #[true,true,true,true,true,true,true,true,false,false] 8 2 rfl ?_;refine ja [true,true,true,true,true,true,true,true,false,false] 0 (n:=163) (listed':=#[true,true,true,true,true,true,true,true,false,false]) rfl Le Le Le Le rfl Le (fun _ _ d _ _ h=>by cases d <;> exact h) ((Fr.refl _ w).drew) ?_;apply qg;refine ⟨fun wf Ff=>?_,?_⟩
 ·exact Ie
 refine qy (k:=8) rfl Le (fun w2 F2=>?_);replace F2:=(Fr.refl [] w).drew.trans F2;obtain ⟨hx,hz,hV,hv,hev,hp,hIs,eg,es⟩:=HH.out;obtain ⟨hpB,hqB,hpR,hqR⟩:=HNN.out;obtain ⟨z1,z2,z3⟩:=HZ.out;have M2:=HM.out.up F2;have hP:=HHP.out;go_wp2_with fail;refine (q8r N Lb P0 ((HI.out.th n x hx).p P0 hp) y.R B pb y.p y.q m.a w2 (hP.kept F2 Lc Lc) M2.ar hpB hqB hpR hqR).mono ?_;rintro e w3 ⟨rfl,⟨B',hP3,hBn⟩,hA3,F3⟩;obtain ⟨S1,S2⟩:=M2.stepT (ju.up hN0 F2.size) hz HBC.out F3 hA3 (x':={ x with p:=some (P0.step m.a).1 }) ⟨hIs,.inl ⟨_,pb,rfl,eg,es,z1,z2,z3,hP3⟩⟩ hBn
 have hB'c:∀ k,k∈B'->xo own w2.heap.size (n+6) k=n+6:=fun k hk=>by
  rcases hBn k hk with e | e
  ·rw [xz]
   ·exact HBC.out k e
   exact (hP.kept F2 Lc Lc).lt k e
  ·exact yh e
 generalize xo own w2.heap.size (n+6)=own2 at *;have HF:=q9 ((FrO.of (N0:=N0) F2 Lc).trans S2);clear S2;generalize hP1:(P0.step m.a).1=P' at *;generalize hP2:(P0.step m.a).2=s' at *;have HQ:=q9 (qc hp (qc hP1 hP2));have HK:=q9 (MK.of S1 hz hV hv hev);obtain ⟨dv,wp,xp,mp,Bx,hO,-,-,-,-,-,rfl⟩:=hP3;have npg:¬ pb=g:=fun e=>by have h1:=hB'c pb Lc;have h2:=HK.out.og;rw [e] at h1;omega
 have npt:¬ pb=y.tb:=fun e=>by have h1:=hB'c pb Lc;have h2:own2 y.tb=4:=HK.out.h.ct;rw [e] at h1;omega
 have HP:=q9 hO;clear hO;have hbg:=HK.out.ne;obtain ⟨nbg,nbt,ntg⟩:=hbg;have nbg':¬ g=b:=fun e=>nbg e.symm
 have nbt':¬ y.tb=b:=fun e=>nbt e.symm
 have ntg':¬ g=y.tb:=fun e=>ntg e.symm
 clear S1 hP1 hP2 HH HM HBC HNN HHP hx hz hV hv hev hp hIs eg es hpB hqB hpR hqR z1 z2 z3 M2 hP F2 F3 hA3 hBn hB'c c7 c8 t3 t4 t5;cases hov:P'.over
 ·have HOV:=q9 hov;clear hov;cases hpl:P'.placed
  ·have HPL:=q9 hpl;clear hpl;obtain ⟨c7,c8,c9,c12⟩:=HK.out.mc;obtain ⟨t1,t3,t4,t5,zt⟩:=HK.out.tc;simp only [HZ.out.1,HZ.out.2.1,HZ.out.2.2,vg] at t3 t4 t5;obtain ⟨ec,zg⟩:=HK.out.ec;have e7:=ec 7 _ rfl;have e8:=ec 8 _ rfl;have e9:=ec 9 _ rfl;have e12:=ec 12 _ rfl;have e13:=ec 13 _ rfl;have e14:=ec 14 _ rfl;have e15:=ec 15 _ rfl;have e16:=ec 16 _ rfl;have e17:=ec 17 _ rfl;clear ec;obtain ⟨-,-,-,-,-,-,-,-,-,-,p10,p11,p12,p13⟩:=zn HP.out;rw [HOV.out] at p10;rw [HPL.out] at p13;go_wp2_with fail;obtain ⟨K0,G0⟩:=HK.out.setN (j:=8) (u:=.int .i64 (ve'.steps+1)) (e':={ ve' with steps:=ve'.steps+1 }) Lg Ly rfl;have HK2:=q9 K0;have HF2:=q9 (HF.out.trans G0);have HP2:=q9 (show Vk _ pb P' dv wp xp mp from (Ob.other HP.out npg (i:=k * 18+8) (.int .i64 (ve'.steps+1))));clear HP;clear HK HF K0 G0;have HK:=HK2;have HF:=HF2;clear HK2 HF2;have HP:=HP2;clear HP2;go_end0
   have e:X=mkM m s' n k ({ x with p:=some P' }) ({ ve' with steps:=ve'.steps+1 }):=Ej
   exact Dg
  have HPL:=q9 hpl;clear hpl;obtain ⟨c7,c8,c9,c12⟩:=HK.out.mc;obtain ⟨t1,t3,t4,t5,zt⟩:=HK.out.tc;simp only [HZ.out.1,HZ.out.2.1,HZ.out.2.2,vg] at t3 t4 t5;obtain ⟨ec,zg⟩:=HK.out.ec;have e7:=ec 7 _ rfl;have e8:=ec 8 _ rfl;have e9:=ec 9 _ rfl;have e12:=ec 12 _ rfl;have e13:=ec 13 _ rfl;have e14:=ec 14 _ rfl;have e15:=ec 15 _ rfl;have e16:=ec 16 _ rfl;have e17:=ec 17 _ rfl;clear ec;obtain ⟨-,-,-,-,-,-,-,-,-,-,p10,p11,p12,p13⟩:=zn HP.out;rw [HOV.out] at p10;rw [HPL.out] at p13;go_wp2_with fail;clear c7 c8 c9 c12 t1 t3 t4 t5 zt zg e7 e8 e9 e12 e13 e14 e15 e16 e17 p10 p11 p12 p13;refine qp Le ?_;refine za [] w3 #[true,true,true,true,true,true,true,true,true,false,false,false] 9 3 rfl ?_;refine lpq [true,true,true,true,true,true,true,true,true,false,false,false] 0 ((Fr.refl _ _).drew) ?_;apply qg;refine ⟨fun wf Ff=>?_,?_⟩
  ·obtain ⟨c7,c8,c9,c12⟩:=(HK.out.up Ff).mc;obtain ⟨t1,t3,t4,t5,-⟩:=(HK.out.up Ff).tc;simp only [HZ.out.1,HZ.out.2.1,HZ.out.2.2,vg] at t3 t4 t5;have k3:=qb t3;have k4:=qb t4;have k5:=qb t5;have k7:=qb c7;have k9:=qb c9;have k12:=qb c12;obtain ⟨-,-,-,-,-,-,-,-,-,-,p10,p11,p12,p13⟩:=zn (Ob.up HP.out Ff);have q11:=qb p11;have q12:=qb p12;exact Ab
  refine qy (k:=9) rfl Le (fun v1w FN=>?_);replace FN:=((Fr.refl [] w3).drew).trans FN;have HK2:=q9 (HK.out.up FN);have HF2:=q9 (HF.out.trans (FrO.of FN Lc));have HP2:=q9 (Ob.up HP.out FN);clear HK HF FN HP;have HK:=HK2;have HF:=HF2;clear HK2 HF2;have HP:=HP2;clear HP2;obtain ⟨c7,c8,c9,c12⟩:=HK.out.mc;obtain ⟨t1,t3,t4,t5,zt⟩:=HK.out.tc;simp only [HZ.out.1,HZ.out.2.1,HZ.out.2.2,vg] at t3 t4 t5;obtain ⟨ec,zg⟩:=HK.out.ec;have e7:=ec 7 _ rfl;have e8:=ec 8 _ rfl;have e9:=ec 9 _ rfl;have e12:=ec 12 _ rfl;have e13:=ec 13 _ rfl;have e14:=ec 14 _ rfl;have e15:=ec 15 _ rfl;have e16:=ec 16 _ rfl;have e17:=ec 17 _ rfl;clear ec;obtain ⟨-,-,-,-,-,-,-,-,-,-,p10,p11,p12,p13⟩:=zn HP.out;rw [HOV.out] at p10;rw [HPL.out] at p13;go_wp2_with fail;obtain ⟨K0,G0⟩:=HK.out.setN (j:=9) (u:=.int .i64 m.now) (e':={ ve' with alloc:=m.now }) Lg Ly rfl;obtain ⟨K1,G1⟩:=K0.setN (j:=8) (u:=.int .i64 (ve'.steps+1)) (e':={ ve' with alloc:=m.now,steps:=ve'.steps+1 }) Lg Ly rfl;have HK2:=q9 K1;have HF2:=q9 (HF.out.trans (G0.trans G1));have HP2:=q9 (show Vk _ pb P' dv wp xp mp from (Ob.other (Ob.other HP.out npg (i:=k * 18+9) (.int .i64 m.now)) npg (i:=k * 18+8) (.int .i64 (ve'.steps+1))));clear HP;clear HK HF K0 G0 K1 G1;have HK:=HK2;have HF:=HF2;clear HK2 HF2;have HP:=HP2;clear HP2;go_end0
  have e:X=mkM m s' n k ({ x with p:=some P' }) ({ ve' with alloc:=m.now,steps:=ve'.steps+1 }):=Ej
  exact Dg
 ·have HOV:=q9 hov;clear hov;by_cases he:P'.e=0
  ·have ge:(P'.e != 0)=false:=by simpa using he
   have HER:=q9 he;clear he;cases hpl:P'.placed
   focus
    have HPL:=q9 hpl
    clear hpl
    obtain ⟨c7,c8,c9,c12⟩:=HK.out.mc
    obtain ⟨t1,t3,t4,t5,zt⟩:=HK.out.tc
    simp only [HZ.out.1,HZ.out.2.1,HZ.out.2.2,vg] at t3 t4 t5
    obtain ⟨ec,zg⟩:=HK.out.ec
    have e7:=ec 7 _ rfl
    have e8:=ec 8 _ rfl
    have e9:=ec 9 _ rfl
    have e12:=ec 12 _ rfl
    have e13:=ec 13 _ rfl
    have e14:=ec 14 _ rfl
    have e15:=ec 15 _ rfl
    have e16:=ec 16 _ rfl
    have e17:=ec 17 _ rfl
    clear ec
    obtain ⟨-,-,-,-,-,-,-,-,-,-,p10,p11,p12,p13⟩:=zn HP.out
    rw [HOV.out] at p10
    rw [HPL.out] at p13
    go_wp2_with fail
    clear c7 c8 c9 c12 t1 t3 t4 t5 zt zg e7 e8 e9 e12 e13 e14 e15 e16 e17 p10 p11 p12 p13
    have hst:=hsteps
    generalize hve:(ve':Ev)=ve1 at HK
    have hst1:0<=ve1.steps/\ve1.steps<=N:=by rw [<- hve];exact hst
    have HVE:=q9 (show ve1=(if P'.placed=true then { ve' with alloc:=m.now } else ve') by simp [HPL.out,<- hve])
    clear hve hst hsteps
    generalize w3=u1w at *
   rotate_left
   focus
    have HPL:=q9 hpl
    clear hpl
    obtain ⟨c7,c8,c9,c12⟩:=HK.out.mc
    obtain ⟨t1,t3,t4,t5,zt⟩:=HK.out.tc
    simp only [HZ.out.1,HZ.out.2.1,HZ.out.2.2,vg] at t3 t4 t5
    obtain ⟨ec,zg⟩:=HK.out.ec
    have e7:=ec 7 _ rfl
    have e8:=ec 8 _ rfl
    have e9:=ec 9 _ rfl
    have e12:=ec 12 _ rfl
    have e13:=ec 13 _ rfl
    have e14:=ec 14 _ rfl
    have e15:=ec 15 _ rfl
    have e16:=ec 16 _ rfl
    have e17:=ec 17 _ rfl
    clear ec
    obtain ⟨-,-,-,-,-,-,-,-,-,-,p10,p11,p12,p13⟩:=zn HP.out
    rw [HOV.out] at p10
    rw [HPL.out] at p13
    go_wp2_with fail
    clear c7 c8 c9 c12 t1 t3 t4 t5 zt zg e7 e8 e9 e12 e13 e14 e15 e16 e17 p10 p11 p12 p13
    refine qp Le ?_
    refine za [] w3 #[true,true,true,true,true,true,true,true,true,false,false,false] 9 3 rfl ?_
    refine lpq [true,true,true,true,true,true,true,true,true,false,false,false] 0 ((Fr.refl _ _).drew) ?_
    apply qg
    refine ⟨fun wf Ff=>?_,?_⟩
    ·obtain ⟨c7,c8,c9,c12⟩:=(HK.out.up Ff).mc
     obtain ⟨t1,t3,t4,t5,-⟩:=(HK.out.up Ff).tc
     simp only [HZ.out.1,HZ.out.2.1,HZ.out.2.2,vg] at t3 t4 t5
     have k3:=qb t3
     have k4:=qb t4
     have k5:=qb t5
     have k7:=qb c7
     have k9:=qb c9
     have k12:=qb c12
     obtain ⟨-,-,-,-,-,-,-,-,-,-,p10,p11,p12,p13⟩:=zn (Ob.up HP.out Ff)
     have q11:=qb p11
     have q12:=qb p12
     simp only [sel]
     repeat (go_big_quiet_step (fail))
     exact wpQuiet_nil rfl
    refine qy (k:=9) rfl Le (fun v1w FN=>?_)
    replace FN:=((Fr.refl [] w3).drew).trans FN
    have HK2:=q9 (HK.out.up FN)
    have HF2:=q9 (HF.out.trans (FrO.of FN Lc))
    have HP2:=q9 (Ob.up HP.out FN)
    clear HK HF FN HP
    have HK:=HK2
    have HF:=HF2
    clear HK2 HF2
    have HP:=HP2
    clear HP2
    obtain ⟨c7,c8,c9,c12⟩:=HK.out.mc
    obtain ⟨t1,t3,t4,t5,zt⟩:=HK.out.tc
    simp only [HZ.out.1,HZ.out.2.1,HZ.out.2.2,vg] at t3 t4 t5
    obtain ⟨ec,zg⟩:=HK.out.ec
    have e7:=ec 7 _ rfl
    have e8:=ec 8 _ rfl
    have e9:=ec 9 _ rfl
    have e12:=ec 12 _ rfl
    have e13:=ec 13 _ rfl
    have e14:=ec 14 _ rfl
    have e15:=ec 15 _ rfl
    have e16:=ec 16 _ rfl
    have e17:=ec 17 _ rfl
    clear ec
    obtain ⟨-,-,-,-,-,-,-,-,-,-,p10,p11,p12,p13⟩:=zn HP.out
    rw [HOV.out] at p10
    rw [HPL.out] at p13
    go_wp2_with fail
    clear c7 c8 c9 c12 t1 t3 t4 t5 zt zg e7 e8 e9 e12 e13 e14 e15 e16 e17 p10 p11 p12 p13
    obtain ⟨K0,G0⟩:=HK.out.setN (j:=9) (u:=.int .i64 m.now) (e':={ ve' with alloc:=m.now }) Lg Ly rfl
    have HK2:=q9 K0
    have HF2:=q9 (HF.out.trans G0)
    have HP2:=q9 (show Vk _ pb P' dv wp xp mp from (Ob.other HP.out npg (i:=k * 18+9) (.int .i64 m.now)))
    clear HP
    clear HK HF K0 G0
    have HK:=HK2
    have HF:=HF2
    clear HK2 HF2
    have HP:=HP2
    clear HP2
    have hst:=hsteps
    generalize hve:({ ve' with alloc:=m.now }:Ev)=ve1 at HK
    have hst1:0<=ve1.steps/\ve1.steps<=N:=by rw [<- hve];exact hst
    have HVE:=q9 (show ve1=(if P'.placed=true then { ve' with alloc:=m.now } else ve') by simp [HPL.out,<- hve])
    clear hve hst hsteps
    generalize (v1w.setCell ⟨g,k * 18+9,none⟩ (.int .i64 m.now))=u1w at *
   rotate_left
   all_goals
    refine qp Le ?_
    refine za [] u1w #[true,true,true,true,true,true,true,true,true,true,true,true,true,false,false,false] 13 3 rfl ?_
    refine lpq [true,true,true,true,true,true,true,true,true,true,true,true,true,false,false,false] 0 ((Fr.refl _ _).drew) ?_
    apply qg
    refine ⟨fun wf Ff=>?_,?_⟩
    ·obtain ⟨c7,c8,c9,c12⟩:=(HK.out.up Ff).mc
     obtain ⟨t1,t3,t4,t5,-⟩:=(HK.out.up Ff).tc
     simp only [HZ.out.1,HZ.out.2.1,HZ.out.2.2,vg] at t3 t4 t5
     have k3:=qb t3
     have k4:=qb t4
     have k5:=qb t5
     have k7:=qb c7
     have k9:=qb c9
     have k12:=qb c12
     obtain ⟨-,-,-,-,-,-,-,-,-,-,p10,p11,p12,p13⟩:=zn (Ob.up HP.out Ff)
     have q11:=qb p11
     have q12:=qb p12
     simp only [sel]
     repeat (go_big_quiet_step (fail))
     exact wpQuiet_nil rfl
    refine qy (k:=13) rfl Le (fun v1w FN=>?_)
    replace FN:=((Fr.refl [] u1w).drew).trans FN
    have HK2:=q9 (HK.out.up FN)
    have HF2:=q9 (HF.out.trans (FrO.of FN Lc))
    have HP2:=q9 (Ob.up HP.out FN)
    clear HK HF FN HP
    have HK:=HK2
    have HF:=HF2
    clear HK2 HF2
    have HP:=HP2
    clear HP2
    obtain ⟨c7,c8,c9,c12⟩:=HK.out.mc
    obtain ⟨t1,t3,t4,t5,zt⟩:=HK.out.tc
    simp only [HZ.out.1,HZ.out.2.1,HZ.out.2.2,vg] at t3 t4 t5
    obtain ⟨ec,zg⟩:=HK.out.ec
    have e7:=ec 7 _ rfl
    have e8:=ec 8 _ rfl
    have e9:=ec 9 _ rfl
    have e12:=ec 12 _ rfl
    have e13:=ec 13 _ rfl
    have e14:=ec 14 _ rfl
    have e15:=ec 15 _ rfl
    have e16:=ec 16 _ rfl
    have e17:=ec 17 _ rfl
    clear ec
    obtain ⟨-,-,-,-,-,-,-,-,-,-,p10,p11,p12,p13⟩:=zn HP.out
    rw [HOV.out] at p10
    rw [HPL.out] at p13
    go_wp2_with fail
    clear c7 c8 c9 c12 t1 t3 t4 t5 zt zg e7 e8 e9 e12 e13 e14 e15 e16 e17 p10 p11 p12 p13
    obtain ⟨K0,G0⟩:=HK.out.setA (⟨0,false,0,-1,P'.version,[]⟩) ⟨none,0,0⟩ (Sq.nil _) (fun h=>absurd rfl h) HK.out.og
    simp only [Sv.v] at K0 G0
    obtain ⟨K1,G1⟩:=K0.setN (j:=8) (u:=.int .i64 (ve1.steps+1)) (e':={ ve1 with ans:=⟨0,false,0,-1,P'.version,[]⟩,steps:=ve1.steps+1 }) Lg Ly rfl
    obtain ⟨K2,G2⟩:=K1.rest
    have HK2:=q9 K2
    have HF2:=q9 (HF.out.trans (G0.trans (G1.trans G2)))
    have HP2:=q9 (show Vk _ pb P' dv wp xp mp from (Ob.other (Ob.other (Ob.other (Ob.other (Ob.other (Ob.other (Ob.other (Ob.other HP.out npg (i:=k * 18+12) (.int .i64 0)) npg (i:=k * 18+13) (.bool false)) npg (i:=k * 18+14) (.int .i64 0)) npg (i:=k * 18+15) (.int .i64 (-1))) npg (i:=k * 18+16) (.int .i64 P'.version)) npg (i:=k * 18+17) (.slice none 0 0)) npg (i:=k * 18+8) (.int .i64 (ve1.steps+1))) npt (i:=n * 6+1) (.bool false)))
    clear HP
    clear HK HF K0 G0 K1 G1 K2 G2
    have HK:=HK2
    have HF:=HF2
    clear HK2 HF2
    have HP:=HP2
    clear HP2
    generalize hve:({ ve1 with ans:=⟨0,false,0,-1,P'.version,[]⟩,steps:=ve1.steps+1 }:Ev)=ve2 at HK
    have HVA:=q9 (show ve2 = { ve1 with ans:=qcn P',steps:=ve1.steps+1 } by rw [<- hve];simp [qcn,HER.out])
    clear hve
    generalize ((((((((v1w.setCell ⟨g,k * 18+12,none⟩ (.int .i64 0)).setCell ⟨g,k * 18+13,none⟩ (.bool false)).setCell ⟨g,k * 18+14,none⟩ (.int .i64 0)).setCell ⟨g,k * 18+15,none⟩ (.int .i64 (-1))).setCell ⟨g,k * 18+16,none⟩ (.int .i64 P'.version)).setCell ⟨g,k * 18+17,none⟩ (.slice none 0 0)).setCell ⟨g,k * 18+8,none⟩ (.int .i64 (ve1.steps+1))).setCell ⟨y.tb,n * 6+1,none⟩ (.bool false))=u2w at *
    refine qp Le ?_
    refine za [] u2w #[true,true,true,true,true,true,true,true,true,false,false,false] 9 3 rfl ?_
    refine lpq [true,true,true,true,true,true,true,true,true,false,false,false] 0 ((Fr.refl _ _).drew) ?_
    apply qg
    refine ⟨fun wf Ff=>?_,?_⟩
    ·obtain ⟨c7,c8,c9,c12⟩:=(HK.out.up Ff).mc
     obtain ⟨t1,t3,t4,t5,-⟩:=(HK.out.up Ff).tc
     simp only [HZ.out.1,HZ.out.2.1,HZ.out.2.2,vg] at t3 t4 t5
     have k3:=qb t3
     have k4:=qb t4
     have k5:=qb t5
     have k7:=qb c7
     have k9:=qb c9
     have k12:=qb c12
     obtain ⟨-,-,-,-,-,-,-,-,-,-,p10,p11,p12,p13⟩:=zn (Ob.up HP.out Ff)
     have q11:=qb p11
     have q12:=qb p12
     simp only [sel]
     repeat (go_big_quiet_step (fail))
     exact wpQuiet_nil rfl
    refine qy (k:=9) rfl Le (fun v6w FN=>?_)
    replace FN:=((Fr.refl [] u2w).drew).trans FN
    have HK2:=q9 (HK.out.up FN)
    have HF2:=q9 (HF.out.trans (FrO.of FN Lc))
    have HP2:=q9 (Ob.up HP.out FN)
    clear HK HF FN HP
    have HK:=HK2
    have HF:=HF2
    clear HK2 HF2
    have HP:=HP2
    clear HP2
    obtain ⟨c7,c8,c9,c12⟩:=HK.out.mc
    obtain ⟨t1,t3,t4,t5,zt⟩:=HK.out.tc
    simp only [HZ.out.1,HZ.out.2.1,HZ.out.2.2,vg] at t3 t4 t5
    obtain ⟨ec,zg⟩:=HK.out.ec
    have e7:=ec 7 _ rfl
    have e8:=ec 8 _ rfl
    have e9:=ec 9 _ rfl
    have e12:=ec 12 _ rfl
    have e13:=ec 13 _ rfl
    have e14:=ec 14 _ rfl
    have e15:=ec 15 _ rfl
    have e16:=ec 16 _ rfl
    have e17:=ec 17 _ rfl
    clear ec
    obtain ⟨-,-,-,-,-,-,-,-,-,-,p10,p11,p12,p13⟩:=zn HP.out
    rw [HOV.out] at p10
    rw [HPL.out] at p13
    go_wp2_with fail
    obtain ⟨K0,G0⟩:=HK.out.setN (j:=7) (u:=.int .i64 m.now) (e':={ ve2 with end_:=m.now }) Lg Ly rfl
    have HK2:=q9 K0
    have HF2:=q9 (HF.out.trans G0)
    have HP2:=q9 (show Vk _ pb P' dv wp xp mp from (Ob.other HP.out npg (i:=k * 18+7) (.int .i64 m.now)))
    clear HP
    clear HK HF K0 G0
    have HK:=HK2
    have HF:=HF2
    clear HK2 HF2
    have HP:=HP2
    clear HP2
    go_end0
    have e:X=mkM m s' n k ({ x with p:=some P',busy:=false }) ({ ve2 with end_:=m.now }):=by
     rw [<- HX.out];unfold Mc.steps mkM;simp only [HTH.out,HGD.out,HQ.out.1];simp [HQ.out.2.1,HQ.out.2.2,HOV.out,HVA.out,HVE.out]
    rw [e]
    exact ⟨rfl,⟨_,_,HK.out.h⟩,HF.out⟩
  have ge:(P'.e != 0)=true:=by simpa using he
  have HER:=q9 he;clear he;cases hpl:P'.placed
  focus
   have HPL:=q9 hpl
   clear hpl
   obtain ⟨c7,c8,c9,c12⟩:=HK.out.mc
   obtain ⟨t1,t3,t4,t5,zt⟩:=HK.out.tc
   simp only [HZ.out.1,HZ.out.2.1,HZ.out.2.2,vg] at t3 t4 t5
   obtain ⟨ec,zg⟩:=HK.out.ec
   have e7:=ec 7 _ rfl
   have e8:=ec 8 _ rfl
   have e9:=ec 9 _ rfl
   have e12:=ec 12 _ rfl
   have e13:=ec 13 _ rfl
   have e14:=ec 14 _ rfl
   have e15:=ec 15 _ rfl
   have e16:=ec 16 _ rfl
   have e17:=ec 17 _ rfl
   clear ec
   obtain ⟨-,-,-,-,-,-,-,-,-,-,p10,p11,p12,p13⟩:=zn HP.out
   rw [HOV.out] at p10
   rw [HPL.out] at p13
   go_wp2_with fail
   clear c7 c8 c9 c12 t1 t3 t4 t5 zt zg e7 e8 e9 e12 e13 e14 e15 e16 e17 p10 p11 p12 p13
   have hst:=hsteps
   generalize hve:(ve':Ev)=ve1 at HK
   have hst1:0<=ve1.steps/\ve1.steps<=N:=by rw [<- hve];exact hst
   have HVE:=q9 (show ve1=(if P'.placed=true then { ve' with alloc:=m.now } else ve') by simp [HPL.out,<- hve])
   clear hve hst hsteps
   generalize w3=u1w at *
  rotate_left
  focus
   have HPL:=q9 hpl
   clear hpl
   obtain ⟨c7,c8,c9,c12⟩:=HK.out.mc
   obtain ⟨t1,t3,t4,t5,zt⟩:=HK.out.tc
   simp only [HZ.out.1,HZ.out.2.1,HZ.out.2.2,vg] at t3 t4 t5
   obtain ⟨ec,zg⟩:=HK.out.ec
   have e7:=ec 7 _ rfl
   have e8:=ec 8 _ rfl
   have e9:=ec 9 _ rfl
   have e12:=ec 12 _ rfl
   have e13:=ec 13 _ rfl
   have e14:=ec 14 _ rfl
   have e15:=ec 15 _ rfl
   have e16:=ec 16 _ rfl
   have e17:=ec 17 _ rfl
   clear ec
   obtain ⟨-,-,-,-,-,-,-,-,-,-,p10,p11,p12,p13⟩:=zn HP.out
   rw [HOV.out] at p10
   rw [HPL.out] at p13
   go_wp2_with fail
   clear c7 c8 c9 c12 t1 t3 t4 t5 zt zg e7 e8 e9 e12 e13 e14 e15 e16 e17 p10 p11 p12 p13
   refine qp Le ?_
   refine za [] w3 #[true,true,true,true,true,true,true,true,true,false,false,false] 9 3 rfl ?_
   refine lpq [true,true,true,true,true,true,true,true,true,false,false,false] 0 ((Fr.refl _ _).drew) ?_
   apply qg
   refine ⟨fun wf Ff=>?_,?_⟩
   ·obtain ⟨c7,c8,c9,c12⟩:=(HK.out.up Ff).mc
    obtain ⟨t1,t3,t4,t5,-⟩:=(HK.out.up Ff).tc
    simp only [HZ.out.1,HZ.out.2.1,HZ.out.2.2,vg] at t3 t4 t5
    have k3:=qb t3
    have k4:=qb t4
    have k5:=qb t5
    have k7:=qb c7
    have k9:=qb c9
    have k12:=qb c12
    obtain ⟨-,-,-,-,-,-,-,-,-,-,p10,p11,p12,p13⟩:=zn (Ob.up HP.out Ff)
    have q11:=qb p11
    have q12:=qb p12
    simp only [sel]
    repeat (go_big_quiet_step (fail))
    exact wpQuiet_nil rfl
   refine qy (k:=9) rfl Le (fun v1w FN=>?_)
   replace FN:=((Fr.refl [] w3).drew).trans FN
   have HK2:=q9 (HK.out.up FN)
   have HF2:=q9 (HF.out.trans (FrO.of FN Lc))
   have HP2:=q9 (Ob.up HP.out FN)
   clear HK HF FN HP
   have HK:=HK2
   have HF:=HF2
   clear HK2 HF2
   have HP:=HP2
   clear HP2
   obtain ⟨c7,c8,c9,c12⟩:=HK.out.mc
   obtain ⟨t1,t3,t4,t5,zt⟩:=HK.out.tc
   simp only [HZ.out.1,HZ.out.2.1,HZ.out.2.2,vg] at t3 t4 t5
   obtain ⟨ec,zg⟩:=HK.out.ec
   have e7:=ec 7 _ rfl
   have e8:=ec 8 _ rfl
   have e9:=ec 9 _ rfl
   have e12:=ec 12 _ rfl
   have e13:=ec 13 _ rfl
   have e14:=ec 14 _ rfl
   have e15:=ec 15 _ rfl
   have e16:=ec 16 _ rfl
   have e17:=ec 17 _ rfl
   clear ec
   obtain ⟨-,-,-,-,-,-,-,-,-,-,p10,p11,p12,p13⟩:=zn HP.out
   rw [HOV.out] at p10
   rw [HPL.out] at p13
   go_wp2_with fail
   clear c7 c8 c9 c12 t1 t3 t4 t5 zt zg e7 e8 e9 e12 e13 e14 e15 e16 e17 p10 p11 p12 p13
   obtain ⟨K0,G0⟩:=HK.out.setN (j:=9) (u:=.int .i64 m.now) (e':={ ve' with alloc:=m.now }) Lg Ly rfl
   have HK2:=q9 K0
   have HF2:=q9 (HF.out.trans G0)
   have HP2:=q9 (show Vk _ pb P' dv wp xp mp from (Ob.other HP.out npg (i:=k * 18+9) (.int .i64 m.now)))
   clear HP
   clear HK HF K0 G0
   have HK:=HK2
   have HF:=HF2
   clear HK2 HF2
   have HP:=HP2
   clear HP2
   have hst:=hsteps
   generalize hve:({ ve' with alloc:=m.now }:Ev)=ve1 at HK
   have hst1:0<=ve1.steps/\ve1.steps<=N:=by rw [<- hve];exact hst
   have HVE:=q9 (show ve1=(if P'.placed=true then { ve' with alloc:=m.now } else ve') by simp [HPL.out,<- hve])
   clear hve hst hsteps
   generalize (v1w.setCell ⟨g,k * 18+9,none⟩ (.int .i64 m.now))=u1w at *
  rotate_left
  all_goals
   refine qp Le ?_
   refine za [] u1w #[true,true,true,true,true,true,true,true,true,true,true,true,true,false,false,false] 13 3 rfl ?_
   refine lpq [true,true,true,true,true,true,true,true,true,true,true,true,true,false,false,false] 0 ((Fr.refl _ _).drew) ?_
   apply qg
   refine ⟨fun wf Ff=>?_,?_⟩
   ·obtain ⟨c7,c8,c9,c12⟩:=(HK.out.up Ff).mc
    obtain ⟨t1,t3,t4,t5,-⟩:=(HK.out.up Ff).tc
    simp only [HZ.out.1,HZ.out.2.1,HZ.out.2.2,vg] at t3 t4 t5
    have k3:=qb t3
    have k4:=qb t4
    have k5:=qb t5
    have k7:=qb c7
    have k9:=qb c9
    have k12:=qb c12
    obtain ⟨-,-,-,-,-,-,-,-,-,-,p10,p11,p12,p13⟩:=zn (Ob.up HP.out Ff)
    have q11:=qb p11
    have q12:=qb p12
    simp only [sel]
    repeat (go_big_quiet_step (fail))
    exact wpQuiet_nil rfl
   refine qy (k:=13) rfl Le (fun v1w FN=>?_)
   replace FN:=((Fr.refl [] u1w).drew).trans FN
   have HK2:=q9 (HK.out.up FN)
   have HF2:=q9 (HF.out.trans (FrO.of FN Lc))
   have HP2:=q9 (Ob.up HP.out FN)
   clear HK HF FN HP
   have HK:=HK2
   have HF:=HF2
   clear HK2 HF2
   have HP:=HP2
   clear HP2
   obtain ⟨c7,c8,c9,c12⟩:=HK.out.mc
   obtain ⟨t1,t3,t4,t5,zt⟩:=HK.out.tc
   simp only [HZ.out.1,HZ.out.2.1,HZ.out.2.2,vg] at t3 t4 t5
   obtain ⟨ec,zg⟩:=HK.out.ec
   have e7:=ec 7 _ rfl
   have e8:=ec 8 _ rfl
   have e9:=ec 9 _ rfl
   have e12:=ec 12 _ rfl
   have e13:=ec 13 _ rfl
   have e14:=ec 14 _ rfl
   have e15:=ec 15 _ rfl
   have e16:=ec 16 _ rfl
   have e17:=ec 17 _ rfl
   clear ec
   obtain ⟨-,-,-,-,-,-,-,-,-,-,p10,p11,p12,p13⟩:=zn HP.out
   rw [HOV.out] at p10
   rw [HPL.out] at p13
   go_wp2_with fail
   clear c7 c8 c9 c12 t1 t3 t4 t5 zt zg e7 e8 e9 e12 e13 e14 e15 e16 e17 p10 p11 p12 p13
   obtain ⟨K0,G0⟩:=HK.out.setA (⟨P'.e,false,0,0,0,[]⟩) ⟨none,0,0⟩ (Sq.nil _) (fun h=>absurd rfl h) HK.out.og
   simp only [Sv.v] at K0 G0
   obtain ⟨K1,G1⟩:=K0.setN (j:=8) (u:=.int .i64 (ve1.steps+1)) (e':={ ve1 with ans:=⟨P'.e,false,0,0,0,[]⟩,steps:=ve1.steps+1 }) Lg Ly rfl
   obtain ⟨K2,G2⟩:=K1.rest
   have HK2:=q9 K2
   have HF2:=q9 (HF.out.trans (G0.trans (G1.trans G2)))
   have HP2:=q9 (show Vk _ pb P' dv wp xp mp from (Ob.other (Ob.other (Ob.other (Ob.other (Ob.other (Ob.other (Ob.other (Ob.other HP.out npg (i:=k * 18+12) (.int .i64 P'.e)) npg (i:=k * 18+13) (.bool false)) npg (i:=k * 18+14) (.int .i64 0)) npg (i:=k * 18+15) (.int .i64 0)) npg (i:=k * 18+16) (.int .i64 0)) npg (i:=k * 18+17) (.slice none 0 0)) npg (i:=k * 18+8) (.int .i64 (ve1.steps+1))) npt (i:=n * 6+1) (.bool false)))
   clear HP
   clear HK HF K0 G0 K1 G1 K2 G2
   have HK:=HK2
   have HF:=HF2
   clear HK2 HF2
   have HP:=HP2
   clear HP2
   generalize hve:({ ve1 with ans:=⟨P'.e,false,0,0,0,[]⟩,steps:=ve1.steps+1 }:Ev)=ve2 at HK
   have HVA:=q9 (show ve2 = { ve1 with ans:=qcn P',steps:=ve1.steps+1 } by rw [<- hve];simp [qcn,HER.out])
   clear hve
   generalize ((((((((v1w.setCell ⟨g,k * 18+12,none⟩ (.int .i64 P'.e)).setCell ⟨g,k * 18+13,none⟩ (.bool false)).setCell ⟨g,k * 18+14,none⟩ (.int .i64 0)).setCell ⟨g,k * 18+15,none⟩ (.int .i64 0)).setCell ⟨g,k * 18+16,none⟩ (.int .i64 0)).setCell ⟨g,k * 18+17,none⟩ (.slice none 0 0)).setCell ⟨g,k * 18+8,none⟩ (.int .i64 (ve1.steps+1))).setCell ⟨y.tb,n * 6+1,none⟩ (.bool false))=u2w at *
   refine qp Le ?_
   refine za [] u2w #[true,true,true,true,true,true,true,true,true,false,false,false] 9 3 rfl ?_
   refine lpq [true,true,true,true,true,true,true,true,true,false,false,false] 0 ((Fr.refl _ _).drew) ?_
   apply qg
   refine ⟨fun wf Ff=>?_,?_⟩
   ·obtain ⟨c7,c8,c9,c12⟩:=(HK.out.up Ff).mc
    obtain ⟨t1,t3,t4,t5,-⟩:=(HK.out.up Ff).tc
    simp only [HZ.out.1,HZ.out.2.1,HZ.out.2.2,vg] at t3 t4 t5
    have k3:=qb t3
    have k4:=qb t4
    have k5:=qb t5
    have k7:=qb c7
    have k9:=qb c9
    have k12:=qb c12
    obtain ⟨-,-,-,-,-,-,-,-,-,-,p10,p11,p12,p13⟩:=zn (Ob.up HP.out Ff)
    have q11:=qb p11
    have q12:=qb p12
    simp only [sel]
    repeat (go_big_quiet_step (fail))
    exact wpQuiet_nil rfl
   refine qy (k:=9) rfl Le (fun v6w FN=>?_)
   replace FN:=((Fr.refl [] u2w).drew).trans FN
   have HK2:=q9 (HK.out.up FN)
   have HF2:=q9 (HF.out.trans (FrO.of FN Lc))
   have HP2:=q9 (Ob.up HP.out FN)
   clear HK HF FN HP
   have HK:=HK2
   have HF:=HF2
   clear HK2 HF2
   have HP:=HP2
   clear HP2
   obtain ⟨c7,c8,c9,c12⟩:=HK.out.mc
   obtain ⟨t1,t3,t4,t5,zt⟩:=HK.out.tc
   simp only [HZ.out.1,HZ.out.2.1,HZ.out.2.2,vg] at t3 t4 t5
   obtain ⟨ec,zg⟩:=HK.out.ec
   have e7:=ec 7 _ rfl
   have e8:=ec 8 _ rfl
   have e9:=ec 9 _ rfl
   have e12:=ec 12 _ rfl
   have e13:=ec 13 _ rfl
   have e14:=ec 14 _ rfl
   have e15:=ec 15 _ rfl
   have e16:=ec 16 _ rfl
   have e17:=ec 17 _ rfl
   clear ec
   obtain ⟨-,-,-,-,-,-,-,-,-,-,p10,p11,p12,p13⟩:=zn HP.out
   rw [HOV.out] at p10
   rw [HPL.out] at p13
   go_wp2_with fail
   obtain ⟨K0,G0⟩:=HK.out.setN (j:=7) (u:=.int .i64 m.now) (e':={ ve2 with end_:=m.now }) Lg Ly rfl
   have HK2:=q9 K0
   have HF2:=q9 (HF.out.trans G0)
   have HP2:=q9 (show Vk _ pb P' dv wp xp mp from (Ob.other HP.out npg (i:=k * 18+7) (.int .i64 m.now)))
   clear HP
   clear HK HF K0 G0
   have HK:=HK2
   have HF:=HF2
   clear HK2 HF2
   have HP:=HP2
   clear HP2
   go_end0
   have e:X=mkM m s' n k ({ x with p:=some P',busy:=false }) ({ ve2 with end_:=m.now }):=by
    rw [<- HX.out];unfold Mc.steps mkM;simp only [HTH.out,HGD.out,HQ.out.1];simp [HQ.out.2.1,HQ.out.2.2,HOV.out,HVA.out,HVE.out]
   rw [e]
   exact ⟨rfl,⟨_,_,HK.out.h⟩,HF.out⟩
theorem qbx {N0:Nat->Prop} {own:Nat->Nat} {w:World} {b:Nat} {m:Mc} {y:Lay} {N:Nat} (hI:MInv N m) (hN:N<=4000000) (h:jc N0 own w b m y) (hN0:ju N0 w.heap.size) {n k:Nat} {x:Th} {ve:Ev} (hx:m.t[n]? = some x) (hv:m.e[k]? = some ve) (P:Gt) (hp0:x.p=none) (hp:x.g=some P) :
  Calls Tryz.prog 50 #[.pointer (some ⟨b,0,none⟩),.int .i64 n,.int .i64 k] w (Vs N0 w b (m.steps (n:Int) k) (.tuple #[])):=by
 have hn:=(List.getElem?_eq_some_iff.1 hx).1;obtain ⟨z,hz⟩:∃ z,y.ts[n]? = some z:=⟨y.ts[n]'(by rw [h.thl];exact hn),List.getElem?_eq_getElem _⟩;obtain ⟨⟨ve',vs⟩,hV,rfl⟩:=h.ev_at hv;simp only at hv;obtain ⟨B,hth,hBc⟩:=h.thr n x z hx hz;obtain ⟨hIs,⟨_,_,ep,_⟩ | ⟨P0,pb,eg,ep,es,z1,z2,z3,hP⟩ | ⟨_,_,_,ep,_⟩ | ⟨_,ep,_⟩⟩:=hth
 ·rw [hp0] at ep;cases ep
 rotate_left
 ·rw [hp] at ep;cases ep
 ·rw [hp] at ep;cases ep
 obtain rfl:P0=P:=by rw [hp] at ep;exact (qi ep).symm
 obtain ⟨g,c,hev,-,-,-⟩:=h.ev_open hV;generalize hX:m.steps (n:Int) k=X;have HX:=q9 hX;have HI:=q9 hI;have hsteps:=hI.es ve' (List.mem_of_getElem? hv);have HTH:=q9 (show m.th (n:Int)=x by unfold Mc.th;rw [Int.toNat_natCast,List.getD_eq_getElem?_getD,hx];rfl);have HGD:=q9 (show m.e.getD k qa6=ve' by rw [List.getD_eq_getElem?_getD,hv];rfl);clear hX hI;have hpB:y.p∉B:=fun hi=>by have:=hBc _ hi;have:=h.cp;omega
 have hqB:y.q∉B:=fun hi=>by have:=hBc _ hi;have:=h.cq;omega
 have hpR:y.p∉y.R:=fun hi=>by have:=h.R0 _ hi;have:=h.cp;omega
 have hqR:y.q∉y.R:=fun hi=>by have:=h.R0 _ hi;have:=h.cq;omega
 obtain ⟨-,-,-,-,-,-,-,c7,c8,-,-,-,-⟩:=zw h.ob;unfold Lay.tv at c8;have t3:=xj h.th hz (j:=3) Lg rfl;have t4:=xj h.th hz (j:=4) Lg rfl;have t5:=xj h.th hz (j:=5) Lg rfl;rw [z1] at t3;rw [z2] at t4;rw [z3] at t5;unfold vg at t3 t4 t5;simp only at t3 t4 t5;have hlz:(n:Int)<(y.ts.length:Int):=by rw [h.thl];omega
 have HH:=q9 (qc hx (qc hz (qc hV (qc hv (qc hev (qc hp (qc hIs (qc eg es))))))));have hklz:(k:Int)<(y.es.length:Int):=by have:=(List.getElem?_eq_some_iff.1 hV).1;omega
 have HBC:=q9 hBc;have HZ:=q9 (qc z1 (qc z2 z3));have HHP:=q9 hP;have HM:=q9 h;have HP0:=q9 hp0;have HNN:=q9 (qc hpB (qc hqB (qc hpR hqR)));clear hx hz hV hv hev hp hIs eg es hBc z1 z2 z3 ep hP h hpB hqB hpR hqR hn hp0;go_enter Tryz.func50,Tryz.ntmps50;go_wp2_with fail;refine qp Le ?_;refine za [] w #[true,true,true,true,true,true,true,true,false,false] 8 2 rfl ?_;refine ja [true,true,true,true,true,true,true,true,false,false] 0 (n:=163) (listed':=#[true,true,true,true,true,true,true,true,false,false]) rfl Le Le Le Le rfl Le (fun _ _ d _ _ h=>by cases d <;> exact h) ((Fr.refl _ w).drew) ?_;apply qg;refine ⟨fun wf Ff=>?_,?_⟩
 ·exact Ie
 refine qy (k:=8) rfl Le (fun w2 F2=>?_);replace F2:=(Fr.refl [] w).drew.trans F2;obtain ⟨hx,hz,hV,hv,hev,hp,hIs,eg,es⟩:=HH.out;obtain ⟨hpB,hqB,hpR,hqR⟩:=HNN.out;obtain ⟨z1,z2,z3⟩:=HZ.out;have hp0:=HP0.out;have M2:=HM.out.up F2;have hP:=HHP.out;go_wp2_with fail;refine (q80 P0 ((HI.out.th n x hx).g P0 hp).1 B pb y.p y.q m.a w2 (hP.kept F2 Lc) M2.ar hpB hqB).mono ?_;rintro e w3 ⟨rfl,⟨B',hP3,hBn⟩,hA3,F3⟩;obtain ⟨S1,S2⟩:=M2.stepT (ju.up hN0 F2.size) hz HBC.out F3 hA3 (x':={ x with g:=some (P0.step m.a).1 }) ⟨hIs,.inr (.inl ⟨_,pb,eg,rfl,es,z1,z2,z3,hP3⟩)⟩ hBn
 have hB'c:∀ k,k∈B'->xo own w2.heap.size (n+6) k=n+6:=fun k hk=>Ek
 generalize xo own w2.heap.size (n+6)=own2 at *;have HF:=q9 ((FrO.of (N0:=N0) F2 Lc).trans S2);clear S2;generalize hP1:(P0.step m.a).1=P' at *;generalize hP2:(P0.step m.a).2=s' at *;have HQ:=q9 (qc hp0 (qc hP1 (qc hP2 hp)));have HK:=q9 (MK.of S1 hz hV hv hev);have HP:=q9 hP3;have HOK:=q9 (show q7o P'/\(P'.over=true->P'.l≠none) by rw [<- hP1];exact ⟨((HI.out.th n x hx).g P0 hp).1.step _,q5v ((HI.out.th n x hx).g P0 hp).2 _⟩);have hbg:=HK.out.ne;obtain ⟨nbg,nbt,ntg⟩:=hbg;have nbg':¬ g=b:=fun e=>nbg e.symm
 have nbt':¬ y.tb=b:=fun e=>nbt e.symm
 have ntg':¬ g=y.tb:=fun e=>ntg e.symm
 clear S1 hP1 hP2 HH HM HBC HNN HHP hx hz hV hv hev hp hIs eg es hpB hqB hpR hqR z1 z2 z3 M2 hP F2 F3 hA3 hBn hB'c c7 c8 t3 t4 t5 hP3 hp0;cases hov:P'.over
 ·have HOV:=q9 hov;clear hov;obtain ⟨c7,c8,c9,c12⟩:=HK.out.mc;obtain ⟨t1,t3,t4,t5,zt⟩:=HK.out.tc;simp only [HZ.out.1,HZ.out.2.1,HZ.out.2.2,vg] at t3 t4 t5;obtain ⟨ec,zg⟩:=HK.out.ec;have e7:=ec 7 _ rfl;have e8:=ec 8 _ rfl;have e9:=ec 9 _ rfl;have e12:=ec 12 _ rfl;have e13:=ec 13 _ rfl;have e14:=ec 14 _ rfl;have e15:=ec 15 _ rfl;have e16:=ec 16 _ rfl;have e17:=ec 17 _ rfl;clear ec;go_wp2_with fail;clear c7 c8 c9 c12 t1 t3 t4 t5 zt zg e7 e8 e9 e12 e13 e14 e15 e16 e17;refine qp Le ?_;refine za [] w3 #[true,true,true,true,true,true,true,true,true,true,false,false,false] 10 3 rfl ?_;refine lpq [true,true,true,true,true,true,true,true,true,true,false,false,false] 0 ((Fr.refl _ _).drew) ?_;apply qg;refine ⟨fun wf Ff=>?_,?_⟩
  ·exact Au
  refine qy (k:=10) rfl Le (fun v1w FN=>?_);replace FN:=((Fr.refl [] w3).drew).trans FN;have HK2:=q9 (HK.out.up FN);have HF2:=q9 (HF.out.trans (FrO.of FN Lc));clear HK HF FN;have HK:=HK2;have HF:=HF2;clear HK2 HF2;obtain ⟨c7,c8,c9,c12⟩:=HK.out.mc;obtain ⟨t1,t3,t4,t5,zt⟩:=HK.out.tc;simp only [HZ.out.1,HZ.out.2.1,HZ.out.2.2,vg] at t3 t4 t5;obtain ⟨ec,zg⟩:=HK.out.ec;have e7:=ec 7 _ rfl;have e8:=ec 8 _ rfl;have e9:=ec 9 _ rfl;have e12:=ec 12 _ rfl;have e13:=ec 13 _ rfl;have e14:=ec 14 _ rfl;have e15:=ec 15 _ rfl;have e16:=ec 16 _ rfl;have e17:=ec 17 _ rfl;clear ec;unfold Yw;go_wp2_with fail;obtain ⟨K0,G0⟩:=HK.out.setA (P'.answer) ⟨none,0,0⟩ (by rw [Y0];exact Sq.nil _) (fun h=>absurd (Y0 _) h) HK.out.og;simp only [Sv.v] at K0 G0;obtain ⟨K1,G1⟩:=K0.setN (j:=8) (u:=.int .i64 (ve'.steps+1)) (e':={ ve' with ans:=P'.answer,steps:=ve'.steps+1 }) Lg Ly rfl;have HK2:=q9 K1;have HF2:=q9 (HF.out.trans (G0.trans G1));clear HK HF K0 G0 K1 G1;have HK:=HK2;have HF:=HF2;clear HK2 HF2;go_end0
  have e:X=mkM m s' n k ({ x with g:=some P' }) ({ ve' with ans:=P'.answer,steps:=ve'.steps+1 }):=Ci
  exact Dg
 ·have HOV:=q9 hov;clear hov;obtain ⟨c7,c8,c9,c12⟩:=HK.out.mc;obtain ⟨t1,t3,t4,t5,zt⟩:=HK.out.tc;simp only [HZ.out.1,HZ.out.2.1,HZ.out.2.2,vg] at t3 t4 t5;obtain ⟨ec,zg⟩:=HK.out.ec;have e7:=ec 7 _ rfl;have e8:=ec 8 _ rfl;have e9:=ec 9 _ rfl;have e12:=ec 12 _ rfl;have e13:=ec 13 _ rfl;have e14:=ec 14 _ rfl;have e15:=ec 15 _ rfl;have e16:=ec 16 _ rfl;have e17:=ec 17 _ rfl;clear ec;go_wp2_with fail;clear c7 c8 c9 c12 t1 t3 t4 t5 zt zg e7 e8 e9 e12 e13 e14 e15 e16 e17;refine qp Le ?_;refine za [] w3 #[true,true,true,true,true,true,true,true,true,true,false,false,false] 10 3 rfl ?_;refine lpq [true,true,true,true,true,true,true,true,true,true,false,false,false] 0 ((Fr.refl _ _).drew) ?_;apply qg;refine ⟨fun wf Ff=>?_,?_⟩
  ·exact Au
  refine qy (k:=10) rfl Le (fun v1w FN=>?_);replace FN:=((Fr.refl [] w3).drew).trans FN;have HK2:=q9 (HK.out.up FN);have HF2:=q9 (HF.out.trans (FrO.of FN Lc));clear HK HF FN;have HK:=HK2;have HF:=HF2;clear HK2 HF2;obtain ⟨c7,c8,c9,c12⟩:=HK.out.mc;obtain ⟨t1,t3,t4,t5,zt⟩:=HK.out.tc;simp only [HZ.out.1,HZ.out.2.1,HZ.out.2.2,vg] at t3 t4 t5;obtain ⟨ec,zg⟩:=HK.out.ec;have e7:=ec 7 _ rfl;have e8:=ec 8 _ rfl;have e9:=ec 9 _ rfl;have e12:=ec 12 _ rfl;have e13:=ec 13 _ rfl;have e14:=ec 14 _ rfl;have e15:=ec 15 _ rfl;have e16:=ec 16 _ rfl;have e17:=ec 17 _ rfl;clear ec;unfold Yw;go_wp2_with fail;clear c7 c8 c9 c12 t1 t3 t4 t5 zt zg e7 e8 e9 e12 e13 e14 e15 e16 e17;obtain ⟨K0,G0⟩:=HK.out.setA (P'.answer) ⟨none,0,0⟩ (by rw [Y0];exact Sq.nil _) (fun h=>absurd (Y0 _) h) HK.out.og;simp only [Sv.v] at K0 G0;obtain ⟨K1,G1⟩:=K0.setN (j:=8) (u:=.int .i64 (ve'.steps+1)) (e':={ ve' with ans:=P'.answer,steps:=ve'.steps+1 }) Lg Ly rfl;obtain ⟨K2,G2⟩:=K1.rest;have HK2:=q9 K2;have HF2:=q9 (HF.out.trans (G0.trans (G1.trans G2)));clear HK HF K0 G0 K1 G1 K2 G2;have HK:=HK2;have HF:=HF2;clear HK2 HF2;generalize ((((((((v1w.setCell ⟨g,k * 18+12,none⟩ (.int .i64 P'.answer.code)).setCell ⟨g,k * 18+13,none⟩ (.bool P'.answer.found)).setCell ⟨g,k * 18+14,none⟩ (.int .i64 P'.answer.val)).setCell ⟨g,k * 18+15,none⟩ (.int .i64 P'.answer.writer)).setCell ⟨g,k * 18+16,none⟩ (.int .i64 P'.answer.version)).setCell ⟨g,k * 18+17,none⟩ (.slice none 0 0)).setCell ⟨g,k * 18+8,none⟩ (.int .i64 (ve'.steps+1))).setCell ⟨y.tb,n * 6+1,none⟩ (.bool false))=v2w at *;refine qp Le ?_;refine za [] v2w #[true,true,true,true,true,true,true,true,true,false,false,false] 9 3 rfl ?_;refine lpq [true,true,true,true,true,true,true,true,true,false,false,false] 0 ((Fr.refl _ _).drew) ?_;apply qg;refine ⟨fun wf Ff=>?_,?_⟩
  ·exact I6
  refine qy (k:=9) rfl Le (fun v3w FN=>?_);replace FN:=((Fr.refl [] v2w).drew).trans FN;have HK2:=q9 (HK.out.up FN);have HF2:=q9 (HF.out.trans (FrO.of FN Lc));clear HK HF FN;have HK:=HK2;have HF:=HF2;clear HK2 HF2;obtain ⟨c7,c8,c9,c12⟩:=HK.out.mc;obtain ⟨t1,t3,t4,t5,zt⟩:=HK.out.tc;simp only [HZ.out.1,HZ.out.2.1,HZ.out.2.2,vg] at t3 t4 t5;obtain ⟨ec,zg⟩:=HK.out.ec;have e7:=ec 7 _ rfl;have e8:=ec 8 _ rfl;have e9:=ec 9 _ rfl;have e12:=ec 12 _ rfl;have e13:=ec 13 _ rfl;have e14:=ec 14 _ rfl;have e15:=ec 15 _ rfl;have e16:=ec 16 _ rfl;have e17:=ec 17 _ rfl;clear ec;go_wp2_with fail;obtain ⟨K0,G0⟩:=HK.out.setN (j:=7) (u:=.int .i64 m.now) (e':={ ve' with ans:=P'.answer,steps:=ve'.steps+1,end_:=m.now }) Lg Ly rfl;have HK2:=q9 K0;have HF2:=q9 (HF.out.trans G0);clear HK HF K0 G0;have HK:=HK2;have HF:=HF2;clear HK2 HF2;go_end0
  have e:X=mkM m s' n k ({ x with g:=some P',busy:=false }) ({ ve' with ans:=P'.answer,steps:=ve'.steps+1,end_:=m.now }):=Ci
  exact Dg
theorem qam {N0:Nat->Prop} {own:Nat->Nat} {w:World} {b:Nat} {m:Mc} {y:Lay} {N:Nat} (hI:MInv N m) (hN:N<=4000000) (h:jc N0 own w b m y) (hN0:ju N0 w.heap.size) {n k:Nat} {x:Th} {ve:Ev} (hx:m.t[n]? = some x) (hv:m.e[k]? = some ve) (P:Sn) (hp0:x.p=none) (hg0:x.g=none) (hp:x.s=some P) :
  Calls Tryz.prog 50 #[.pointer (some ⟨b,0,none⟩),.int .i64 n,.int .i64 k] w (Vs N0 w b (m.steps (n:Int) k) (.tuple #[])):=by
 have hn:=(List.getElem?_eq_some_iff.1 hx).1;obtain ⟨z,hz⟩:∃ z,y.ts[n]? = some z:=⟨y.ts[n]'(by rw [h.thl];exact hn),List.getElem?_eq_getElem _⟩;obtain ⟨⟨ve',vs⟩,hV,rfl⟩:=h.ev_at hv;simp only at hv;obtain ⟨B,hth,hBc⟩:=h.thr n x z hx hz;obtain ⟨hIs,⟨_,_,ep,_⟩ | ⟨_,_,_,ep,_⟩ | ⟨P0,pb,eg,es,ep,z1,z2,z3,hP⟩ | ⟨_,_,ep,_⟩⟩:=hth
 ·rw [hp0] at ep;cases ep
 ·rw [hg0] at ep;cases ep
 rotate_left
 ·rw [hp] at ep;cases ep
 obtain rfl:P0=P:=by rw [hp] at ep;exact (qi ep).symm
 obtain ⟨g,c,hev,-,-,-⟩:=h.ev_open hV;generalize hX:m.steps (n:Int) k=X;have HX:=q9 hX;have HI:=q9 hI;have hsteps:=hI.es ve' (List.mem_of_getElem? hv);have HTH:=q9 (show m.th (n:Int)=x by unfold Mc.th;rw [Int.toNat_natCast,List.getD_eq_getElem?_getD,hx];rfl);have HGD:=q9 (show m.e.getD k qa6=ve' by rw [List.getD_eq_getElem?_getD,hv];rfl);clear hX hI;have hpB:y.p∉B:=fun hi=>by have:=hBc _ hi;have:=h.cp;omega
 have hqB:y.q∉B:=fun hi=>by have:=hBc _ hi;have:=h.cq;omega
 have hpR:y.p∉y.R:=fun hi=>by have:=h.R0 _ hi;have:=h.cp;omega
 have hqR:y.q∉y.R:=fun hi=>by have:=h.R0 _ hi;have:=h.cq;omega
 obtain ⟨-,-,-,-,-,-,-,c7,c8,-,-,-,-⟩:=zw h.ob;unfold Lay.tv at c8;have t3:=xj h.th hz (j:=3) Lg rfl;have t4:=xj h.th hz (j:=4) Lg rfl;have t5:=xj h.th hz (j:=5) Lg rfl;rw [z1] at t3;rw [z2] at t4;rw [z3] at t5;unfold vg at t3 t4 t5;simp only at t3 t4 t5;have hlz:(n:Int)<(y.ts.length:Int):=by rw [h.thl];omega
 have HH:=q9 (qc hx (qc hz (qc hV (qc hv (qc hev (qc hp (qc hIs (qc eg es))))))));have hklz:(k:Int)<(y.es.length:Int):=by have:=(List.getElem?_eq_some_iff.1 hV).1;omega
 have HBC:=q9 hBc;have HZ:=q9 (qc z1 (qc z2 z3));have HHP:=q9 hP;have HM:=q9 h;have HP0:=q9 hp0;have HG0:=q9 hg0;have HNN:=q9 (qc hpB (qc hqB (qc hpR hqR)));clear hx hz hV hv hev hp hIs eg es hBc z1 z2 z3 ep hP h hpB hqB hpR hqR hn hp0 hg0;go_enter Tryz.func50,Tryz.ntmps50;go_wp2_with fail;refine qp Le ?_;refine za [] w #[true,true,true,true,true,true,true,true,false,false] 8 2 rfl ?_;refine ja [true,true,true,true,true,true,true,true,false,false] 0 (n:=163) (listed':=#[true,true,true,true,true,true,true,true,false,false]) rfl Le Le Le Le rfl Le (fun _ _ d _ _ h=>by cases d <;> exact h) ((Fr.refl _ w).drew) ?_;apply qg;refine ⟨fun wf Ff=>?_,?_⟩
 ·exact Ie
 refine qy (k:=8) rfl Le (fun w2 F2=>?_);replace F2:=(Fr.refl [] w).drew.trans F2;obtain ⟨hx,hz,hV,hv,hev,hp,hIs,eg,es⟩:=HH.out;obtain ⟨hpB,hqB,hpR,hqR⟩:=HNN.out;obtain ⟨z1,z2,z3⟩:=HZ.out;have hp0:=HP0.out;have hg0:=HG0.out;have M2:=HM.out.up F2;have hP:=HHP.out;go_wp2_with fail;refine (q5o P0 N ((HI.out.th n x hx).s P0 hp) Lb B pb y.p y.q m.a w2 (hP.kept F2 Lc) M2.ar hpB hqB).mono ?_;rintro e w3 ⟨rfl,⟨B',hP3,hBn⟩,hA3,F3⟩;obtain ⟨S1,S2⟩:=M2.stepT (ju.up hN0 F2.size) hz HBC.out F3 hA3 (x':={ x with s:=some (P0.step m.a).1 }) ⟨hIs,.inr (.inr (.inl ⟨_,pb,eg,es,rfl,z1,z2,z3,hP3⟩))⟩ hBn
 have hB'c:∀ k,k∈B'->xo own w2.heap.size (n+6) k=n+6:=fun k hk=>Ek
 generalize xo own w2.heap.size (n+6)=own2 at *;have HF:=q9 ((FrO.of (N0:=N0) F2 Lc).trans S2);clear S2;generalize hP1:(P0.step m.a).1=P' at *;generalize hP2:(P0.step m.a).2=s' at *;have HQ:=q9 (qc hp0 (qc hP1 (qc hP2 (qc hg0 hp))));have HK:=q9 (MK.of S1 hz hV hv hev);have HP:=q9 hP3;have HOK:=q9 (show P'.items.length<=90000000 by have:=(((HI.out.th n x hx).s P0 hp).step m.a).n;rw [hP1] at this;omega);have hbg:=HK.out.ne;obtain ⟨nbg,nbt,ntg⟩:=hbg;have nbg':¬ g=b:=fun e=>nbg e.symm
 have nbt':¬ y.tb=b:=fun e=>nbt e.symm
 have ntg':¬ g=y.tb:=fun e=>ntg e.symm
 clear S1 hP1 hP2 HH HM HBC HNN HHP hx hz hV hv hev hp hIs eg es hpB hqB hpR hqR z1 z2 z3 M2 hP F2 F3 hA3 hBn hB'c c7 c8 t3 t4 t5 hP3 hp0 hg0;by_cases hov:P'.line=0
 ·rw [show decide (P'.line=0)=true by simpa using hov];have HOV:=q9 hov;clear hov;obtain ⟨c7,c8,c9,c12⟩:=HK.out.mc;obtain ⟨t1,t3,t4,t5,zt⟩:=HK.out.tc;simp only [HZ.out.1,HZ.out.2.1,HZ.out.2.2,vg] at t3 t4 t5;obtain ⟨ec,zg⟩:=HK.out.ec;have e7:=ec 7 _ rfl;have e8:=ec 8 _ rfl;have e9:=ec 9 _ rfl;have e12:=ec 12 _ rfl;have e13:=ec 13 _ rfl;have e14:=ec 14 _ rfl;have e15:=ec 15 _ rfl;have e16:=ec 16 _ rfl;have e17:=ec 17 _ rfl;clear ec;go_wp2_with fail;clear c7 c8 c9 c12 t1 t3 t4 t5 zt zg e7 e8 e9 e12 e13 e14 e15 e16 e17;refine qp Le ?_;refine za [] w3 #[true,true,true,true,true,true,true,true,true,true,false,false,false] 10 3 rfl ?_;refine lpq [true,true,true,true,true,true,true,true,true,false,false,false,false] 1 ((Fr.refl _ _).drew) ?_;apply qg;refine ⟨fun wf Ff=>?_,?_⟩
  ·exact I6
  refine loq 9 (fun w4 F4=>?_);replace F4:=(Fr.refl [] w3).drew.trans F4;go_wp2_with fail;refine (Xx P' HOK.out _ pb w4 (HP.out.kept F4 Lc)).mono ?_;rintro e w5 ⟨⟨pv,rfl,hpr⟩,F5⟩;obtain ⟨pa,pc,rfl,-,-,-⟩:=id (Sq.own (f:=fQ) hpr);have HFR:=q9 (F4.trans F5);have HK2:=q9 ((HK.out.xo 0 (ju.up hN0 HF.out.size)).up HFR.out);have hcol:∀ k,k∈(Value.slice pa P'.answer.pairs.length pc).ownBlock.toList->xo own2 w3.heap.size 0 k=0:=fun k hk=>yh (qh F4.size (z8 hpr k hk))
  have HF2:=q9 (HF.out.trans (FrO.of HFR.out Lc));generalize xo own2 w3.heap.size 0=own3 at *;have HPR:=q9 (qc (Sq.own (f:=fQ) hpr) hcol);clear HK HF HP F4 F5 hpr hcol;have HK:=HK2;have HF:=HF2;clear HK2 HF2;generalize hpl:P'.answer.pairs.length=pl at *;have HPN:=q9 hpl;clear hpl;unfold Yw;go_wp2_with fail;refine ql ⟨HFR.out,?_⟩;refine qy (k:=10) rfl Le (fun v1w FN=>?_);replace FN:=((Fr.refl [] w5)).trans FN;have HK2:=q9 (HK.out.up FN);have HF2:=q9 (HF.out.trans (FrO.of FN Lc));have HPS:=q9 (HPR.out.1.up FN);clear HK HF FN;have HK:=HK2;have HF:=HF2;clear HK2 HF2;obtain ⟨c7,c8,c9,c12⟩:=HK.out.mc;obtain ⟨t1,t3,t4,t5,zt⟩:=HK.out.tc;simp only [HZ.out.1,HZ.out.2.1,HZ.out.2.2,vg] at t3 t4 t5;obtain ⟨ec,zg⟩:=HK.out.ec;have e7:=ec 7 _ rfl;have e8:=ec 8 _ rfl;have e9:=ec 9 _ rfl;have e12:=ec 12 _ rfl;have e13:=ec 13 _ rfl;have e14:=ec 14 _ rfl;have e15:=ec 15 _ rfl;have e16:=ec 16 _ rfl;have e17:=ec 17 _ rfl;clear ec;go_wp2_with fail;clear c7 c8 c9 c12 t1 t3 t4 t5 zt zg e7 e8 e9 e12 e13 e14 e15 e16 e17;obtain ⟨K0,G0⟩:=HK.out.setA (P'.answer) ⟨pa,pl,pc⟩ HPS.out (fun _=>HPR.out.2) HK.out.og;simp only [Sv.v] at K0 G0;obtain ⟨K1,G1⟩:=K0.setN (j:=8) (u:=.int .i64 (ve'.steps+1)) (e':={ ve' with ans:=P'.answer,steps:=ve'.steps+1 }) Lg Ly rfl;obtain ⟨K2,G2⟩:=K1.rest;have HK2:=q9 K2;have HF2:=q9 (HF.out.trans (G0.trans (G1.trans G2)));clear HK HF K0 G0 K1 G1 K2 G2;have HK:=HK2;have HF:=HF2;clear HK2 HF2;generalize ((((((((v1w.setCell ⟨g,k * 18+12,none⟩ (.int .i64 P'.answer.code)).setCell ⟨g,k * 18+13,none⟩ (.bool P'.answer.found)).setCell ⟨g,k * 18+14,none⟩ (.int .i64 P'.answer.val)).setCell ⟨g,k * 18+15,none⟩ (.int .i64 P'.answer.writer)).setCell ⟨g,k * 18+16,none⟩ (.int .i64 P'.answer.version)).setCell ⟨g,k * 18+17,none⟩ (.slice pa pl pc)).setCell ⟨g,k * 18+8,none⟩ (.int .i64 (ve'.steps+1))).setCell ⟨y.tb,n * 6+1,none⟩ (.bool false))=v2w at *;refine qp Le ?_;refine za [] v2w #[true,true,true,true,true,true,true,true,true,false,false,false] 9 3 rfl ?_;refine lpq [true,true,true,true,true,true,true,true,true,false,false,false] 0 ((Fr.refl _ _).drew) ?_;apply qg;refine ⟨fun wf Ff=>?_,?_⟩
  ·exact I6
  refine qy (k:=9) rfl Le (fun v3w FN=>?_);replace FN:=((Fr.refl [] v2w).drew).trans FN;have HK2:=q9 (HK.out.up FN);have HF2:=q9 (HF.out.trans (FrO.of FN Lc));clear HK HF FN;have HK:=HK2;have HF:=HF2;clear HK2 HF2;obtain ⟨c7,c8,c9,c12⟩:=HK.out.mc;obtain ⟨t1,t3,t4,t5,zt⟩:=HK.out.tc;simp only [HZ.out.1,HZ.out.2.1,HZ.out.2.2,vg] at t3 t4 t5;obtain ⟨ec,zg⟩:=HK.out.ec;have e7:=ec 7 _ rfl;have e8:=ec 8 _ rfl;have e9:=ec 9 _ rfl;have e12:=ec 12 _ rfl;have e13:=ec 13 _ rfl;have e14:=ec 14 _ rfl;have e15:=ec 15 _ rfl;have e16:=ec 16 _ rfl;have e17:=ec 17 _ rfl;clear ec;go_wp2_with fail;obtain ⟨K0,G0⟩:=HK.out.setN (j:=7) (u:=.int .i64 m.now) (e':={ ve' with ans:=P'.answer,steps:=ve'.steps+1,end_:=m.now }) Lg Ly rfl;have HK2:=q9 K0;have HF2:=q9 (HF.out.trans G0);clear HK HF K0 G0;have HK:=HK2;have HF:=HF2;clear HK2 HF2;go_end0
  have e:X=mkM m s' n k ({ x with s:=some P',busy:=false }) ({ ve' with ans:=P'.answer,steps:=ve'.steps+1,end_:=m.now }):=Ci
  exact Dg
 ·rw [show decide (P'.line=0)=false by simpa using hov];have HOV:=q9 hov;clear hov;obtain ⟨c7,c8,c9,c12⟩:=HK.out.mc;obtain ⟨t1,t3,t4,t5,zt⟩:=HK.out.tc;simp only [HZ.out.1,HZ.out.2.1,HZ.out.2.2,vg] at t3 t4 t5;obtain ⟨ec,zg⟩:=HK.out.ec;have e7:=ec 7 _ rfl;have e8:=ec 8 _ rfl;have e9:=ec 9 _ rfl;have e12:=ec 12 _ rfl;have e13:=ec 13 _ rfl;have e14:=ec 14 _ rfl;have e15:=ec 15 _ rfl;have e16:=ec 16 _ rfl;have e17:=ec 17 _ rfl;clear ec;go_wp2_with fail;clear c7 c8 c9 c12 t1 t3 t4 t5 zt zg e7 e8 e9 e12 e13 e14 e15 e16 e17;refine qp Le ?_;refine za [] w3 #[true,true,true,true,true,true,true,true,true,true,false,false,false] 10 3 rfl ?_;refine lpq [true,true,true,true,true,true,true,true,true,false,false,false,false] 1 ((Fr.refl _ _).drew) ?_;apply qg;refine ⟨fun wf Ff=>?_,?_⟩
  ·exact I6
  refine loq 9 (fun w4 F4=>?_);replace F4:=(Fr.refl [] w3).drew.trans F4;go_wp2_with fail;refine (Xx P' HOK.out _ pb w4 (HP.out.kept F4 Lc)).mono ?_;rintro e w5 ⟨⟨pv,rfl,hpr⟩,F5⟩;obtain ⟨pa,pc,rfl,-,-,-⟩:=id (Sq.own (f:=fQ) hpr);have HFR:=q9 (F4.trans F5);have HK2:=q9 ((HK.out.xo 0 (ju.up hN0 HF.out.size)).up HFR.out);have hcol:∀ k,k∈(Value.slice pa P'.answer.pairs.length pc).ownBlock.toList->xo own2 w3.heap.size 0 k=0:=fun k hk=>yh (qh F4.size (z8 hpr k hk))
  have HF2:=q9 (HF.out.trans (FrO.of HFR.out Lc));generalize xo own2 w3.heap.size 0=own3 at *;have HPR:=q9 (qc (Sq.own (f:=fQ) hpr) hcol);clear HK HF HP F4 F5 hpr hcol;have HK:=HK2;have HF:=HF2;clear HK2 HF2;generalize hpl:P'.answer.pairs.length=pl at *;have HPN:=q9 hpl;clear hpl;unfold Yw;go_wp2_with fail;refine ql ⟨HFR.out,?_⟩;refine qy (k:=10) rfl Le (fun v1w FN=>?_);replace FN:=((Fr.refl [] w5)).trans FN;have HK2:=q9 (HK.out.up FN);have HF2:=q9 (HF.out.trans (FrO.of FN Lc));have HPS:=q9 (HPR.out.1.up FN);clear HK HF FN;have HK:=HK2;have HF:=HF2;clear HK2 HF2;obtain ⟨c7,c8,c9,c12⟩:=HK.out.mc;obtain ⟨t1,t3,t4,t5,zt⟩:=HK.out.tc;simp only [HZ.out.1,HZ.out.2.1,HZ.out.2.2,vg] at t3 t4 t5;obtain ⟨ec,zg⟩:=HK.out.ec;have e7:=ec 7 _ rfl;have e8:=ec 8 _ rfl;have e9:=ec 9 _ rfl;have e12:=ec 12 _ rfl;have e13:=ec 13 _ rfl;have e14:=ec 14 _ rfl;have e15:=ec 15 _ rfl;have e16:=ec 16 _ rfl;have e17:=ec 17 _ rfl;clear ec;go_wp2_with fail;obtain ⟨K0,G0⟩:=HK.out.setA (P'.answer) ⟨pa,pl,pc⟩ HPS.out (fun _=>HPR.out.2) HK.out.og;simp only [Sv.v] at K0 G0;obtain ⟨K1,G1⟩:=K0.setN (j:=8) (u:=.int .i64 (ve'.steps+1)) (e':={ ve' with ans:=P'.answer,steps:=ve'.steps+1 }) Lg Ly rfl;have HK2:=q9 K1;have HF2:=q9 (HF.out.trans (G0.trans G1));clear HK HF K0 G0 K1 G1;have HK:=HK2;have HF:=HF2;clear HK2 HF2;go_end0
  have e:X=mkM m s' n k ({ x with s:=some P' }) ({ ve' with ans:=P'.answer,steps:=ve'.steps+1 }):=Ci
  exact Dg
end Go.Proofs.YtleclbldlladmaaGreat.Mx
