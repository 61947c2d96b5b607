/- Parts. -/
import Derived.Test.YtleclbldlladmaaGreatVab
import Derived.Test.YtleclbldlladmaaGreatVan
set_option linter.unusedVariables false
set_option linter.unusedSimpArgs false
set_option maxRecDepth 100000
set_option maxHeartbeats 12800000
namespace Go.Proofs.YtleclbldlladmaaGreat.Mx
open Go.RowKit Ar Ref
structure qcx (x:Bd):Prop where
 c:x.c.Ok
 i0:-1<=x.i
 i1:x.i<=40
 l:x.l.length<=100
 v:x.versions.length<=100
theorem qao (x:Bd) (hl:x.line=3) (hc:x.c.Ok) (b p q:Nat) (s:St) (w:World) (vv lv gv wv:Value) (h:Q8 w b x vv lv gv wv) (hA:Rar w p q s) (hp:b≠p) (hq:b≠q) :
  Calls Tryz.prog 109 #[.pointer (some ⟨b,0,none⟩),.pointer (some ⟨p,0,none⟩)] w fun e w'=>e = .returned (.bool (decide ((x.step s).1.line=0)))/\Q8 w' b (x.step s).1 vv lv gv wv/\Rar w' p q (x.step s).2/\Fr [b,p,q] w w':=by
 generalize hy:x.step s=y;have HY:=q9 hy;clear hy;obtain ⟨c0,c1,c2,c3,c4,c5,c6,c7,c8,c9,c10,c11,c12,c13,c14,c15,c16,c17,c18,c19⟩:=zi h;rw [hl] at c8;have z:=h.frozen;go_enter Tryz.func109,Tryz.ntmps109;go_wp2_with fail;have k0:=qb c0;have k1:=qb c1;have k2:=qb c2;have k3:=qb c3;have k4:=qb c4;have k5:=qb c5;have k9:=qb c9;clear c0 c1 c2 c3 c4 c5 c6 c7 c8 c9 c10 c11 c12 c13 c14 c15 c16 c17 c18 c19 z;refine wiq ?_;repeat (go_big_quiet_step ((go_at_call 126;exact Calls.in_ (xu x.c _ _ _ hc _))))
 refine wpQuiet_nil ?_;intro w0 F0;rw [show yt x.c x.chunk x.mate x.i=x.sa from rfl];have h0:Q8 w0 b x vv lv gv wv:=Ob.up h F0;have A0:=hA.kept F0;have D0:Fr [b,p,q] w w0:=F0.mono;clear k0 k1 k2 k3 k4 k5 k9 h hA F0;obtain ⟨c0,c1,c2,c3,c4,c5,c6,c7,c8,c9,c10,c11,c12,c13,c14,c15,c16,c17,c18,c19⟩:=zi h0;rw [hl] at c8;have z:=h0.frozen;go_wp2_with fail;clear c0 c1 c2 c3 c4 c5 c6 c7 c8 c9 c10 c11 c12 c13 c14 c15 c16 c17 c18 c19 z;refine (Ref.zl _ p q s _ A0).mono ?_;rintro e w5 ⟨rfl,A5,F5⟩;have h5:Q8 w5 b x vv lv gv wv:=Ob.kept h0 F5 Lf;have D5:=zm D0 F5 Lc;clear A0 h0 D0 F5;obtain ⟨c0,c1,c2,c3,c4,c5,c6,c7,c8,c9,c10,c11,c12,c13,c14,c15,c16,c17,c18,c19⟩:=zi h5;have z:=h5.frozen;have hn:y=({ x with x:=⟨qw s.l (wrap64 (x.sa+1)),x.x.v,x.x.d⟩,line:=4 },s.load (wrap64 (x.sa+1))):=by rw [<- HY.out];unfold Bd.step;simp [hl]
 subst hn;go_wp2_with fail;go_ret;exact ⟨rfl,(Ob.set (Ob.set h5 (i:=12) (.int .i64 (qw s.l (wrap64 (x.sa+1))))) (i:=8) (.int .i64 4)),(Rar.set (Rar.set A5 hp hq (i:=12) (.int .i64 (qw s.l (wrap64 (x.sa+1))))) hp hq (i:=8) (.int .i64 4)),(Fr.setCell' (Fr.setCell' D5 (b:=b) (i:=12) (.int .i64 (qw s.l (wrap64 (x.sa+1)))) Lc) (b:=b) (i:=8) (.int .i64 4) Lc)⟩
theorem qaw (x:Bd) (hl:x.line=7) (hc:x.c.Ok) (b p q:Nat) (s:St) (w:World) (vv lv gv wv:Value) (h:Q8 w b x vv lv gv wv) (hA:Rar w p q s) (hp:b≠p) (hq:b≠q) :
  Calls Tryz.prog 109 #[.pointer (some ⟨b,0,none⟩),.pointer (some ⟨p,0,none⟩)] w fun e w'=>e = .returned (.bool (decide ((x.step s).1.line=0)))/\Q8 w' b (x.step s).1 vv lv gv wv/\Rar w' p q (x.step s).2/\Fr [b,p,q] w w':=by
 generalize hy:x.step s=y;have HY:=q9 hy;clear hy;obtain ⟨c0,c1,c2,c3,c4,c5,c6,c7,c8,c9,c10,c11,c12,c13,c14,c15,c16,c17,c18,c19⟩:=zi h;rw [hl] at c8;have z:=h.frozen;go_enter Tryz.func109,Tryz.ntmps109;go_wp2_with fail;have k0:=qb c0;have k1:=qb c1;have k2:=qb c2;have k3:=qb c3;have k4:=qb c4;have k5:=qb c5;have k9:=qb c9;clear c0 c1 c2 c3 c4 c5 c6 c7 c8 c9 c10 c11 c12 c13 c14 c15 c16 c17 c18 c19 z;refine wiq ?_;repeat (go_big_quiet_step ((go_at_call 126;exact Calls.in_ (xu x.c _ _ _ hc _))))
 refine wpQuiet_nil ?_;intro w0 F0;rw [show yt x.c x.chunk x.mate x.i=x.sa from rfl];have h0:Q8 w0 b x vv lv gv wv:=Ob.up h F0;have A0:=hA.kept F0;have D0:Fr [b,p,q] w w0:=F0.mono;clear k0 k1 k2 k3 k4 k5 k9 h hA F0;obtain ⟨c0,c1,c2,c3,c4,c5,c6,c7,c8,c9,c10,c11,c12,c13,c14,c15,c16,c17,c18,c19⟩:=zi h0;rw [hl] at c8;have z:=h0.frozen;go_wp2_with fail;clear c0 c1 c2 c3 c4 c5 c6 c7 c8 c9 c10 c11 c12 c13 c14 c15 c16 c17 c18 c19 z;refine z7 Le [p,q] (fun w2 F2=>?_);refine epq [true,true,true,true,true,true,true,true,true,true,false] 1 (F2.mono) ?_;apply qg;refine ⟨fun wf Ff=>?_,?_⟩
 ·have hf:Q8 wf b x vv lv gv wv:=Ob.kept h0 Ff Lf;obtain ⟨-,-,-,-,c4,-,-,-,-,-,-,c11,-,-,-,-,-,-,-,-⟩:=zi hf;have k4:=qb c4;have k11:=qb c11;clear hf c4 c11;exact Ab
 refine eoq 10 (fun w3 F3=>?_);have E3:=F2.trans F3;have A3:=A0.kept E3;have h3:Q8 w3 b x vv lv gv wv:=Ob.up h0 E3;have G3:=zm D0 E3 Lc;clear F2 F3 A0 h0 D0;go_wp2_with fail;refine (Ref.yn _ p q s _ _ _ A3).mono ?_;rintro e w4 ⟨rfl,A4,F4⟩;have E4:=(E3.mono (T:=[p,q]) Lc).trans F4;have h4:Q8 w4 b x vv lv gv wv:=Ob.kept h3 F4 Lf;have G4:=zm G3 F4 Lc;clear A3 h3 F4 G3 E3;go_wp2_with fail;refine ql ⟨E4,?_⟩;refine zr Le (fun w5 F5=>?_);have D5:=G4.then F5;have h5:Q8 w5 b x vv lv gv wv:=Ob.up h4 F5;have A5:=A4.kept F5;clear A4 h4 F5 G4 E4;obtain ⟨c0,c1,c2,c3,c4,c5,c6,c7,c8,c9,c10,c11,c12,c13,c14,c15,c16,c17,c18,c19⟩:=zi h5;have z:=h5.frozen;have hn:y=({ x with line:=8 },s.swap (wrap64 (x.chunk+5)) 0 x.at_):=by rw [<- HY.out];unfold Bd.step;simp [hl]
 exact Ae
theorem qbj (x:Bd) (hl:x.line=8) (hc:x.c.Ok) (b p q:Nat) (s:St) (w:World) (vv lv gv wv:Value) (h:Q8 w b x vv lv gv wv) (hA:Rar w p q s) (hp:b≠p) (hq:b≠q) :
  Calls Tryz.prog 109 #[.pointer (some ⟨b,0,none⟩),.pointer (some ⟨p,0,none⟩)] w fun e w'=>e = .returned (.bool (decide ((x.step s).1.line=0)))/\Q8 w' b (x.step s).1 vv lv gv wv/\Rar w' p q (x.step s).2/\Fr [b,p,q] w w':=by
 generalize hy:x.step s=y;have HY:=q9 hy;clear hy;obtain ⟨c0,c1,c2,c3,c4,c5,c6,c7,c8,c9,c10,c11,c12,c13,c14,c15,c16,c17,c18,c19⟩:=zi h;rw [hl] at c8;have z:=h.frozen;go_enter Tryz.func109,Tryz.ntmps109;go_wp2_with fail;have k0:=qb c0;have k1:=qb c1;have k2:=qb c2;have k3:=qb c3;have k4:=qb c4;have k5:=qb c5;have k9:=qb c9;clear c0 c1 c2 c3 c4 c5 c6 c7 c8 c9 c10 c11 c12 c13 c14 c15 c16 c17 c18 c19 z;refine wiq ?_;repeat (go_big_quiet_step ((go_at_call 126;exact Calls.in_ (xu x.c _ _ _ hc _))))
 refine wpQuiet_nil ?_;intro w0 F0;rw [show yt x.c x.chunk x.mate x.i=x.sa from rfl];have h0:Q8 w0 b x vv lv gv wv:=Ob.up h F0;have A0:=hA.kept F0;have D0:Fr [b,p,q] w w0:=F0.mono;clear k0 k1 k2 k3 k4 k5 k9 h hA F0;obtain ⟨c0,c1,c2,c3,c4,c5,c6,c7,c8,c9,c10,c11,c12,c13,c14,c15,c16,c17,c18,c19⟩:=zi h0;rw [hl] at c8;have z:=h0.frozen;go_wp2_with fail;clear c0 c1 c2 c3 c4 c5 c6 c7 c8 c9 c10 c11 c12 c13 c14 c15 c16 c17 c18 c19 z;refine (Ref.zl _ p q s _ A0).mono ?_;rintro e w5 ⟨rfl,A5,F5⟩;have h5:Q8 w5 b x vv lv gv wv:=Ob.kept h0 F5 Lf;have D5:=zm D0 F5 Lc;clear A0 h0 D0 F5;obtain ⟨c0,c1,c2,c3,c4,c5,c6,c7,c8,c9,c10,c11,c12,c13,c14,c15,c16,c17,c18,c19⟩:=zi h5;have z:=h5.frozen;have hn:y=({ x with repl:=qw s.l (wrap64 (x.chunk+5)),line:=0 },s.load (wrap64 (x.chunk+5))):=by rw [<- HY.out];unfold Bd.step;simp [hl]
 subst hn;go_wp2_with fail;go_ret;exact ⟨rfl,(Ob.set (Ob.set h5 (i:=18) (.int .i64 (qw s.l (wrap64 (x.chunk+5))))) (i:=8) (.int .i64 0)),(Rar.set (Rar.set A5 hp hq (i:=18) (.int .i64 (qw s.l (wrap64 (x.chunk+5))))) hp hq (i:=8) (.int .i64 0)),(Fr.setCell' (Fr.setCell' D5 (b:=b) (i:=18) (.int .i64 (qw s.l (wrap64 (x.chunk+5)))) Lc) (b:=b) (i:=8) (.int .i64 0) Lc)⟩
theorem qal (x:Bd) (hl:x.line=1) (hx:qcx x) (b p q:Nat) (s:St) (w:World) (vv lv gv wv:Value) (h:Q8 w b x vv lv gv wv) (hA:Rar w p q s) (hp:b≠p) (hq:b≠q) (hV:Sq fI w vv x.versions) (hL:Sq fT w lv x.l) (nV:b∉vv.ownBlock.toList/\p∉vv.ownBlock.toList/\q∉vv.ownBlock.toList) (nL:b∉lv.ownBlock.toList/\p∉lv.ownBlock.toList/\q∉lv.ownBlock.toList) :
  Calls Tryz.prog 109 #[.pointer (some ⟨b,0,none⟩),.pointer (some ⟨p,0,none⟩)] w fun e w'=>e = .returned (.bool (decide ((x.step s).1.line=0)))/\(∃ gv',Q8 w' b (x.step s).1 vv lv gv' wv/\(((x.step s).1.groups=x.groups/\gv'=gv)\/∃ ss,Sq fS w' gv' ss/\Gs w' ss (x.step s).1.groups/\(∀ k,k∈gv'.ownBlock.toList->w.heap.size<=k/\k<w'.heap.size)/\(∀ s,s∈ss->∀ k,k∈s.v.ownBlock.toList->w.heap.size<=k/\k<w'.heap.size)))/\Rar w' p q (x.step s).2/\Fr [b,p,q] w w':=by
 have hc:=hx.c;generalize hy:x.step s=y;have HY:=q9 hy;clear hy;obtain ⟨c0,c1,c2,c3,c4,c5,c6,c7,c8,c9,c10,c11,c12,c13,c14,c15,c16,c17,c18,c19⟩:=zi h;rw [hl] at c8;have z:=h.frozen;go_enter Tryz.func109,Tryz.ntmps109;go_wp2_with fail;have k0:=qb c0;have k1:=qb c1;have k2:=qb c2;have k3:=qb c3;have k4:=qb c4;have k5:=qb c5;have k9:=qb c9;clear c0 c1 c2 c3 c4 c5 c6 c7 c8 c9 c10 c11 c12 c13 c14 c15 c16 c17 c18 c19 z;refine wiq ?_;repeat (go_big_quiet_step ((go_at_call 126;exact Calls.in_ (xu x.c _ _ _ hc _))))
 refine wpQuiet_nil ?_;intro w0 F0;rw [show yt x.c x.chunk x.mate x.i=x.sa from rfl];have h0:Q8 w0 b x vv lv gv wv:=Ob.up h F0;have A0:=hA.kept F0;have D0:Fr [b,p,q] w w0:=F0.mono;clear k0 k1 k2 k3 k4 k5 k9 h hA F0;obtain ⟨c0,c1,c2,c3,c4,c5,c6,c7,c8,c9,c10,c11,c12,c13,c14,c15,c16,c17,c18,c19⟩:=zi h0;rw [hl] at c8;have z:=h0.frozen;go_wp2_with fail;clear c0 c1 c2 c3 c4 c5 c6 c7 c8 c9 c10 c11 c12 c13 c14 c15 c16 c17 c18 c19 z;refine (Ref.zl _ p q s _ A0).mono ?_;rintro e w5 ⟨rfl,A5,F5⟩;have h5:Q8 w5 b x vv lv gv wv:=Ob.kept h0 F5 Lf;have D5:=zm D0 F5 Lc;clear A0 h0 D0 F5;obtain ⟨c0,c1,c2,c3,c4,c5,c6,c7,c8,c9,c10,c11,c12,c13,c14,c15,c16,c17,c18,c19⟩:=zi h5;have z:=h5.frozen;go_wp2_with fail;have h6:Q8 _ b { x with mn:=qw s.l (wrap64 x.chunk),i:=-1 } vv lv gv wv:=(Ob.set (Ob.set h5 (i:=10) (.int .i64 (qw s.l (wrap64 x.chunk)))) (i:=9) (.int .i64 (-1)));have A6:=(Rar.set (Rar.set A5 hp hq (i:=10) (.int .i64 (qw s.l (wrap64 x.chunk)))) hp hq (i:=9) (.int .i64 (-1)));have D6:=(Fr.setCell' (Fr.setCell' D5 (b:=b) (i:=10) (.int .i64 (qw s.l (wrap64 x.chunk))) Lc) (b:=b) (i:=9) (.int .i64 (-1)) Lc);clear c0 c1 c2 c3 c4 c5 c6 c7 c8 c9 c10 c11 c12 c13 c14 c15 c16 c17 c18 c19 z h5 A5 D5;generalize ((w5.setCell ⟨b,10,none⟩ (.int .i64 (qw s.l (wrap64 x.chunk)))).setCell ⟨b,9,none⟩ (.int .i64 (-1)))=w6 at *;have V6:=hV.kept D6 (fun k hk hi=>by simp only [List.mem_cons,List.not_mem_nil,or_false] at hi;rcases hi with rfl | rfl | rfl;exact nV.1 hk;exact nV.2.1 hk;exact nV.2.2 hk);have L6:=hL.kept D6 (fun k hk hi=>by simp only [List.mem_cons,List.not_mem_nil,or_false] at hi;rcases hi with rfl | rfl | rfl;exact nL.1 hk;exact nL.2.1 hk;exact nL.2.2 hk);have hi0:=hx.i0;have hi1:=hx.i1;have hll:=hx.l;have hvl:=hx.v;refine (Tn { x with mn:=qw s.l (wrap64 x.chunk),i:=-1 } hc ⟨by simp only;omega,by simp only;omega⟩ Ls Ls b _ vv lv gv wv h6 V6 L6 nV.1 nL.1).mono ?_;rintro e w7 ⟨rfl,⟨gv',h7,hg⟩,F7⟩;have A7:=A6.kept F7 Oq Ot;have D7:=D6.trans (F7.mono (T:=[b,p,q]) Lc);have HG:=q9 hg;have HW:=q9 D6.size;clear h6 A6 D6 V6 L6 hg F7 hi0 hi1 hll hvl;generalize hyo:Bd.on { x with mn:=qw s.l (wrap64 x.chunk),i:=-1 } = yo at *;have HYO:=q9 hyo;clear hyo;obtain ⟨c0,c1,c2,c3,c4,c5,c6,c7,c8,c9,c10,c11,c12,c13,c14,c15,c16,c17,c18,c19⟩:=zi h7;have z:=h7.frozen;go_wp2_with fail;go_ret;have hn:y=(yo,s.load (wrap64 x.chunk)):=by rw [<- HY.out,<- HYO.out];unfold Bd.step;simp [hl]
 exact Cg
theorem qb0 (x:Bd) (hl:x.line=2) (hx:qcx x) (b p q:Nat) (s:St) (w:World) (vv lv gv wv:Value) (h:Q8 w b x vv lv gv wv) (hA:Rar w p q s) (hp:b≠p) (hq:b≠q) (hV:Sq fI w vv x.versions) (hL:Sq fT w lv x.l) (nV:b∉vv.ownBlock.toList/\p∉vv.ownBlock.toList/\q∉vv.ownBlock.toList) (nL:b∉lv.ownBlock.toList/\p∉lv.ownBlock.toList/\q∉lv.ownBlock.toList) :
  Calls Tryz.prog 109 #[.pointer (some ⟨b,0,none⟩),.pointer (some ⟨p,0,none⟩)] w fun e w'=>e = .returned (.bool (decide ((x.step s).1.line=0)))/\(∃ gv',Q8 w' b (x.step s).1 vv lv gv' wv/\(((x.step s).1.groups=x.groups/\gv'=gv)\/∃ ss,Sq fS w' gv' ss/\Gs w' ss (x.step s).1.groups/\(∀ k,k∈gv'.ownBlock.toList->w.heap.size<=k/\k<w'.heap.size)/\(∀ s,s∈ss->∀ k,k∈s.v.ownBlock.toList->w.heap.size<=k/\k<w'.heap.size)))/\Rar w' p q (x.step s).2/\Fr [b,p,q] w w':=by
 have hc:=hx.c;generalize hy:x.step s=y;have HY:=q9 hy;clear hy;obtain ⟨c0,c1,c2,c3,c4,c5,c6,c7,c8,c9,c10,c11,c12,c13,c14,c15,c16,c17,c18,c19⟩:=zi h;rw [hl] at c8;have z:=h.frozen;go_enter Tryz.func109,Tryz.ntmps109;go_wp2_with fail;have k0:=qb c0;have k1:=qb c1;have k2:=qb c2;have k3:=qb c3;have k4:=qb c4;have k5:=qb c5;have k9:=qb c9;clear c0 c1 c2 c3 c4 c5 c6 c7 c8 c9 c10 c11 c12 c13 c14 c15 c16 c17 c18 c19 z;refine wiq ?_;repeat (go_big_quiet_step ((go_at_call 126;exact Calls.in_ (xu x.c _ _ _ hc _))))
 refine wpQuiet_nil ?_;intro w0 F0;rw [show yt x.c x.chunk x.mate x.i=x.sa from rfl];have h0:Q8 w0 b x vv lv gv wv:=Ob.up h F0;have A0:=hA.kept F0;have D0:Fr [b,p,q] w w0:=F0.mono;clear k0 k1 k2 k3 k4 k5 k9 h hA F0;obtain ⟨c0,c1,c2,c3,c4,c5,c6,c7,c8,c9,c10,c11,c12,c13,c14,c15,c16,c17,c18,c19⟩:=zi h0;rw [hl] at c8;have z:=h0.frozen;go_wp2_with fail;clear c0 c1 c2 c3 c4 c5 c6 c7 c8 c9 c10 c11 c12 c13 c14 c15 c16 c17 c18 c19 z;refine (Ref.zl _ p q s _ A0).mono ?_;rintro e w5 ⟨rfl,A5,F5⟩;have h5:Q8 w5 b x vv lv gv wv:=Ob.kept h0 F5 Lf;have D5:=zm D0 F5 Lc;clear A0 h0 D0 F5;obtain ⟨c0,c1,c2,c3,c4,c5,c6,c7,c8,c9,c10,c11,c12,c13,c14,c15,c16,c17,c18,c19⟩:=zi h5;have z:=h5.frozen;generalize hv:qw s.l x.sa=v at *;have HV:=q9 hv;clear hv;by_cases hlt:v<3
 ·generalize hvw:Vi v=vw at *;have HVW:=q9 hvw;clear hvw;go_wp2_with (go_at_call 81;refine (Xz _ _).mono ?_;rintro e _ ⟨rfl,rfl⟩;rw [HVW.out]);have h6:Q8 _ b { x with x:=⟨0,vw,0⟩,line:=3 } vv lv gv wv:=(Ob.set (Ob.set (Ob.set (Ob.set h5 (i:=12) (.int .i64 0)) (i:=13) (.int .i64 vw)) (i:=14) (.int .i64 0)) (i:=8) (.int .i64 3));have A6:=(Rar.set (Rar.set (Rar.set (Rar.set A5 hp hq (i:=12) (.int .i64 0)) hp hq (i:=13) (.int .i64 vw)) hp hq (i:=14) (.int .i64 0)) hp hq (i:=8) (.int .i64 3));have D6:=(Fr.setCell' (Fr.setCell' (Fr.setCell' (Fr.setCell' D5 (b:=b) (i:=12) (.int .i64 0) Lc) (b:=b) (i:=13) (.int .i64 vw) Lc) (b:=b) (i:=14) (.int .i64 0) Lc) (b:=b) (i:=8) (.int .i64 3) Lc);clear c0 c1 c2 c3 c4 c5 c6 c7 c8 c9 c10 c11 c12 c13 c14 c15 c16 c17 c18 c19 z h5 A5 D5;generalize ((((w5.setCell ⟨b,12,none⟩ (.int .i64 0)).setCell ⟨b,13,none⟩ (.int .i64 vw)).setCell ⟨b,14,none⟩ (.int .i64 0)).setCell ⟨b,8,none⟩ (.int .i64 3))=w6 at *;have V6:=hV.kept D6 (fun k hk hi=>by simp only [List.mem_cons,List.not_mem_nil,or_false] at hi;rcases hi with rfl | rfl | rfl;exact nV.1 hk;exact nV.2.1 hk;exact nV.2.2 hk);have L6:=hL.kept D6 (fun k hk hi=>by simp only [List.mem_cons,List.not_mem_nil,or_false] at hi;rcases hi with rfl | rfl | rfl;exact nL.1 hk;exact nL.2.1 hk;exact nL.2.2 hk);have hi0:=hx.i0;have hi1:=hx.i1;have hll:=hx.l;have hvl:=hx.v;refine (Tn { x with x:=⟨0,vw,0⟩,line:=3 } hc ⟨by simp only;omega,by simp only;omega⟩ Ls Ls b _ vv lv gv wv h6 V6 L6 nV.1 nL.1).mono ?_;rintro e w7 ⟨rfl,⟨gv',h7,hg⟩,F7⟩;have A7:=A6.kept F7 Oq Ot;have D7:=D6.trans (F7.mono (T:=[b,p,q]) Lc);have HG:=q9 hg;have HW:=q9 D6.size;clear h6 A6 D6 V6 L6 hg F7 hi0 hi1 hll hvl;generalize hyo:Bd.on { x with x:=⟨0,vw,0⟩,line:=3 } = yo at *;have HYO:=q9 hyo;clear hyo;obtain ⟨c0,c1,c2,c3,c4,c5,c6,c7,c8,c9,c10,c11,c12,c13,c14,c15,c16,c17,c18,c19⟩:=zi h7;have z:=h7.frozen;go_wp2_with fail;go_ret;have hn:y=(yo,s.load x.sa):=by rw [<- HY.out,<- HYO.out];unfold Bd.step;simp [hl,HV.out,hlt,HVW.out]
  exact Cg
 ·generalize hvw:Vi v=vw at *;have HVW:=q9 hvw;clear hvw;go_wp2_with (go_at_call 81;refine (Xz _ _).mono ?_;rintro e _ ⟨rfl,rfl⟩;rw [HVW.out]);go_ret;have hn:y=({ x with x:=⟨0,vw,0⟩,line:=3 },s.load x.sa):=by rw [<- HY.out];unfold Bd.step;simp [hl,HV.out,(show ¬ v<3 by omega),HVW.out]
  subst hn;exact ⟨rfl,⟨gv,(Ob.set (Ob.set (Ob.set (Ob.set h5 _) (i:=13) (.int .i64 vw)) (i:=14) (.int .i64 0)) (i:=8) (.int .i64 3)),.inl ⟨rfl,rfl⟩⟩,(Rar.set (Rar.set (Rar.set (Rar.set A5 hp hq _) hp hq (i:=13) (.int .i64 vw)) hp hq (i:=14) (.int .i64 0)) hp hq (i:=8) (.int .i64 3)),(Fr.setCell' (Fr.setCell' (Fr.setCell' (Fr.setCell' D5 _ Lc) (b:=b) (i:=13) (.int .i64 vw) Lc) (b:=b) (i:=14) (.int .i64 0) Lc) (b:=b) (i:=8) (.int .i64 3) Lc)⟩
theorem q1x {w:World} {a:Option Addr} {n cap i:Nat} {xs:List (Int×Int)} {x:Int×Int} (h:Sq fQ w (.slice a n cap) xs) (hi:xs[i]? = some x) :
  ∃ g off,a=some ⟨g,off,none⟩/\w.cell? ⟨g,off+i * 2,none⟩=some (.int .i64 x.1)/\w.cell? ⟨g,off+i * 2+1,none⟩=some (.int .i64 x.2):=by
 obtain ⟨-,g,off,rfl,hc⟩:=Sq.cell Td h hi;exact H2
theorem qbd (x:Bd) (hl:x.line=6) (hc:x.c.Ok) (hi:0<=x.i/\x.i<(x.w.length:Int)) (hwl:x.w.length<=100000) (b p q:Nat) (s:St) (w:World) (vv lv gv wv:Value) (h:Q8 w b x vv lv gv wv) (hA:Rar w p q s) (hp:b≠p) (hq:b≠q) (hW:Sq fQ w wv x.w) (nW:b∉wv.ownBlock.toList/\p∉wv.ownBlock.toList/\q∉wv.ownBlock.toList) :
  Calls Tryz.prog 109 #[.pointer (some ⟨b,0,none⟩),.pointer (some ⟨p,0,none⟩)] w fun e w'=>e = .returned (.bool (decide ((x.step s).1.line=0)))/\Q8 w' b (x.step s).1 vv lv gv wv/\Rar w' p q (x.step s).2/\Fr [b,p,q] w w':=by
 generalize hy:x.step s=y;have HY:=q9 hy;clear hy;obtain ⟨hi0,hi1⟩:=hi;obtain ⟨av,cv,rfl,hcv,hmv,-⟩:=id hW;obtain ⟨i,hxi⟩:∃ i:Nat,x.i=(i:Int):=⟨x.i.toNat,by omega⟩;obtain ⟨u,hu⟩:∃ u,x.w[i]? = some u:=⟨x.w[i]'(by omega),List.getElem?_eq_getElem _⟩;obtain ⟨g,off,rfl,-,-⟩:=q1x hW hu;have HXI:=q9 hxi;have hil:(i:Int)<(x.w.length:Int):=by omega
 have hil0:(0:Int)<=(i:Int):=by omega
 have HNT:=q9 (show x.nth=u by unfold Bd.nth;rw [hxi,Int.toNat_natCast,List.getD_eq_getElem?_getD,hu];rfl);have HW9:=q9 (qc hW (qc hu nW));clear hW hu nW hxi;obtain ⟨c0,c1,c2,c3,c4,c5,c6,c7,c8,c9,c10,c11,c12,c13,c14,c15,c16,c17,c18,c19⟩:=zi h;rw [hl] at c8;have z:=h.frozen;go_enter Tryz.func109,Tryz.ntmps109;go_wp2_with fail;have k0:=qb c0;have k1:=qb c1;have k2:=qb c2;have k3:=qb c3;have k4:=qb c4;have k5:=qb c5;have k9:=qb c9;clear c0 c1 c2 c3 c4 c5 c6 c7 c8 c9 c10 c11 c12 c13 c14 c15 c16 c17 c18 c19 z;refine wiq ?_;repeat (go_big_quiet_step ((go_at_call 126;exact Calls.in_ (xu x.c _ _ _ hc _))))
 refine wpQuiet_nil ?_;intro w0 F0;rw [show yt x.c x.chunk x.mate x.i=x.sa from rfl];have h0:Q8 w0 b x vv lv gv (.slice (some ⟨g,off,none⟩) x.w.length cv):=Ob.up h F0;have A0:=hA.kept F0;have D0:Fr [b,p,q] w w0:=F0.mono;have HW0:=q9 (HW9.out.1.up F0);clear k0 k1 k2 k3 k4 k5 k9 h hA F0;obtain ⟨c0,c1,c2,c3,c4,c5,c6,c7,c8,c9,c10,c11,c12,c13,c14,c15,c16,c17,c18,c19⟩:=zi h0;rw [hl] at c8;have z:=h0.frozen;go_wp2_with fail;clear c0 c1 c2 c3 c4 c5 c6 c7 c8 c9 c10 c11 c12 c13 c14 c15 c16 c17 c18 c19 z;refine z7 Le [p,q] (fun w2 F2=>?_);refine epq [true,true,true,true,true,true,true,true,true,true,true,true,true,true,true,true,true,true,true,true,true,true,true,false] 1 (F2.mono) ?_;apply qg;refine ⟨fun wf Ff=>?_,?_⟩
 ·have hf:Q8 wf b x vv lv gv (.slice (some ⟨g,off,none⟩) x.w.length cv):=Ob.kept h0 Ff Lf;obtain ⟨-,-,-,-,-,-,-,-,-,c9,-,-,-,-,-,-,-,c17,-,-⟩:=zi hf;rw [HXI.out] at c9;obtain ⟨g',off',e1,d0,d1⟩:=q1x (HW0.out.kept Ff (fun k hk hi=>by simp only [List.mem_cons,List.not_mem_nil,or_false] at hi;rcases hi with rfl | rfl;exact HW9.out.2.2.2.1 hk;exact HW9.out.2.2.2.2 hk)) HW9.out.2.1;simp only [Option.some.injEq,Addr.mk.injEq] at e1;obtain ⟨rfl,rfl,-⟩:=e1;have k20:=qb d0;have k21:=qb d1;clear d0 d1;have k9:=qb c9;have k17:=qb c17;clear hf c9 c17;exact Ab
 refine eoq 23 (fun w3 F3=>?_);have E3:=F2.trans F3;have A3:=A0.kept E3;have h3:Q8 w3 b x vv lv gv (.slice (some ⟨g,off,none⟩) x.w.length cv):=Ob.up h0 E3;have G3:=zm D0 E3 Lc;clear F2 F3 A0 h0 D0;go_wp2_with fail;refine (Ref.jr _ p q s _ _ A3).mono ?_;rintro e w4 ⟨rfl,A4,F4⟩;have E4:=(E3.mono (T:=[p,q]) Lc).trans F4;have h4:Q8 w4 b x vv lv gv (.slice (some ⟨g,off,none⟩) x.w.length cv):=Ob.kept h3 F4 Lf;have G4:=zm G3 F4 Lc;clear A3 h3 F4 G3 E3;go_wp2_with fail;refine ql ⟨E4,?_⟩;refine zr Le (fun w5 F5=>?_);have D5:=G4.then F5;have h5:Q8 w5 b x vv lv gv (.slice (some ⟨g,off,none⟩) x.w.length cv):=Ob.up h4 F5;have A5:=A4.kept F5;clear A4 h4 F5 G4 E4;obtain ⟨c0,c1,c2,c3,c4,c5,c6,c7,c8,c9,c10,c11,c12,c13,c14,c15,c16,c17,c18,c19⟩:=zi h5;have z:=h5.frozen;rw [HXI.out] at c9;go_wp2_with fail;have h6:Q8 _ b { x with i:=(i:Int)+1 } vv lv gv (.slice (some ⟨g,off,none⟩) x.w.length cv):=(Ob.set h5 (i:=9) (.int .i64 ((i:Int)+1)));have A6:=(Rar.set A5 hp hq (i:=9) (.int .i64 ((i:Int)+1)));have D6:=(Fr.setCell' D5 (b:=b) (i:=9) (.int .i64 ((i:Int)+1)) Lc);clear c0 c1 c2 c3 c4 c5 c6 c7 c8 c9 c10 c11 c12 c13 c14 c15 c16 c17 c18 c19 z h5 A5 D5;generalize (w5.setCell ⟨b,9,none⟩ (.int .i64 ((i:Int)+1)))=w6 at *;obtain ⟨c0,c1,c2,c3,c4,c5,c6,c7,c8,c9,c10,c11,c12,c13,c14,c15,c16,c17,c18,c19⟩:=zi h6;have k9:=qb c9;have k17:=qb c17;clear c0 c1 c2 c3 c4 c5 c6 c7 c8 c9 c10 c11 c12 c13 c14 c15 c16 c17 c18 c19;refine wiq ?_;repeat (go_big_quiet_step (fail))
 refine wpQuiet_nil ?_;intro w7 F7;have h7:=Ob.up h6 F7;have A7:=A6.kept F7;have D7:=D6.then F7;clear k9 k17 h6 A6 D6 F7;obtain ⟨c0,c1,c2,c3,c4,c5,c6,c7,c8,c9,c10,c11,c12,c13,c14,c15,c16,c17,c18,c19⟩:=zi h7;rw [show ({ x with i:=(i:Int)+1 }:Bd).line=6 from hl] at c8;have z:=h7.frozen;by_cases hge:(x.w.length:Int)<=(i:Int)+1
 ·go_wp2_with fail;go_ret;have hn:y=({ x with i:=(i:Int)+1,line:=7 },s.store u.1 u.2):=by rw [<- HY.out];unfold Bd.step;simp [hl,HNT.out,HXI.out,hge]
  subst hn;exact ⟨rfl,Ob.set h7 _,Rar.set A7 hp hq _,Fr.setCell' D7 _ Lc⟩
 ·go_wp2_with fail;go_ret;have hn:y=({ x with i:=(i:Int)+1,line:=6 },s.store u.1 u.2):=by rw [<- HY.out];unfold Bd.step;simp [hl,HNT.out,HXI.out,(show ¬ (x.w.length:Int)<=(i:Int)+1 by omega)]
  subst hn;exact ⟨rfl,by rw [<- hl];exact h7,A7,D7⟩
theorem qba (x:Bd) (hl:x.line=4) (hx:qcx x) (b p q:Nat) (s:St) (w:World) (vv lv gv wv:Value) (h:Q8 w b x vv lv gv wv) (hA:Rar w p q s) (hp:b≠p) (hq:b≠q) (hV:Sq fI w vv x.versions) (hO:w.ownsRow 0 148 3 lv x.l.length (x.l.flatMap fT)) (nV:b∉vv.ownBlock.toList/\p∉vv.ownBlock.toList/\q∉vv.ownBlock.toList) (nL:b∉lv.ownBlock.toList/\p∉lv.ownBlock.toList/\q∉lv.ownBlock.toList) (nVL:∀ k,k∈vv.ownBlock.toList->k∉lv.ownBlock.toList) :
  Calls Tryz.prog 109 #[.pointer (some ⟨b,0,none⟩),.pointer (some ⟨p,0,none⟩)] w fun e w'=>e = .returned (.bool (decide ((x.step s).1.line=0)))/\(∃ lv' gv',Q8 w' b (x.step s).1 vv lv' gv' wv/\w'.ownsRow 0 148 3 lv' (x.step s).1.l.length ((x.step s).1.l.flatMap fT)/\(∀ k,k∈lv'.ownBlock.toList->k∈lv.ownBlock.toList\/w.heap.size<=k)/\(((x.step s).1.groups=x.groups/\gv'=gv)\/∃ ss,Sq fS w' gv' ss/\Gs w' ss (x.step s).1.groups/\(∀ k,k∈gv'.ownBlock.toList->w.heap.size<=k/\k<w'.heap.size)/\(∀ s,s∈ss->∀ k,k∈s.v.ownBlock.toList->w.heap.size<=k/\k<w'.heap.size)/\(∀ k,k∈lv'.ownBlock.toList->k∉gv'.ownBlock.toList/\∀ s,s∈ss->k∉s.v.ownBlock.toList)))/\Rar w' p q (x.step s).2/\Fr ([b,p,q]++lv.ownBlock.toList) w w':=by
 have hc:=hx.c;generalize hy:x.step s=y;have HY:=q9 hy;clear hy;obtain ⟨al,cl,rfl,hcl,hml,-⟩:=id (Sq.own (f:=fT) hO);obtain ⟨c0,c1,c2,c3,c4,c5,c6,c7,c8,c9,c10,c11,c12,c13,c14,c15,c16,c17,c18,c19⟩:=zi h;rw [hl] at c8;have z:=h.frozen;go_enter Tryz.func109,Tryz.ntmps109;go_wp2_with fail;have k0:=qb c0;have k1:=qb c1;have k2:=qb c2;have k3:=qb c3;have k4:=qb c4;have k5:=qb c5;have k9:=qb c9;clear c0 c1 c2 c3 c4 c5 c6 c7 c8 c9 c10 c11 c12 c13 c14 c15 c16 c17 c18 c19 z;refine wiq ?_;repeat (go_big_quiet_step ((go_at_call 126;exact Calls.in_ (xu x.c _ _ _ hc _))))
 refine wpQuiet_nil ?_;intro w0 F0;rw [show yt x.c x.chunk x.mate x.i=x.sa from rfl];have h0:Q8 w0 b x vv (.slice al x.l.length cl) gv wv:=Ob.up h F0;have A0:=hA.kept F0;have D0:Fr [b,p,q] w w0:=F0.mono;clear k0 k1 k2 k3 k4 k5 k9 h hA F0;obtain ⟨c0,c1,c2,c3,c4,c5,c6,c7,c8,c9,c10,c11,c12,c13,c14,c15,c16,c17,c18,c19⟩:=zi h0;rw [hl] at c8;have z:=h0.frozen;go_wp2_with fail;clear c0 c1 c2 c3 c4 c5 c6 c7 c8 c9 c10 c11 c12 c13 c14 c15 c16 c17 c18 c19 z;refine (Ref.zl _ p q s _ A0).mono ?_;rintro e w5 ⟨rfl,A5,F5⟩;have h5:Q8 w5 b x vv (.slice al x.l.length cl) gv wv:=Ob.kept h0 F5 Lf;have D5:=zm D0 F5 Lc;clear A0 h0 D0 F5;obtain ⟨c0,c1,c2,c3,c4,c5,c6,c7,c8,c9,c10,c11,c12,c13,c14,c15,c16,c17,c18,c19⟩:=zi h5;have z:=h5.frozen;generalize hv:qw s.l (wrap64 (x.sa+2))=v at *;have HV:=q9 hv;clear hv;go_wp2_with fail;have h6:Q8 _ b { x with x:=⟨x.x.k,x.x.v,v⟩ } vv (.slice al x.l.length cl) gv wv:=Ob.set h5 (i:=14) (.int .i64 v);have A6:=Rar.set A5 hp hq (i:=14) (.int .i64 v);have D6:=Fr.setCell' D5 (b:=b) (i:=14) (.int .i64 v) Lc;clear c0 c1 c2 c3 c4 c5 c6 c7 c8 c9 c10 c11 c12 c13 c14 c15 c16 c17 c18 c19 z h5 A5 D5;generalize (w5.setCell ⟨b,14,none⟩ (.int .i64 v))=w6 at *;have r6:=Q4 hO D6 (fun k hk hi=>by simp only [List.mem_cons,List.not_mem_nil,or_false] at hi;have hk2:k∈(Value.slice al x.l.length cl).ownBlock.toList:=(by rw [hk];simp);rcases hi with rfl | rfl | rfl;exact nL.1 hk2;exact nL.2.1 hk2;exact nL.2.2 hk2);have V6:=hV.kept D6 (fun k hk hi=>by simp only [List.mem_cons,List.not_mem_nil,or_false] at hi;rcases hi with rfl | rfl | rfl;exact nV.1 hk;exact nV.2.1 hk;exact nV.2.2 hk);have nb:=nL.1;have hlx:=hx.l;have HN:=q9 (qc nV (qc nL nVL));clear hO hV nV nL nVL;refine qp Le ?_;refine za (Value.slice al x.l.length cl).ownBlock.toList w6 #[true,true,true,true,true,true,true,true,true,true,true,false,false,false] 11 3 rfl ?_;refine lpq [true,true,true,true,true,true,true,true,true,false,false,false,false,false] 2 ((Fr.refl _ _).drew) ?_;apply qg;refine ⟨fun wf Ff=>?_,?_⟩
 ·obtain ⟨-,-,-,-,-,-,-,-,-,-,-,-,c12,c13,c14,c15,-,-,-,-⟩:=zi (Ob.kept h6 Ff nb);have k12:=qb c12;have k13:=qb c13;have k14:=qb c14;have k15:=qb c15;clear c12 c13 c14 c15;exact Ab
 refine loq 9 (fun w10 F10=>?_);have G:=((Fr.refl (Value.slice al x.l.length cl).ownBlock.toList w6).drew).then F10;have r10:=qo r6 ((Fr.refl [] w6).drew.trans F10);clear F10;go_wp2_with fail;have F12:=(Fr.refl [] w10).alloc (.cells #[.int .i64 x.x.k,.int .i64 x.x.v,.int .i64 v] 148);have B12:=Go.heap_alloc_new w10 (.cells #[.int .i64 x.x.k,.int .i64 x.x.v,.int .i64 v] 148);have r12:=qo r10 F12;replace G:=G.then F12;clear r10 F12;refine ql ⟨G,?_⟩;refine loq 10 (fun w13 F13=>?_);have r22:=qo r12 F13;have B22:=F13.heap B12 Lc;replace G:=G.then F13;clear r12 B12 F13;go_wp2_with (at_builtin;go_loud (refine wu zh rfl _ _ 129 rfl Tryz.underlying129 itI rfl (B:=0) _ x.l rfl r22 _ [(⟨x.x.k,x.x.v,v⟩:It)] rfl (Sq.block B22 rfl rfl (Nat.le_refl _) Lm) Oa Lg (Nat.zero_le _) ?_);intro a23 c23 w23 r23 f23 n23);have HG0:=q9 G.size;have hb6:=Ob.lt h6;have hb7:=G.size;have nb23:b∉(Value.slice a23 (x.l++[(⟨x.x.k,x.x.v,v⟩:It)]).length c23).ownBlock.toList:=fun hi=>by rcases n23 b hi with h | h;exact nb h;omega
 have N23:=q9 (fun k hk=>(n23 k hk).imp id (fun (e:k=_)=>(show w6.heap.size<=k by omega)));replace G:=G.trans f23;clear f23 r22 B22 n23 hb6 hb7;generalize hL2:x.l++[(⟨x.x.k,x.x.v,v⟩:It)]=l2 at *;have HL2:=q9 hL2;have HLL:=q9 (show l2.length=x.l.length+1 by rw [<- hL2];simp);clear hL2;refine ql ⟨G,?_⟩;refine qy (k:=11) rfl Le (fun w15 F15=>?_);have r15:=qo r23 F15;replace G:=G.then F15;clear r23 F15;have h15:=Ob.kept h6 G nb;have V15:=V6.kept G HN.out.2.2;have A15:=A6.kept G HN.out.2.1.2.1 HN.out.2.1.2.2;have z:=h15.frozen;obtain ⟨c0,c1,c2,c3,c4,c5,c6,c7,c8,c9,c10,c11,c12,c13,c14,c15,c16,c17,c18,c19⟩:=zi h15;have D15:Fr ([b,p,q]++(Value.slice al x.l.length cl).ownBlock.toList) w w15:=(D6.mono Ms).trans (G.mono (by intro k hk;simp at hk ⊢;simp [hk]));have D6s:=q9 D6.size;clear h6 V6 A6 D6 G;go_wp2_with fail;have r16:w15.ownsRow 0 148 3 (.slice a23 (x.l.length+1) c23) l2.length (l2.flatMap fT):=by rw [<- HLL.out];exact r15
 rw [HLL.out] at nb23;have h16:Q8 _ b { x with x:=⟨x.x.k,x.x.v,v⟩,l:=l2 } vv (.slice a23 (x.l.length+1) c23) gv wv:=Ob.set h15 (i:=15) (.slice a23 (x.l.length+1) c23);have SF:Fr [b] w15 (w15.setCell ⟨b,15,none⟩ (.slice a23 (x.l.length+1) c23)):=Fr.setCell _ Lc;have A16:=Rar.set A15 hp hq (i:=15) (.slice a23 (x.l.length+1) c23);have r17:=Q4 r16 SF (fun g hg hi=>nb23 Nz);have V17:=V15.kept SF (fun k hk hi=>by simp at hi;subst hi;exact HN.out.1.1 hk);have D16:Fr ([b,p,q]++(Value.slice al x.l.length cl).ownBlock.toList) w _:=D15.trans (SF.mono (by intro k hk;simp at hk;simp [hk]));clear c0 c1 c2 c3 c4 c5 c6 c7 c8 c9 c10 c11 c12 c13 c14 c15 c16 c17 c18 c19 z h15 A15 D15 SF r16 r15 V15;generalize (w15.setCell ⟨b,15,none⟩ (.slice a23 (x.l.length+1) c23))=w16 at *;have hi0:=hx.i0;have hi1:=hx.i1;have hvl:=hx.v;have hll:=HLL.out;refine (Tn { x with x:=⟨x.x.k,x.x.v,v⟩,l:=l2 } hc ⟨by simp only;omega,by simp only;omega⟩ Ls Ls b _ vv _ gv wv h16 V17 (Sq.own (f:=fT) r17) HN.out.1.1 nb23).mono ?_;rintro e w7 ⟨rfl,⟨gv',h7,hg⟩,F7⟩;have A7:=A16.kept F7 Oq Ot;have D7:=D16.trans (F7.mono (T:=[b,p,q]++(Value.slice al x.l.length cl).ownBlock.toList) (by intro k hk;simp at hk;simp [hk]));have r7:=Q4 r17 F7 (fun g hg hi=>nb23 Nz);have HG:=q9 hg;have HW:=q9 (qc D16.size (qc r7 (Zk r17)));have hlo:(Bd.on { x with x:=⟨x.x.k,x.x.v,v⟩,l:=l2 }).l=l2:=by unfold Bd.on;split <;> rfl
 have hgo:({ x with x:=⟨x.x.k,x.x.v,v⟩,l:=l2 }:Bd).groups=x.groups:=rfl;generalize hyo:Bd.on { x with x:=⟨x.x.k,x.x.v,v⟩,l:=l2 } = yo at *;have HYO:=q9 (qc hyo hlo);clear h16 A16 D16 V17 r17 r7 hg F7 hi0 hi1 hvl hll hyo hlo hgo nb23;obtain ⟨c0,c1,c2,c3,c4,c5,c6,c7,c8,c9,c10,c11,c12,c13,c14,c15,c16,c17,c18,c19⟩:=zi h7;have z:=h7.frozen;go_wp2_with fail;go_ret;have hn:y=(yo,s.load (wrap64 (x.sa+2))):=by rw [<- HY.out,<- HYO.out.1,<- HL2.out];unfold Bd.step;simp [hl,HV.out]
 subst hn;refine ⟨rfl,⟨_,gv',h7,?_,?_,?_⟩,A7,D7⟩
 ·rw [HYO.out.2];exact HW.out.2.1
 ·rw [<- HLL.out];exact fun k hk=>(N23.out k hk).imp id (fun e=>qh D6s.out e)
 ·refine HG.out.imp id (fun ⟨ss,a1,a2,a3,a4⟩=>⟨ss,a1,a2,fun k hk=>⟨qh HW.out.1 (a3 k hk).1,(a3 k hk).2⟩,fun s hs k hk=>⟨qh HW.out.1 (a4 s hs k hk).1,(a4 s hs k hk).2⟩,fun k hk=>⟨fun hi=>?_,fun s hs hi=>?_⟩⟩)
  ·have h1:=HW.out.2.2 k hk;have h2:=(a3 k hi).1;omega
  ·have h1:=HW.out.2.2 k hk;have h2:=(a4 s hs k hi).1;omega
theorem Jq {c:Cf} {cap:Nat} (hc:c.c=(cap:Int)) (at_ after least:Int) (gs:List (List It)):∀ n,n∈yf c at_ after least gs->n.its.length<=cap:=by
 intro n hn;unfold yf at hn;split at hn
 ·rename_i ha
  have h2:∀ g,g∈gs->g.length<=cap:=fun g hg=>by
   have h3:=List.all_eq_true.1 ha g hg;have h4:(g.length:Int)<=c.c:=by simpa using h3
   rw [hc] at h4;omega
  clear ha;generalize xg least gs=ms at hn;induction gs generalizing at_ ms with
  | nil=>simp [jf] at hn
  | cons g r ih =>
   unfold jf at hn;rcases List.mem_cons.1 hn with rfl | hn
   ·exact h2 g Lc
   ·exact ih _ (fun g' hg'=>h2 g' (by simp [hg'])) _ hn
 ·simp at hn
theorem Jv (c:Cf) (at_ after least:Int) (gs:List (List It)):(yf c at_ after least gs).length<=gs.length:=by
 unfold yf;split
 ·rw [yp];exact Nat.le_refl _
 ·simp
theorem q1w {g:Nat} {c:Int} (hg:g<=100) (h2:0<=c) (h16:c<=16):wrap64 ((g:Int) * (7+3 * c))=(g:Int) * (7+3 * c)/\0<=(g:Int) * (7+3 * c)/\(g:Int) * (7+3 * c)<=5500:=by have h0:0<=(g:Int) * (7+3 * c):=Int.mul_nonneg Lb Lb;have h1:(g:Int) * (7+3 * c)<=100 * 55:=Int.mul_le_mul Lb Lb Lb Lb;exact ⟨w64 Lb Lb,h0,by omega⟩
theorem qa9 (x:Bd) (hl:x.line=5) (hx:qcx x) (hgl:x.groups.length<=100) (hgf:x.groups.flatten.length<=1000) (b p q:Nat) (s:St) (w:World) (vv lv gv wv:Value) (h:Q8 w b x vv lv gv wv) (hA:Rar w p q s) (hp:b≠p) (hq:b≠q) (ss:List Sv) (hG:Sq fS w gv ss) (hGs:Gs w ss x.groups) (nG:b∉gv.ownBlock.toList/\p∉gv.ownBlock.toList/\q∉gv.ownBlock.toList) (hnG:∀ s,s∈ss->b∉s.v.ownBlock.toList/\p∉s.v.ownBlock.toList/\q∉s.v.ownBlock.toList) :
  Calls Tryz.prog 109 #[.pointer (some ⟨b,0,none⟩),.pointer (some ⟨p,0,none⟩)] w fun e w'=>e = .returned (.bool (decide ((x.step s).1.line=0)))/\(∃ wv',Q8 w' b (x.step s).1 vv lv gv wv'/\(((x.step s).1.w=x.w/\wv'=wv)\/(Sq fQ w' wv' (x.step s).1.w/\∀ k,k∈wv'.ownBlock.toList->w.heap.size<=k/\k<w'.heap.size)))/\Rar w' p q (x.step s).2/\Fr [b,p,q] w w':=by
 have hc:=hx.c;generalize hy:x.step s=y;have HY:=q9 hy;clear hy;obtain ⟨ag,cg,rfl,hcg,hmg,-⟩:=id hG;have hsl:=hGs.1;have HGS:=q9 (qc hG (qc hGs (qc nG hnG)));rw [hsl] at h hcg ⊢;have hcw:=hx.c.w2;have hcw1:=hx.c.w1;have hc16:=hx.c.c16;have hc2:=hx.c.c2;have hct:=hx.c.t1;clear hG hGs nG hsl hnG;obtain ⟨c0,c1,c2,c3,c4,c5,c6,c7,c8,c9,c10,c11,c12,c13,c14,c15,c16,c17,c18,c19⟩:=zi h;rw [hl] at c8;have z:=h.frozen;go_enter Tryz.func109,Tryz.ntmps109;go_wp2_with fail;have k0:=qb c0;have k1:=qb c1;have k2:=qb c2;have k3:=qb c3;have k4:=qb c4;have k5:=qb c5;have k9:=qb c9;clear c0 c1 c2 c3 c4 c5 c6 c7 c8 c9 c10 c11 c12 c13 c14 c15 c16 c17 c18 c19 z;refine wiq ?_;repeat (go_big_quiet_step ((go_at_call 126;exact Calls.in_ (xu x.c _ _ _ hc _))))
 refine wpQuiet_nil ?_;intro w0 F0;rw [show yt x.c x.chunk x.mate x.i=x.sa from rfl];have h0:Q8 w0 b x vv lv (.slice ag x.groups.length cg) wv:=Ob.up h F0;have A0:=hA.kept F0;have D0:Fr [b,p,q] w w0:=F0.mono;clear k0 k1 k2 k3 k4 k5 k9 h hA F0;obtain ⟨c0,c1,c2,c3,c4,c5,c6,c7,c8,c9,c10,c11,c12,c13,c14,c15,c16,c17,c18,c19⟩:=zi h0;rw [hl] at c8;have z:=h0.frozen;go_wp2_with fail;have k0:=qb c0;have k1:=qb c1;have k2:=qb c2;have k3:=qb c3;have k16:=qb c16;clear c0 c1 c2 c3 c4 c5 c6 c7 c8 c9 c10 c11 c12 c13 c14 c15 c16 c17 c18 c19 z;refine wiq ?_;repeat (go_big_quiet_step ((go_at_call 18;exact Calls.in_ (Ref.Zq _ _ _ _ Lb Lb _))))
 refine wpQuiet_nil ?_;intro w1 F1;have h1:Q8 w1 b x vv lv (.slice ag x.groups.length cg) wv:=Ob.up h0 F1;have A1:=A0.kept F1;have D1:Fr [b,p,q] w w1:=D0.then F1;clear k0 k1 k2 k3 k16 h0 A0 D0 F1;obtain ⟨c0,c1,c2,c3,c4,c5,c6,c7,c8,c9,c10,c11,c12,c13,c14,c15,c16,c17,c18,c19⟩:=zi h1;have z:=h1.frozen;obtain ⟨hz1,hz2,hz3⟩:=q1w (c:=x.c.c) hgl Lb Lb;rw [hz1];generalize hN:(x.groups.length:Int) * (7+3 * x.c.c)=N at *;have HN:=q9 (qc hN hz1);clear hN hz1;go_wp2_with fail;clear c0 c1 c2 c3 c4 c5 c6 c7 c8 c9 c10 c11 c12 c13 c14 c15 c16 c17 c18 c19 z;refine (Ref.Uy _ p q s _ _ A1).mono ?_;rintro e w5 ⟨rfl,A5,F5⟩;have h5:Q8 w5 b x vv lv (.slice ag x.groups.length cg) wv:=Ob.kept h1 F5 Lf;have D5:=zm D1 F5 Lc;clear A1 h1 D1 F5;obtain ⟨c0,c1,c2,c3,c4,c5,c6,c7,c8,c9,c10,c11,c12,c13,c14,c15,c16,c17,c18,c19⟩:=zi h5;have z:=h5.frozen;generalize hv:qw s.l 2=v at *;have HV:=q9 hv;clear hv;go_wp2_with fail;have h6:Q8 _ b { x with at_:=v } vv lv (.slice ag x.groups.length cg) wv:=Ob.set h5 (i:=11) (.int .i64 v);have A6:=Rar.set A5 hp hq (i:=11) (.int .i64 v);have D6:=Fr.setCell' D5 (b:=b) (i:=11) (.int .i64 v) Lc;clear c0 c1 c2 c3 c4 c5 c6 c7 c8 c9 c10 c11 c12 c13 c14 c15 c16 c17 c18 c19 z h5 A5 D5;generalize (w5.setCell ⟨b,11,none⟩ (.int .i64 v))=w6 at *;have G6:Sq fS w6 (.slice ag x.groups.length cg) ss:=by have hk:=HGS.out.1.kept D6 (fun k hk hi=>by simp only [List.mem_cons,List.not_mem_nil,or_false] at hi;rcases hi with rfl | rfl | rfl;exact HGS.out.2.2.1.1 hk;exact HGS.out.2.2.1.2.1 hk;exact HGS.out.2.2.1.2.2 hk);rw [HGS.out.2.1.1] at hk;exact hk
 have S6:=HGS.out.2.1.kept D6 (fun s hs k hk hi=>by simp only [List.mem_cons,List.not_mem_nil,or_false] at hi;have h9:=HGS.out.2.2.2 s hs;rcases hi with rfl | rfl | rfl;exact h9.1 hk;exact h9.2.1 hk;exact h9.2.2 hk);obtain ⟨cap,hcap⟩:∃ cap:Nat,x.c.c=(cap:Int):=⟨x.c.c.toNat,by omega⟩;have HCP:=q9 (qc hcap (qc (show 1<=cap by omega) (show cap<=16 by omega)));clear hcap;refine z7 Le [] (fun w7 F7=>?_);refine epq [true,true,true,true,true,true,true,true,true,true,true,true,true,true,true,true,true,true,true,true,false,false] 2 F7 ?_;apply qg;refine ⟨fun wf Ff=>?_,?_⟩
 ·obtain ⟨c0,c1,c2,c3,-,-,c6,-,-,-,c10,c11,-,-,-,-,c16,-,-,-⟩:=zi (Ob.up h6 Ff);have k0:=qb c0;have k1:=qb c1;have k2:=qb c2;have k3:=qb c3;have k6:=qb c6;have k10:=qb c10;have k11:=qb c11;have k16:=qb c16;clear c0 c1 c2 c3 c6 c10 c11 c16;exact Ab
 refine eoq 20 (fun w8 F8=>?_);have E8:=F7.trans F8;clear F7 F8;go_wp2_with fail;refine (q1c x.c cap v x.after x.mn x.groups ss _ _ HCP.out.1 HCP.out.2.1 HCP.out.2.2 Lb hgf (G6.up E8) (S6.up E8)).mono ?_;rintro e w9 ⟨⟨r,xs,rfl,hr9,hx9⟩,F9⟩;replace E8:=E8.trans F9;clear F9;obtain ⟨ar,cr,rfl,hcr,hmr,-⟩:=id (Sq.own (f:=fH) hr9);have hns:=Jv x.c (wrap64 v) x.after x.mn x.groups;have HIT:=q9 (Jq HCP.out.1 (wrap64 v) x.after x.mn x.groups);generalize hNS:yf x.c (wrap64 v) x.after x.mn x.groups=ns at *;have HNS:=q9 (qc hNS hns);clear hNS hns;go_wp2_with fail;refine ql ⟨E8,?_⟩;refine eoq 21 (fun wx Fx=>?_);replace E8:=E8.trans Fx;have r10:=qo hr9 Fx;have x10:=hx9.up Fx;clear Fx hr9 hx9;go_wp2_with fail;refine ql ⟨E8,?_⟩;refine zr Le (fun w11 F11=>?_);replace E8:=E8.trans F11;have h11:=Ob.up h6 E8;have A11:=A6.kept E8;have D11:=D6.then E8;have HX:=q9 (qc (qo r10 F11) (qc (x10.up F11) (qh D6.size E8.size)));have hxl:=x10.1;clear r10 x10 F11 E8 h6 A6 D6 G6 S6;have HXL:=q9 hxl;clear hxl;obtain ⟨c0,c1,c2,c3,-,-,-,-,-,-,-,c11,-,-,-,-,-,-,-,-⟩:=zi h11;go_wp2_with fail;by_cases h1:v<1
 ·have g1:decide (v<1)=true:=by simpa using h1
  have k2:=qb c2;have k11:=qb c11;clear c0 c1 c2 c3 c11;refine wiq ?_;repeat (go_big_quiet_step (fail))
  refine wpQuiet_nil ?_;intro w12 F12;have h12:=Ob.up h11 F12;have A12:=A11.kept F12;have D12:=D11.then F12;have HX2:=q9 (qc (qo HX.out.1 F12) (qc (HX.out.2.1.up F12) (qh HX.out.2.2 F12.size)));clear k2 k11 h11 A11 D11 F12;obtain ⟨c0,c1,c2,c3,c4,c5,c6,c7,c8,c9,c10,c11,c12,c13,c14,c15,c16,c17,c18,c19⟩:=zi h12;have z:=h12.frozen;go_wp2_with fail;go_ret
  have hn:y=({ x with at_:=v,e:=14,line:=0 },s.add 2 N):=by rw [<- HY.out];unfold Bd.step;rw [qd Lb,qd Lb,qd Lb,qd Lb,qf hl];have e1:(x.groups.length:Int) * z6 x.c=N:=HN.out.1;unfold Bd.five;rw [HV.out,e1];simp only;rw [HNS.out.1,qf (.inl h1)]
  exact Be
 ·have g1:decide (v<1)=false:=by simpa using h1
  by_cases h2:x.c.wd - N<v
  ·have g2:decide (v>x.c.wd - N)=true:=by simpa using h2
   have k2:=qb c2;have k11:=qb c11;clear c0 c1 c2 c3 c11;refine wiq ?_;repeat (go_big_quiet_step (fail))
   refine wpQuiet_nil ?_;intro w12 F12;have h12:=Ob.up h11 F12;have A12:=A11.kept F12;have D12:=D11.then F12;have HX2:=q9 (qc (qo HX.out.1 F12) (qc (HX.out.2.1.up F12) (qh HX.out.2.2 F12.size)));clear k2 k11 h11 A11 D11 F12;obtain ⟨c0,c1,c2,c3,c4,c5,c6,c7,c8,c9,c10,c11,c12,c13,c14,c15,c16,c17,c18,c19⟩:=zi h12;have z:=h12.frozen;go_wp2_with fail;go_ret
   have hn:y=({ x with at_:=v,e:=14,line:=0 },s.add 2 N):=by rw [<- HY.out];unfold Bd.step;rw [qd Lb,qd Lb,qd Lb,qd Lb,qf hl];have e1:(x.groups.length:Int) * z6 x.c=N:=HN.out.1;unfold Bd.five;rw [HV.out,e1];simp only;rw [HNS.out.1,qf (.inr (.inl h2))]
   exact Be
  ·have g2:decide (v>x.c.wd - N)=false:=by simpa using h2
   by_cases h3:xs.length=0
   ·have h3z:((xs.length:Nat):Int)=0:=by omega
    have HN0:=q9 (show ns=[] from List.eq_nil_of_length_eq_zero (by rw [<- HXL.out];exact h3));have k2:=qb c2;have k11:=qb c11;clear c0 c1 c2 c3 c11;refine wiq ?_;repeat (go_big_quiet_step (fail))
    refine wpQuiet_nil ?_;intro w12 F12;have h12:=Ob.up h11 F12;have A12:=A11.kept F12;have D12:=D11.then F12;have HX2:=q9 (qc (qo HX.out.1 F12) (qc (HX.out.2.1.up F12) (qh HX.out.2.2 F12.size)));clear k2 k11 h11 A11 D11 F12;obtain ⟨c0,c1,c2,c3,c4,c5,c6,c7,c8,c9,c10,c11,c12,c13,c14,c15,c16,c17,c18,c19⟩:=zi h12;have z:=h12.frozen;go_wp2_with fail;go_ret
    have hn:y=({ x with at_:=v,e:=14,line:=0 },s.add 2 N):=by rw [<- HY.out];unfold Bd.step;rw [qd Lb,qd Lb,qd Lb,qd Lb,qf hl];have e1:(x.groups.length:Int) * z6 x.c=N:=HN.out.1;unfold Bd.five;rw [HV.out,e1];simp only;rw [HNS.out.1,qf (.inr (.inr HN0.out))]
    exact Be
   ·have h3z:¬ ((xs.length:Nat):Int)=0:=by omega
    have HN0:=q9 (show ¬ ns=[] from fun e=>h3 (by rw [HXL.out,e];rfl));have k2:=qb c2;have k11:=qb c11;clear c0 c1 c2 c3 c11;refine wiq ?_;repeat (go_big_quiet_step (fail))
    refine wpQuiet_nil ?_;intro w12 F12;have h12:=Ob.up h11 F12;have A12:=A11.kept F12;have D12:=D11.then F12;have HX2:=q9 (qc (qo HX.out.1 F12) (qc (HX.out.2.1.up F12) (qh HX.out.2.2 F12.size)));clear k2 k11 h11 A11 D11 F12;obtain ⟨c0,c1,c2,c3,c4,c5,c6,c7,c8,c9,c10,c11,c12,c13,c14,c15,c16,c17,c18,c19⟩:=zi h12;have z:=h12.frozen;clear c0 c1 c2 c3 c4 c5 c6 c7 c8 c9 c10 c11 c12 c13 c14 c15 c16 c17 c18 c19 z;go_wp2_with fail;refine (q7c cap ns xs _ w12 HCP.out.2.2 (by have:=HNS.out.2;omega) HIT.out (Sq.own (f:=fH) HX2.out.1) HX2.out.2.1).mono ?_;rintro e w13 ⟨⟨u,rfl,r13⟩,F13⟩;have h13:=Ob.up h12 F13;have A13:=A12.kept F13;have D13:=D12.then F13;have z:=h13.frozen;obtain ⟨c0,c1,c2,c3,c4,c5,c6,c7,c8,c9,c10,c11,c12,c13,c14,c15,c16,c17,c18,c19⟩:=zi h13;obtain ⟨uw,cw,rfl,hcw9,hmw9,-⟩:=id (Sq.own (f:=fQ) r13);have nw:=je r13 h13 Lg;have HR13:=q9 (qc r13 HX2.out.2.2);clear h12 A12 D12 F13 r13;generalize hWT:yg ns=wt at *;have HWT:=q9 hWT;clear hWT;go_wp2_with fail;go_ret
    have hn:y=({ x with at_:=v,w:=wt,i:=0,line:=6 },s.add 2 N):=by rw [<- HY.out];unfold Bd.step;rw [qd Lb,qd Lb,qd Lb,qd Lb,qf hl];have e1:(x.groups.length:Int) * z6 x.c=N:=HN.out.1;unfold Bd.five;rw [HV.out,e1];simp only;rw [HNS.out.1,HWT.out,qd (by rintro (h | h | h);omega;omega;exact HN0.out h)]
    subst hn;have SF:Fr [b] w13 (((w13.setCell ⟨b,17,none⟩ (.slice uw wt.length cw)).setCell ⟨b,9,none⟩ (.int .i64 0)).setCell ⟨b,8,none⟩ (.int .i64 6)):=((Fr.setCell _ Lc).setCell' _ Lc).setCell' _ Lc;exact ⟨rfl,⟨_,Ob.set (Ob.set (Ob.set h13 _) (i:=9) (.int .i64 0)) (i:=8) (.int .i64 6),.inr ⟨(Sq.own (f:=fQ) HR13.out.1).kept SF (fun k hk hi=>by simp at hi;subst hi;exact nw hk),fun k hk=>⟨qh HR13.out.2 (z8 HR13.out.1 k Mi),qj (Zk HR13.out.1 k Mi) SF.size⟩⟩⟩,Rar.set (Rar.set (Rar.set A13 hp hq _) hp hq (i:=9) (.int .i64 0)) hp hq (i:=8) (.int .i64 6),D13.trans (SF.mono)⟩
theorem Yj (h:Int):∀ (n:Nat) (l:List It) (out:List (List It)) (cur:List It),(jy h n l out cur).length<=out.length+n+1/\(jy h n l out cur).flatten.length<=out.flatten.length+cur.length+l.length
 | 0,l,out,cur=>by unfold jy;simp
 | n+1,l,out,cur=>by
  unfold jy;cases l with
  | nil=>simp
  | cons x r =>
   simp only
   have e:(r.takeWhile (fun y=>y.k == x.k)).length+(r.dropWhile (fun y=>y.k == x.k)).length=r.length:=by rw [<- List.length_append,List.takeWhile_append_dropWhile]
   split
   ·have:=Yj h n (r.dropWhile (fun y=>y.k == x.k)) (out++[cur]) (x :: r.takeWhile (fun y=>y.k == x.k));simp only [List.length_append,List.length_cons,List.length_nil,List.flatten_append,List.flatten_cons,List.flatten_nil] at this ⊢;omega
   ·have:=Yj h n (r.dropWhile (fun y=>y.k == x.k)) out (cur++(x :: r.takeWhile (fun y=>y.k == x.k)));simp only [List.length_append,List.length_cons] at this ⊢;omega
theorem q2y (l:List It) (cells:Int):(xy l cells).length<=l.length+1/\(xy l cells).flatten.length<=l.length:=by have:=Yj (Xy cells) l.length l [] [];unfold xy;simp at this;simp;omega
structure Zg (x:Bd):Prop where
 c:x.c.Ok
 ln:1<=x.line/\x.line<=8
 v:x.versions.length<=100
 i1:x.line=1->x.i=0
 i4:2<=x.line/\x.line<=4->0<=x.i/\x.i<Q3 x.c x.mate/\(x.l.length:Int)<=x.i
 i5:x.line=5->0<=x.i/\x.i<=40
 l1:x.line=1->x.l=[]
 l:x.l.length<=40
 g:x.groups.length<=41/\x.groups.flatten.length<=40
 w:x.w.length<=100000
 w6:x.line=6->0<=x.i/\x.i<(x.w.length:Int)
 i0:-1<=x.i
theorem Xa {c:Cf} (h:c.Ok) (m:Int):3<=Q3 c m/\Q3 c m<=32:=by have h1:=h.c2;have h2:=h.c16;have h3:=h.t1;unfold Q3;split <;> omega
theorem Zg.ok {x:Bd} (h:Zg x) (hl:x.line<=5):qcx x:=by
 have h1:=h.i1;have h4:=h.i4;have h5:=h.i5;have hL:=h.l;have hv:=h.v;have h0:=h.i0;have hn:=h.ln;have hc:=Xa h.c x.mate;refine ⟨h.c,h0,?_,by omega,hv⟩;rcases (by omega:x.line=1\/(2<=x.line/\x.line<=4)\/x.line=5) with e | e | e
 ·have:=h1 e;omega
 ·have:=h4 e;omega
 ·have:=h5 e;omega
theorem Zg.on {x:Bd} (hc:x.c.Ok) (hv:x.versions.length<=100) (hi:-1<=x.i/\x.i<Q3 x.c x.mate) (hl:(x.l.length:Int)<=x.i+1) (hg:x.groups.length<=41/\x.groups.flatten.length<=40) (hw:x.w.length<=100000):Zg x.on:=by
 have h1:=Xa hc x.mate;unfold Bd.on;split
 ·have h2:=q2y (Yf x.l x.versions) x.c.c;have h3:=Tw x.l x.versions;exact ⟨hc,by simp,hv,by simp,by simp,by simp;omega,by simp,by simp;omega,by simp only;omega,hw,by simp,by simp;omega⟩
 ·exact ⟨hc,by simp,hv,by simp,by simp;omega,by simp,by simp,by simp;omega,hg,hw,by simp,by simp;omega⟩
theorem q37 {ns:List Nk} (h:ns≠[]):0<(yg ns).length:=by
 cases ns with
 | nil=>exact absurd rfl h
 | cons n r=>unfold yg;rw [List.flatMap_cons,List.length_append];unfold Qy;simp;omega
theorem Zg.step {x:Bd} (h:Zg x) (s:St):(x.step s).1.line=0\/Zg (x.step s).1:=by
 obtain ⟨hc,hn,hv,h1,h4,h5,hl1,hl,hg,hw,h6,h0⟩:=h;have hcl:=Xa hc x.mate;rcases (by omega:x.line=1\/x.line=2\/x.line=3\/x.line=4\/x.line=5\/x.line=6\/x.line=7\/x.line=8) with e | e | e | e | e | e | e | e
 ·right;unfold Bd.step;rw [qf e];exact Zg.on (x:={ x with mn:=qw s.l (wrap64 x.chunk),i:=-1 }) hc hv ⟨by simp,by simp only;omega⟩ (by simp only;rw [hl1 e];simp) hg hw
 ·have h4':=h4 Lb;right;unfold Bd.step;rw [qd Lb,qf e];simp only;split
  ·exact Zg.on (x:={ x with x:=⟨0,Vi (qw s.l x.sa),0⟩,line:=3 }) hc hv ⟨by simp only;omega,by simp only;omega⟩ Ls hg hw
  ·exact Gj
 ·have h4':=h4 Lb;right;unfold Bd.step;rw [qd Lb,qd Lb,qf e];exact Gj
 ·have h4':=h4 Lb;right;unfold Bd.step;rw [qd Lb,qd Lb,qd Lb,qf e];simp only;exact Zg.on (x:={ x with x:=⟨x.x.k,x.x.v,qw s.l (wrap64 (x.sa+2))⟩,l:=x.l++[⟨x.x.k,x.x.v,qw s.l (wrap64 (x.sa+2))⟩] }) hc hv ⟨by simp only;omega,by simp only;omega⟩ Ll hg hw
 ·have h5':=h5 e;unfold Bd.step;rw [qd Lb,qd Lb,qd Lb,qd Lb,qf e];simp only;unfold Bd.five;simp only;split
  ·left;rfl
  ·rename_i hne;right;obtain ⟨cap,hcap⟩:∃ cap:Nat,x.c.c=(cap:Int):=⟨x.c.c.toNat,by have:=hc.c2;have:=hc.t1;omega⟩;have e1:=Yn (cap:=cap) _ (Jq hcap (wrap64 (qw s.l 2)) x.after x.mn x.groups);have e2:=Jv x.c (wrap64 (qw s.l 2)) x.after x.mn x.groups;have e3:(3+3 * cap) * (yf x.c (wrap64 (qw s.l 2)) x.after x.mn x.groups).length<=51 * 41:=Nat.mul_le_mul (by have:=hc.c16;omega) Lb;have e4:=q37 (ns:=yf x.c (wrap64 (qw s.l 2)) x.after x.mn x.groups) (fun e=>hne (.inr (.inr e)));exact ⟨hc,by simp,hv,by simp,by simp,by simp,by simp,hl,hg,by simp only;omega,fun _=>by simp only;omega,by simp⟩
 ·have h6':=h6 e;right;unfold Bd.step;rw [qd Lb,qd Lb,qd Lb,qd Lb,qd Lb,qf e];by_cases hh:(x.w.length:Int)<=x.i+1
  ·rw [qf hh];exact ⟨hc,by simp,hv,by simp,by simp,by simp,by simp,hl,hg,hw,by simp,by simp only;omega⟩
  ·rw [qd hh];exact ⟨hc,by simp,hv,by simp,by simp,by simp,by simp,hl,hg,hw,by simp only;omega,by simp only;omega⟩
 ·right;unfold Bd.step;rw [qd Lb,qd Lb,qd Lb,qd Lb,qd Lb,qd Lb,qf e];exact ⟨hc,by simp,hv,by simp,by simp,by simp,by simp,hl,hg,hw,by simp,h0⟩
 ·left;unfold Bd.step;rw [qd Lb,qd Lb,qd Lb,qd Lb,qd Lb,qd Lb,qd Lb,qf e]
theorem Zg.new {c:Cf} (hc:c.Ok) (chunk mate after:Int) {vs:List Int} (hv:vs.length<=100):Zg (Bd.new c chunk mate after vs) :=
 ⟨hc,by simp [Bd.new],hv,fun _=>rfl,by simp [Bd.new],by simp [Bd.new],fun _=>rfl,by simp [Bd.new],by simp [Bd.new],by simp [Bd.new],by simp [Bd.new],by simp [Bd.new]⟩
def Qv (vv gv wv:Value) (ss:List Sv):List Nat:=vv.ownBlock.toList++(gv.ownBlock.toList++(ss.flatMap (fun s=>s.v.ownBlock.toList)++wv.ownBlock.toList))
theorem zx {vv gv wv:Value} {ss:List Sv} {k:Nat}:k∈Qv vv gv wv ss↔k∈vv.ownBlock.toList\/k∈gv.ownBlock.toList\/(∃ s,s∈ss/\k∈s.v.ownBlock.toList)\/k∈wv.ownBlock.toList:=by unfold Qv;rw [List.mem_append,List.mem_append,List.mem_append,List.mem_flatMap]
structure BdPt (w:World) (b:Nat) (x:Bd) (vv lv gv wv:Value) (ss:List Sv):Prop where
 o:Q8 w b x vv lv gv wv
 v:Sq fI w vv x.versions
 l:w.ownsRow 0 148 3 lv x.l.length (x.l.flatMap fT)
 g:Sq fS w gv ss
 gs:Gs w ss x.groups
 sw:Sq fQ w wv x.w
 nl:b∉lv.ownBlock.toList
 nr:b∉Qv vv gv wv ss
 lr:∀ k,k∈lv.ownBlock.toList->k∉Qv vv gv wv ss
 lt:∀ k,k∈Qv vv gv wv ss->k<w.heap.size
def Ra (w:World) (B:List Nat) (b:Nat) (x:Bd):Prop:=∃ vv lv gv wv ss,BdPt w b x vv lv gv wv ss/\B=b :: (lv.ownBlock.toList++Qv vv gv wv ss)
theorem Ra.lt {w:World} {B:List Nat} {b:Nat} {x:Bd} (h:Ra w B b x):∀ k,k∈B->k<w.heap.size:=by
 obtain ⟨vv,lv,gv,wv,ss,h,rfl⟩:=h;intro k hk;rcases List.mem_cons.1 hk with rfl | hk
 ·exact Ob.lt h.o
 ·rcases List.mem_append.1 hk with hk | hk
  ·exact Zk h.l k hk
  ·exact h.lt k hk
theorem Ra.kept {S:List Nat} {w w':World} {B:List Nat} {b:Nat} {x:Bd} (h:Ra w B b x) (f:Fr S w w') (hS:∀ k,k∈B->k∉S):Ra w' B b x:=by
 obtain ⟨vv,lv,gv,wv,ss,h,rfl⟩:=h;have hr:∀ k,k∈Qv vv gv wv ss->k∉S:=fun k hk=>hS k Mv
 have hl:∀ k,k∈lv.ownBlock.toList->k∉S:=fun k hk=>hS k (by simp only [List.mem_cons,List.mem_append];exact .inr (.inl hk))
 exact ⟨vv,lv,gv,wv,ss,⟨Ob.kept h.o f (hS b Lc),h.v.kept f (fun k hk=>hr k (zx.2 (.inl hk))),Q4 h.l f (fun g hg=>hl g P6),h.g.kept f (fun k hk=>hr k (zx.2 (.inr (.inl hk)))),h.gs.kept f (fun s hs k hk=>hr k (zx.2 (.inr (.inr (.inl ⟨s,hs,hk⟩))))),h.sw.kept f (fun k hk=>hr k (zx.2 (.inr (.inr (.inr hk))))),h.nl,h.nr,h.lr,fun k hk=>qj (h.lt k hk) f.size⟩,rfl⟩
theorem Ta {w w':World} {b p q:Nat} {x x':Bd} {vv lv gv wv lv' gv' wv':Value} {ss:List Sv} (h:BdPt w b x vv lv gv wv ss) (hp:p∉b :: (lv.ownBlock.toList++Qv vv gv wv ss)) (hq:q∉b :: (lv.ownBlock.toList++Qv vv gv wv ss)) (F:Fr ([b,p,q]++lv.ownBlock.toList) w w')
  (ho:Q8 w' b x' vv lv' gv' wv') (hv:x'.versions=x.versions) (hl:w'.ownsRow 0 148 3 lv' x'.l.length (x'.l.flatMap fT)) (hl2:∀ k,k∈lv'.ownBlock.toList->k∈lv.ownBlock.toList\/w.heap.size<=k)
  (hg:(x'.groups=x.groups/\gv'=gv)\/∃ ss',Sq fS w' gv' ss'/\Gs w' ss' x'.groups/\(∀ k,k∈gv'.ownBlock.toList->w.heap.size<=k/\k<w'.heap.size)/\(∀ s,s∈ss'->∀ k,k∈s.v.ownBlock.toList->w.heap.size<=k/\k<w'.heap.size)/\(∀ k,k∈lv'.ownBlock.toList->k∉gv'.ownBlock.toList/\∀ s,s∈ss'->k∉s.v.ownBlock.toList))
  (hw:(x'.w=x.w/\wv'=wv)\/(Sq fQ w' wv' x'.w/\(∀ k,k∈wv'.ownBlock.toList->w.heap.size<=k/\k<w'.heap.size)/\∀ k,k∈lv'.ownBlock.toList->k∉wv'.ownBlock.toList)) :
  ∃ B',Ra w' B' b x'/\∀ k,k∈B'->k∈b :: (lv.ownBlock.toList++Qv vv gv wv ss)\/w.heap.size<=k:=by
 have hb:=Ob.lt h.o
 have hS:∀ k,k∈Qv vv gv wv ss->k∉[b,p,q]++lv.ownBlock.toList:=by
  intro k hk hi;simp only [List.mem_append,List.mem_cons,List.not_mem_nil,or_false] at hi;rcases hi with (rfl | rfl | rfl) | hi
  ·exact h.nr hk
  ·exact hp Mv
  ·exact hq Mv
  ·exact h.lr k hi hk
 have hv1:=h.v.kept F (fun k hk=>hS k (zx.2 (.inl hk)));rw [<- hv] at hv1;have nl:b∉lv'.ownBlock.toList:=fun hi=>by rcases hl2 b hi with e | e;exact h.nl e;omega
 have old:∀ k,k∈Qv vv gv wv ss->k<w'.heap.size:=fun k hk=>qj (h.lt k hk) F.size
 have lold:∀ k,k∈lv'.ownBlock.toList->k∉Qv vv gv wv ss:=fun k hk hi=>by rcases hl2 k hk with e | e;exact h.lr k e hi;have:=h.lt k hi;omega
 have G:∃ ss',Sq fS w' gv' ss'/\Gs w' ss' x'.groups/\(∀ k,(k∈gv'.ownBlock.toList\/∃ s,s∈ss'/\k∈s.v.ownBlock.toList)->(k∈Qv vv gv wv ss\/(w.heap.size<=k/\k<w'.heap.size/\k∉lv'.ownBlock.toList))):=by
  rcases hg with ⟨e1,rfl⟩ | ⟨ss',a1,a2,a3,a4,a5⟩
  ·refine ⟨ss,h.g.kept F (fun k hk=>hS k (zx.2 (.inr (.inl hk)))),by rw [e1];exact h.gs.kept F (fun s hs k hk=>hS k (zx.2 (.inr (.inr (.inl ⟨s,hs,hk⟩))))),fun k hk=>.inl ?_⟩;rcases hk with hk | ⟨s,hs,hk⟩
   ·exact zx.2 (.inr (.inl hk))
   ·exact zx.2 (.inr (.inr (.inl ⟨s,hs,hk⟩)))
  ·refine ⟨ss',a1,a2,fun k hk=>.inr ?_⟩;rcases hk with hk | ⟨s,hs,hk⟩
   ·exact ⟨(a3 k hk).1,(a3 k hk).2,fun hi=>(a5 k hi).1 hk⟩
   ·exact ⟨(a4 s hs k hk).1,(a4 s hs k hk).2,fun hi=>(a5 k hi).2 s hs hk⟩
 have W:Sq fQ w' wv' x'.w/\∀ k,k∈wv'.ownBlock.toList->(k∈Qv vv gv wv ss\/(w.heap.size<=k/\k<w'.heap.size/\k∉lv'.ownBlock.toList)):=by
  rcases hw with ⟨e1,rfl⟩ | ⟨a1,a2,a3⟩
  ·exact ⟨by rw [e1];exact h.sw.kept F (fun k hk=>hS k (zx.2 (.inr (.inr (.inr hk))))),fun k hk=>.inl (zx.2 (.inr (.inr (.inr hk))))⟩
  ·exact ⟨a1,fun k hk=>.inr ⟨(a2 k hk).1,(a2 k hk).2,fun hi=>a3 k hi hk⟩⟩
 obtain ⟨ss',g1,g2,g3⟩:=G;obtain ⟨w1,w2⟩:=W
 have all:∀ k,k∈Qv vv gv' wv' ss'->(k∈Qv vv gv wv ss\/(w.heap.size<=k/\k<w'.heap.size/\k∉lv'.ownBlock.toList)):=by
  intro k hk;rcases zx.1 hk with hk | hk | hk | hk
  ·exact .inl (zx.2 (.inl hk))
  ·exact g3 k (.inl hk)
  ·exact g3 k (.inr hk)
  ·exact w2 k hk
 refine ⟨_,⟨vv,lv',gv',wv',ss',⟨ho,hv1,hl,g1,g2,w1,nl,fun hi=>?_,fun k hk hi=>?_,fun k hk=>?_⟩,rfl⟩,fun k hk=>?_⟩
 ·rcases all b hi with e | e
  ·exact h.nr e
  ·omega
 ·rcases all k hi with e | e
  ·exact lold k hk e
  ·exact e.2.2 hk
 ·rcases all k hk with e | e
  ·exact old k e
  ·exact e.2.1
 ·rcases List.mem_cons.1 hk with rfl | hk
  ·exact .inl Lc
  ·rcases List.mem_append.1 hk with hk | hk
   ·exact (hl2 k hk).imp (fun e=>by simp only [List.mem_cons,List.mem_append];exact .inr (.inl e)) id
   ·exact (all k hk).imp (fun e=>by simp only [List.mem_cons,List.mem_append];exact .inr (.inr e)) (fun e=>e.1)
theorem q4g (x:Bd) (hx:Zg x) (B:List Nat) (b p q:Nat) (s:St) (w:World) (h:Ra w B b x) (hA:Rar w p q s) (hp:p∉B) (hq:q∉B) :
  Calls Tryz.prog 109 #[.pointer (some ⟨b,0,none⟩),.pointer (some ⟨p,0,none⟩)] w (Stp w (fun w' B'=>Ra w' B' b (x.step s).1) B p q (x.step s).2 (decide ((x.step s).1.line=0))):=by
 obtain ⟨vv,lv,gv,wv,ss,h,rfl⟩:=h;have hn:=hx.ln;have hbp:b≠p:=fun e=>hp (by simp [e])
 have hbq:b≠q:=fun e=>hq (by simp [e])
 have rp:p∉Qv vv gv wv ss:=fun hi=>hp Ng
 have rq:q∉Qv vv gv wv ss:=fun hi=>hq Ng
 have lp:p∉lv.ownBlock.toList:=fun hi=>hp Nh
 have lq:q∉lv.ownBlock.toList:=fun hi=>hq Nh
 have nV:b∉vv.ownBlock.toList/\p∉vv.ownBlock.toList/\q∉vv.ownBlock.toList:=⟨fun hi=>h.nr (zx.2 (.inl hi)),fun hi=>rp (zx.2 (.inl hi)),fun hi=>rq (zx.2 (.inl hi))⟩;have nG:b∉gv.ownBlock.toList/\p∉gv.ownBlock.toList/\q∉gv.ownBlock.toList:=⟨fun hi=>h.nr (zx.2 (.inr (.inl hi))),fun hi=>rp (zx.2 (.inr (.inl hi))),fun hi=>rq (zx.2 (.inr (.inl hi)))⟩;have nS:∀ s,s∈ss->b∉s.v.ownBlock.toList/\p∉s.v.ownBlock.toList/\q∉s.v.ownBlock.toList:=fun s hs=>⟨fun hi=>h.nr (zx.2 (.inr (.inr (.inl ⟨s,hs,hi⟩)))),fun hi=>rp (zx.2 (.inr (.inr (.inl ⟨s,hs,hi⟩)))),fun hi=>rq (zx.2 (.inr (.inr (.inl ⟨s,hs,hi⟩))))⟩
 have nW:b∉wv.ownBlock.toList/\p∉wv.ownBlock.toList/\q∉wv.ownBlock.toList:=⟨fun hi=>h.nr (zx.2 (.inr (.inr (.inr hi)))),fun hi=>rp (zx.2 (.inr (.inr (.inr hi)))),fun hi=>rq (zx.2 (.inr (.inr (.inr hi))))⟩;have nL:b∉lv.ownBlock.toList/\p∉lv.ownBlock.toList/\q∉lv.ownBlock.toList:=⟨h.nl,lp,lq⟩;have nVL:∀ k,k∈vv.ownBlock.toList->k∉lv.ownBlock.toList:=fun k hk hi=>h.lr k hi (zx.2 (.inl hk))
 have hL:=Sq.own (f:=fT) h.l
 have sub3:∀ k,k∈[b,p,q]++lv.ownBlock.toList->k∈p :: q :: b :: (lv.ownBlock.toList++Qv vv gv wv ss):=by intro k hk;simp only [List.mem_append,List.mem_cons,List.not_mem_nil,or_false] at hk ⊢;rcases hk with (hk | hk | hk) | hk <;> simp [hk]
 have sub1:∀ k,k∈[b,p,q]->k∈[b,p,q]++lv.ownBlock.toList:=fun k hk=>List.mem_append_left _ hk
 have same:∀ (e:Ending) (w':World),(x.step s).1.versions=x.versions->(x.step s).1.l=x.l->(x.step s).1.groups=x.groups->(x.step s).1.w=x.w ->
   (e = .returned (.bool (decide ((x.step s).1.line=0)))/\Q8 w' b (x.step s).1 vv lv gv wv/\Rar w' p q (x.step s).2/\Fr [b,p,q] w w')->Stp w (fun w' B'=>Ra w' B' b (x.step s).1) (b :: (lv.ownBlock.toList++Qv vv gv wv ss)) p q (x.step s).2 (decide ((x.step s).1.line=0)) e w':=by
  rintro e w' e1 e2 e3 e4 ⟨he,ho,hA',F⟩
  have hl':w'.ownsRow 0 148 3 lv (x.step s).1.l.length ((x.step s).1.l.flatMap fT):=by rw [e2];exact Q4 h.l F (fun g hg hi=>by have hk2:g∈lv.ownBlock.toList:=P6;simp at hi;rcases hi with rfl | rfl | rfl;exact h.nl hk2;exact lp hk2;exact lq hk2)
  obtain ⟨B',h1,h2⟩:=Ta h hp hq (F.mono sub1) ho e1 hl' (fun k hk=>.inl hk) (.inl ⟨e3,rfl⟩) (.inl ⟨e4,rfl⟩)
  exact ⟨he,⟨B',h1,h2⟩,hA',(F.mono sub1).mono sub3⟩
 have on:∀ (e:Ending) (w':World),(x.step s).1.versions=x.versions->(x.step s).1.l=x.l->(x.step s).1.w=x.w ->
   (e = .returned (.bool (decide ((x.step s).1.line=0)))/\(∃ gv',Q8 w' b (x.step s).1 vv lv gv' wv/\(((x.step s).1.groups=x.groups/\gv'=gv)\/∃ ss,Sq fS w' gv' ss/\Gs w' ss (x.step s).1.groups/\(∀ k,k∈gv'.ownBlock.toList->w.heap.size<=k/\k<w'.heap.size)/\(∀ s,s∈ss->∀ k,k∈s.v.ownBlock.toList->w.heap.size<=k/\k<w'.heap.size)))/\Rar w' p q (x.step s).2/\Fr [b,p,q] w w') ->
   Stp w (fun w' B'=>Ra w' B' b (x.step s).1) (b :: (lv.ownBlock.toList++Qv vv gv wv ss)) p q (x.step s).2 (decide ((x.step s).1.line=0)) e w':=by
  rintro e w' e1 e2 e4 ⟨he,⟨gv',ho,hg⟩,hA',F⟩
  have hl':w'.ownsRow 0 148 3 lv (x.step s).1.l.length ((x.step s).1.l.flatMap fT):=by rw [e2];exact Q4 h.l F (fun g hg hi=>by have hk2:g∈lv.ownBlock.toList:=P6;simp at hi;rcases hi with rfl | rfl | rfl;exact h.nl hk2;exact lp hk2;exact lq hk2)
  obtain ⟨B',h1,h2⟩:=Ta h hp hq (F.mono sub1) ho e1 hl' (fun k hk=>.inl hk) (hg.imp id (fun ⟨ss',a1,a2,a3,a4⟩=>⟨ss',a1,a2,a3,a4,fun k hk=>⟨fun hi=>by have h9:=Zk h.l k hk;have h8:=(a3 k hi).1;omega,fun s hs hi=>by have h9:=Zk h.l k hk;have h8:=(a4 s hs k hi).1;omega⟩⟩)) (.inl ⟨e4,rfl⟩)
  exact ⟨he,⟨B',h1,h2⟩,hA',(F.mono sub1).mono sub3⟩
 have onS:∀ y:Bd,y.on.versions=y.versions/\y.on.l=y.l/\y.on.w=y.w:=fun y=>by unfold Bd.on;split <;> exact ⟨rfl,rfl,rfl⟩
 rcases (by omega:x.line=1\/x.line=2\/x.line=3\/x.line=4\/x.line=5\/x.line=6\/x.line=7\/x.line=8) with e | e | e | e | e | e | e | e
 ·have hs:(x.step s).1=Bd.on { x with mn:=qw s.l (wrap64 x.chunk),i:=-1 }:=by unfold Bd.step;rw [qf e]
  refine (qal x e (hx.ok Lb) b p q s w vv lv gv wv h.o hA hbp hbq h.v hL nV nL).mono (fun e' w' hh=>on e' w' ?_ ?_ ?_ hh)
  ·rw [hs,(onS _).1]
  ·rw [hs,(onS _).2.1]
  ·rw [hs,(onS _).2.2]
 ·refine (qb0 x e (hx.ok Lb) b p q s w vv lv gv wv h.o hA hbp hbq h.v hL nV nL).mono (fun e' w' hh=>on e' w' ?_ ?_ ?_ hh) <;> (unfold Bd.step;rw [qd Lb,qf e];simp only;split) <;> first | rfl | (rw [(onS _).1]) | (rw [(onS _).2.1]) | (rw [(onS _).2.2])
 ·refine (qao x e hx.c b p q s w vv lv gv wv h.o hA hbp hbq).mono (fun e' w' hh=>same e' w' ?_ ?_ ?_ ?_ hh) <;> (unfold Bd.step;rw [qd Lb,qd Lb,qf e])
 ·refine (qba x e (hx.ok Lb) b p q s w vv lv gv wv h.o hA hbp hbq h.v h.l nV nL nVL).mono ?_;rintro e' w' ⟨he,⟨lv',gv',ho,hl',hl2,hg⟩,hA',F⟩;have hs:(x.step s).1=Bd.on { x with x:=⟨x.x.k,x.x.v,qw s.l (wrap64 (x.sa+2))⟩,l:=x.l++[⟨x.x.k,x.x.v,qw s.l (wrap64 (x.sa+2))⟩] }:=by unfold Bd.step;rw [qd Lb,qd Lb,qd Lb,qf e]
  obtain ⟨B',h1,h2⟩:=Ta h hp hq F ho (by rw [hs,(onS _).1]) hl' hl2 hg (.inl ⟨by rw [hs,(onS _).2.2],rfl⟩);exact ⟨he,⟨B',h1,h2⟩,hA',F.mono sub3⟩
 ·have hg9:=hx.g;refine (qa9 x e (hx.ok Lb) Lb Lb b p q s w vv lv gv wv h.o hA hbp hbq ss h.g h.gs nG nS).mono ?_;rintro e' w' ⟨he,⟨wv',ho,hw⟩,hA',F⟩
  have hs:(x.step s).1.versions=x.versions/\(x.step s).1.l=x.l/\(x.step s).1.groups=x.groups:=by unfold Bd.step;rw [qd Lb,qd Lb,qd Lb,qd Lb,qf e];simp only;unfold Bd.five;simp only;exact I3
  have hl':w'.ownsRow 0 148 3 lv (x.step s).1.l.length ((x.step s).1.l.flatMap fT):=by rw [hs.2.1];exact Q4 h.l F (fun g hg hi=>by have hk2:g∈lv.ownBlock.toList:=P6;simp at hi;rcases hi with rfl | rfl | rfl;exact h.nl hk2;exact lp hk2;exact lq hk2)
  obtain ⟨B',h1,h2⟩:=Ta h hp hq (F.mono sub1) ho hs.1 hl' (fun k hk=>.inl hk) (.inl ⟨hs.2.2,rfl⟩) (hw.imp id (fun ⟨a1,a2⟩=>⟨a1,a2,fun k hk hi=>by have h9:=Zk h.l k hk;have h8:=(a2 k hi).1;omega⟩));exact ⟨he,⟨B',h1,h2⟩,hA',(F.mono sub1).mono sub3⟩
 ·refine (qbd x e hx.c (hx.w6 e) hx.w b p q s w vv lv gv wv h.o hA hbp hbq h.sw nW).mono (fun e' w' hh=>same e' w' ?_ ?_ ?_ ?_ hh) <;> (unfold Bd.step;rw [qd Lb,qd Lb,qd Lb,qd Lb,qd Lb,qf e])
 ·refine (qaw x e hx.c b p q s w vv lv gv wv h.o hA hbp hbq).mono (fun e' w' hh=>same e' w' ?_ ?_ ?_ ?_ hh) <;> (unfold Bd.step;rw [qd Lb,qd Lb,qd Lb,qd Lb,qd Lb,qd Lb,qf e])
 ·refine (qbj x e hx.c b p q s w vv lv gv wv h.o hA hbp hbq).mono (fun e' w' hh=>same e' w' ?_ ?_ ?_ ?_ hh) <;> (unfold Bd.step;rw [qd Lb,qd Lb,qd Lb,qd Lb,qd Lb,qd Lb,qd Lb,qf e])
end Go.Proofs.YtleclbldlladmaaGreat.Mx
