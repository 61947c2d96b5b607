/- Parts. -/
import Derived.Test.YtleclbldlladmaaGreatVac
import Derived.Maps.RangeWalk
set_option linter.unusedVariables false
set_option linter.unusedSimpArgs false
set_option maxRecDepth 100000
set_option maxHeartbeats 12800000
namespace Go.Proofs.YtleclbldlladmaaGreat.Mx
open Go.RowKit Ar Ref
def Lok.sa (x:Lok):Int:=Qo x.chunk x.i
def Lok.live (x:Lok):Bool:=decide (1<=x.line) && decide (x.line<=7)
def Lok.act (x:Lok) (s:St):St :=
 if x.line=1 then s.load (wrap64 (x.chunk+1)) else if x.line=2 then s.load x.sa else if x.line=3 then s.load (wrap64 (x.sa+1)) else if x.line=4 then s.load 1
 else if x.line=5 then s.swap x.sa 1 (vu x.g) else if x.line=6 then s.load x.sa else s.load (wrap64 (x.sa+2))
def Lok.told (x:Lok) (s:St):Int :=
 if x.line=1 then qw s.l (wrap64 (x.chunk+1)) else if x.line=2 then qw s.l x.sa else if x.line=3 then qw s.l (wrap64 (x.sa+1)) else if x.line=4 then qw s.l 1
 else if x.line=6 then qw s.l x.sa else qw s.l (wrap64 (x.sa+2))
def Lok.next (x:Lok) (v:Int):Lok :=
 if x.line=1 then ({ x with count:=max 0 (min v x.c.c),i:=-1 }:Lok).on
 else if x.line=2 then (if v<=0\/v=2 then ({ x with s:=v,line:=3 }:Lok).on else { x with s:=v,line:=3 })
 else if x.line=3 then (if v<x.lo\/x.hi<v then ({ x with k:=v }:Lok).on else if x.s=1 then { x with k:=v,line:=4 } else ({ x with k:=v }:Lok).seven)
 else if x.line=4 then { x with g:=v,line:=5 } else if x.line=5 then { x with line:=6 }
 else if x.line=6 then (if v<3 then ({ x with s:=v }:Lok).on else ({ x with s:=v }:Lok).seven)
 else ({ x with l:=q15 x.l ⟨x.k,Vi x.s,v⟩ }:Lok).on
def Lok.step (x:Lok) (s:St):Lok×St:=if x.live=true then (x.next (x.told s),x.act s) else (x,s)
def Xc (w:World) (x:Lok) (b p q:Nat) (y:Lok) (t:St) (e:Ending) (w':World):Prop:=e = .returned (.bool (decide (y.line=0)))/\(∃ lv',vh w' b { y with lv:=lv' } /\ Sq fT w' lv' y.l/\(lv'=x.lv\/y.l≠[]/\∀ g,g∈lv'.ownBlock.toList->w.heap.size<=g))/\Rar w' p q t/\Fr [b,p,q] w w'
theorem q4z (l:List It) (x:It):q15 l x≠[]:=by
 unfold q15;split
 ·rename_i i h;have:=Uf h;intro e;have h2:=congrArg List.length e;simp at h2;rw [h2] at this;simp at this
 ·cases l with
  | nil=>simp [q0a]
  | cons y r=>unfold q0a;split <;> simp
theorem xw (x:Lok):x.on.lv=x.lv:=by unfold Lok.on;split <;> rfl
theorem jk (x:Lok):x.on.l=x.l:=by unfold Lok.on;split <;> rfl
theorem Z8 (x:Lok):x.seven.lv=x.lv:=by unfold Lok.seven;split <;> first | rw [xw] | rfl
theorem Jp (x:Lok):x.seven.l=x.l:=by unfold Lok.seven;split <;> first | rw [jk] | rfl
theorem sqT {b p q:Nat} {w w':World} {v:Value} {l:List It} (h:Sq fT w v l) (D:Fr [b,p,q] w w') (hb:b∉v.ownBlock.toList) (hp:p∉v.ownBlock.toList) (hq:q∉v.ownBlock.toList):Sq fT w' v l :=
 h.kept D (fun g hg hi=>by simp at hi;rcases hi with rfl | rfl | rfl <;> contradiction)
theorem q3z (x:Lok) (hl:x.line=4) (hc:x.c.Ok) (hi:-1<=x.i/\x.i<=100) (hlen:x.l.length<=900) (b p q:Nat) (s:St) (w:World) (h:vh w b x) (hA:Rar w p q s) (hp:b≠p) (hq:b≠q) (hs:Sq fT w x.lv x.l) (hb:b∉x.lv.ownBlock.toList) (hp2:p∉x.lv.ownBlock.toList) (hq2:q∉x.lv.ownBlock.toList) :
  Calls Tryz.prog 92 #[.pointer (some ⟨b,0,none⟩),.pointer (some ⟨p,0,none⟩)] w (Xc w x b p q (x.next (qw s.l 1)) (s.load 1)):=by
 generalize hy:x.next (qw s.l 1)=y;have HY:=q9 hy;clear hy;obtain ⟨c0,c1,c2,c3,c4,c5,c6,c7,c8,c9,c10,c11,c12,c13,c14⟩:=qx h;have z:=h.frozen;go_enter Tryz.func92,Tryz.ntmps92;go_wp2_with fail;have k4:=qb c4;have k9:=qb c9;clear c0 c1 c2 c3 c4 c5 c6 c7 c8 c9 c10 c11 c12 c13 c14 z;refine wiq ?_;repeat (go_big_quiet_step ((go_at_call 111;exact Calls.in_same (vk _ _ _))))
 refine wpQuiet_nil ?_;intro w0 F0;rw [show Qo x.chunk x.i=x.sa from rfl];have h0:vh w0 b x:=Ob.up h F0;have A0:=hA.kept F0;have D0:Fr [b,p,q] w w0:=F0.mono;clear k4 k9 h hA F0;obtain ⟨c0,c1,c2,c3,c4,c5,c6,c7,c8,c9,c10,c11,c12,c13,c14⟩:=qx h0;have z:=h0.frozen;go_wp2_with fail;have A1:=A0;have h1:=h0;have D1:=D0;clear c0 c1 c2 c3 c4 c5 c6 c7 c8 c9 c10 c11 c12 c13 c14 z;refine (Ref.zl _ p q s 1 A1).mono ?_;rintro e w5 ⟨rfl,A5,F5⟩;have h5:=Ob.kept h1 F5 Lf;have D5:=zm D1 F5 Lc;clear A1 h1 D1 F5 A0 h0 D0;obtain ⟨c0,c1,c2,c3,c4,c5,c6,c7,c8,c9,c10,c11,c12,c13,c14⟩:=qx h5;have z:=h5.frozen;have hn:y = { x with g:=qw s.l 1,line:=5 }:=by rw [<- HY.out];unfold Lok.next;simp [hl]
 subst hn;go_wp2_with fail;go_ret;exact ⟨rfl,⟨x.lv,(Ob.set (Ob.set h5 _) (i:=8) (.int .i64 5)),sqT hs ((Fr.setCell' (Fr.setCell' D5 _ Lc) (b:=b) (i:=8) (.int .i64 5) Lc)) hb hp2 hq2,.inl rfl⟩,(Rar.set (Rar.set A5 hp hq _) hp hq (i:=8) (.int .i64 5)),(Fr.setCell' (Fr.setCell' D5 _ Lc) (b:=b) (i:=8) (.int .i64 5) Lc)⟩
theorem q33 (x:Lok) (hl:x.line=2) (hc:x.c.Ok) (hi:-1<=x.i/\x.i<=100) (hlen:x.l.length<=900) (b p q:Nat) (s:St) (w:World) (h:vh w b x) (hA:Rar w p q s) (hp:b≠p) (hq:b≠q) (hs:Sq fT w x.lv x.l) (hb:b∉x.lv.ownBlock.toList) (hp2:p∉x.lv.ownBlock.toList) (hq2:q∉x.lv.ownBlock.toList) :
  Calls Tryz.prog 92 #[.pointer (some ⟨b,0,none⟩),.pointer (some ⟨p,0,none⟩)] w (Xc w x b p q (x.next (qw s.l x.sa)) (s.load x.sa)):=by
 generalize hy:x.next (qw s.l x.sa)=y;have HY:=q9 hy;clear hy;obtain ⟨c0,c1,c2,c3,c4,c5,c6,c7,c8,c9,c10,c11,c12,c13,c14⟩:=qx h;have z:=h.frozen;go_enter Tryz.func92,Tryz.ntmps92;go_wp2_with fail;have k4:=qb c4;have k9:=qb c9;clear c0 c1 c2 c3 c4 c5 c6 c7 c8 c9 c10 c11 c12 c13 c14 z;refine wiq ?_;repeat (go_big_quiet_step ((go_at_call 111;exact Calls.in_same (vk _ _ _))))
 refine wpQuiet_nil ?_;intro w0 F0;rw [show Qo x.chunk x.i=x.sa from rfl];have h0:vh w0 b x:=Ob.up h F0;have A0:=hA.kept F0;have D0:Fr [b,p,q] w w0:=F0.mono;clear k4 k9 h hA F0;obtain ⟨c0,c1,c2,c3,c4,c5,c6,c7,c8,c9,c10,c11,c12,c13,c14⟩:=qx h0;have z:=h0.frozen;go_wp2_with fail;have A1:=A0;have h1:=h0;have D1:=D0;clear c0 c1 c2 c3 c4 c5 c6 c7 c8 c9 c10 c11 c12 c13 c14 z;refine (Ref.zl _ p q s _ A1).mono ?_;rintro e w5 ⟨rfl,A5,F5⟩;have h5:=Ob.kept h1 F5 Lf;have D5:=zm D1 F5 Lc;clear A1 h1 D1 F5 A0 h0 D0;obtain ⟨c0,c1,c2,c3,c4,c5,c6,c7,c8,c9,c10,c11,c12,c13,c14⟩:=qx h5;have z:=h5.frozen;generalize hv:qw s.l x.sa=v at *;by_cases e1:v<=0
 ·have g1:decide (v<=0)=true:=by simpa using e1
  have hn:y=Lok.on ({ x with s:=v,line:=3 }:Lok):=by rw [<- HY.out];unfold Lok.next;simp [hl,e1]
  subst hn;exact Ai
 ·have g1:decide (v<=0)=false:=by simpa using e1
  by_cases e2:v=2
  ·have g2:(v == 2)=true:=by simpa using e2
   have hn:y=Lok.on ({ x with s:=v,line:=3 }:Lok):=by rw [<- HY.out];unfold Lok.next;simp [hl,e2]
   subst hn;have HE:=q9 e2;clear e2;exact Ai
  have g2:(v == 2)=false:=by simpa using e2
  have hn:y = { x with s:=v,line:=3 }:=by rw [<- HY.out];unfold Lok.next;simp [hl,e1,e2]
  subst hn;go_wp2_with fail;go_ret;exact ⟨rfl,⟨x.lv,(Ob.set (Ob.set h5 _) (i:=8) (.int .i64 3)),sqT hs ((Fr.setCell' (Fr.setCell' D5 _ Lc) (b:=b) (i:=8) (.int .i64 3) Lc)) hb hp2 hq2,.inl rfl⟩,(Rar.set (Rar.set A5 hp hq _) hp hq (i:=8) (.int .i64 3)),(Fr.setCell' (Fr.setCell' D5 _ Lc) (b:=b) (i:=8) (.int .i64 3) Lc)⟩
theorem q4i (x:Lok) (hl:x.line=5) (hc:x.c.Ok) (hi:-1<=x.i/\x.i<=100) (hlen:x.l.length<=900) (b p q:Nat) (s:St) (w:World) (h:vh w b x) (hA:Rar w p q s) (hp:b≠p) (hq:b≠q) (hs:Sq fT w x.lv x.l) (hb:b∉x.lv.ownBlock.toList) (hp2:p∉x.lv.ownBlock.toList) (hq2:q∉x.lv.ownBlock.toList) :
  Calls Tryz.prog 92 #[.pointer (some ⟨b,0,none⟩),.pointer (some ⟨p,0,none⟩)] w (Xc w x b p q (x.next (x.told s)) (s.swap x.sa 1 (vu x.g))):=by
 generalize hy:x.next (x.told s)=y;have HY:=q9 hy;clear hy;obtain ⟨c0,c1,c2,c3,c4,c5,c6,c7,c8,c9,c10,c11,c12,c13,c14⟩:=qx h;have z:=h.frozen;go_enter Tryz.func92,Tryz.ntmps92;go_wp2_with fail;have k4:=qb c4;have k9:=qb c9;clear c0 c1 c2 c3 c4 c5 c6 c7 c8 c9 c10 c11 c12 c13 c14 z;refine wiq ?_;repeat (go_big_quiet_step ((go_at_call 111;exact Calls.in_same (vk _ _ _))))
 refine wpQuiet_nil ?_;intro w0 F0;rw [show Qo x.chunk x.i=x.sa from rfl];have h0:vh w0 b x:=Ob.up h F0;have A0:=hA.kept F0;have D0:Fr [b,p,q] w w0:=F0.mono;clear k4 k9 h hA F0;obtain ⟨c0,c1,c2,c3,c4,c5,c6,c7,c8,c9,c10,c11,c12,c13,c14⟩:=qx h0;have z:=h0.frozen;go_wp2_with fail;refine (Xb _ _).mono ?_;rintro e _ ⟨rfl,rfl⟩;go_wp2_with fail;have A1:=A0;have h1:=h0;have D1:=D0;clear c0 c1 c2 c3 c4 c5 c6 c7 c8 c9 c10 c11 c12 c13 c14 z;refine (Ref.yn _ p q s _ 1 _ A1).mono ?_;rintro e w5 ⟨rfl,A5,F5⟩;have h5:=Ob.kept h1 F5 Lf;have D5:=zm D1 F5 Lc;clear A1 h1 D1 F5 A0 h0 D0;obtain ⟨c0,c1,c2,c3,c4,c5,c6,c7,c8,c9,c10,c11,c12,c13,c14⟩:=qx h5;have z:=h5.frozen;have hn:y = { x with line:=6 }:=by rw [<- HY.out];unfold Lok.next;simp [hl]
 subst hn;go_wp2_with fail;go_ret;exact ⟨rfl,⟨x.lv,(Ob.set h5 _),sqT hs ((Fr.setCell' D5 _ Lc)) hb hp2 hq2,.inl rfl⟩,(Rar.set A5 hp hq _),(Fr.setCell' D5 _ Lc)⟩
theorem q2q (x:Lok) (hl:x.line=6) (hc:x.c.Ok) (hi:-1<=x.i/\x.i<=100) (hlen:x.l.length<=900) (b p q:Nat) (s:St) (w:World) (h:vh w b x) (hA:Rar w p q s) (hp:b≠p) (hq:b≠q) (hs:Sq fT w x.lv x.l) (hb:b∉x.lv.ownBlock.toList) (hp2:p∉x.lv.ownBlock.toList) (hq2:q∉x.lv.ownBlock.toList) :
  Calls Tryz.prog 92 #[.pointer (some ⟨b,0,none⟩),.pointer (some ⟨p,0,none⟩)] w (Xc w x b p q (x.next (qw s.l x.sa)) (s.load x.sa)):=by
 generalize hy:x.next (qw s.l x.sa)=y;have HY:=q9 hy;clear hy;obtain ⟨c0,c1,c2,c3,c4,c5,c6,c7,c8,c9,c10,c11,c12,c13,c14⟩:=qx h;have z:=h.frozen;go_enter Tryz.func92,Tryz.ntmps92;go_wp2_with fail;have k4:=qb c4;have k9:=qb c9;clear c0 c1 c2 c3 c4 c5 c6 c7 c8 c9 c10 c11 c12 c13 c14 z;refine wiq ?_;repeat (go_big_quiet_step ((go_at_call 111;exact Calls.in_same (vk _ _ _))))
 refine wpQuiet_nil ?_;intro w0 F0;rw [show Qo x.chunk x.i=x.sa from rfl];have h0:vh w0 b x:=Ob.up h F0;have A0:=hA.kept F0;have D0:Fr [b,p,q] w w0:=F0.mono;clear k4 k9 h hA F0;obtain ⟨c0,c1,c2,c3,c4,c5,c6,c7,c8,c9,c10,c11,c12,c13,c14⟩:=qx h0;have z:=h0.frozen;go_wp2_with fail;have A1:=A0;have h1:=h0;have D1:=D0;clear c0 c1 c2 c3 c4 c5 c6 c7 c8 c9 c10 c11 c12 c13 c14 z;refine (Ref.zl _ p q s _ A1).mono ?_;rintro e w5 ⟨rfl,A5,F5⟩;have h5:=Ob.kept h1 F5 Lf;have D5:=zm D1 F5 Lc;clear A1 h1 D1 F5 A0 h0 D0;obtain ⟨c0,c1,c2,c3,c4,c5,c6,c7,c8,c9,c10,c11,c12,c13,c14⟩:=qx h5;have z:=h5.frozen;generalize hv:qw s.l x.sa=v at *;by_cases e1:v<3
 ·have g1:decide (v<3)=true:=by simpa using e1
  have hn:y=Lok.on ({ x with s:=v }:Lok):=by rw [<- HY.out];unfold Lok.next;simp [hl,e1]
  subst hn;go_wp2_with fail;have h6:vh (w5.setCell ⟨b,11,none⟩ (.int .i64 v)) b { x with s:=v }:=(Ob.set h5 (i:=11) (.int .i64 v));have A6:=(Rar.set A5 hp hq (i:=11) (.int .i64 v));have D6:=(Fr.setCell' D5 (b:=b) (i:=11) (.int .i64 v) Lc);generalize (w5.setCell ⟨b,11,none⟩ (.int .i64 v))=w6 at *;clear h5 A5 D5;clear c0 c1 c2 c3 c4 c5 c6 c7 c8 c9 c10 c11 c12 c13 c14 z;refine (Qr ({ x with s:=v }:Lok) hi b _ h6).mono ?_;rintro e w7 ⟨rfl,h7,F7⟩;have A7:=A6.kept F7 Li Lj;have D7:=zm D6 F7 Lc;clear h6 A6 F7 D6;obtain ⟨-,-,-,-,-,-,-,-,c8,-,-,-,-,-,-⟩:=qx h7;go_wp2_with fail;go_ret;exact ⟨rfl,⟨(Lok.on ({ x with s:=v }:Lok)).lv,h7,by rw [xw,jk];exact sqT hs D7 hb hp2 hq2,.inl (xw _)⟩,A7,D7⟩
 ·have g1:decide (v<3)=false:=by simpa using e1
  have hn:y=Lok.seven ({ x with s:=v }:Lok):=by rw [<- HY.out];unfold Lok.next;simp [hl,e1]
  subst hn;go_wp2_with fail;have h6:vh (w5.setCell ⟨b,11,none⟩ (.int .i64 v)) b { x with s:=v }:=(Ob.set h5 (i:=11) (.int .i64 v));have A6:=(Rar.set A5 hp hq (i:=11) (.int .i64 v));have D6:=(Fr.setCell' D5 (b:=b) (i:=11) (.int .i64 v) Lc);generalize (w5.setCell ⟨b,11,none⟩ (.int .i64 v))=w6 at *;clear h5 A5 D5;clear c0 c1 c2 c3 c4 c5 c6 c7 c8 c9 c10 c11 c12 c13 c14 z;refine (Wy ({ x with s:=v }:Lok) hi b _ (by omega:x.l.length<=1000) h6 (sqT hs D6 hb hp2 hq2) hb).mono ?_;rintro e w7 ⟨rfl,h7,F7⟩;have A7:=A6.kept F7 Li Lj;have D7:=zm D6 F7 Lc;clear h6 A6 F7 D6;obtain ⟨-,-,-,-,-,-,-,-,c8,-,-,-,-,-,-⟩:=qx h7;go_wp2_with fail;go_ret;exact ⟨rfl,⟨(Lok.seven ({ x with s:=v }:Lok)).lv,h7,by rw [Z8,Jp];exact sqT hs D7 hb hp2 hq2,.inl (Z8 _)⟩,A7,D7⟩
theorem q2s (x:Lok) (hl:x.line=3) (hc:x.c.Ok) (hi:-1<=x.i/\x.i<=100) (hlen:x.l.length<=900) (b p q:Nat) (s:St) (w:World) (h:vh w b x) (hA:Rar w p q s) (hp:b≠p) (hq:b≠q) (hs:Sq fT w x.lv x.l) (hb:b∉x.lv.ownBlock.toList) (hp2:p∉x.lv.ownBlock.toList) (hq2:q∉x.lv.ownBlock.toList) :
  Calls Tryz.prog 92 #[.pointer (some ⟨b,0,none⟩),.pointer (some ⟨p,0,none⟩)] w (Xc w x b p q (x.next (qw s.l (wrap64 (x.sa+1)))) (s.load (wrap64 (x.sa+1)))):=by
 generalize hy:x.next (qw s.l (wrap64 (x.sa+1)))=y;have HY:=q9 hy;clear hy;obtain ⟨c0,c1,c2,c3,c4,c5,c6,c7,c8,c9,c10,c11,c12,c13,c14⟩:=qx h;have z:=h.frozen;go_enter Tryz.func92,Tryz.ntmps92;go_wp2_with fail;have k4:=qb c4;have k9:=qb c9;clear c0 c1 c2 c3 c4 c5 c6 c7 c8 c9 c10 c11 c12 c13 c14 z;refine wiq ?_;repeat (go_big_quiet_step ((go_at_call 111;exact Calls.in_same (vk _ _ _))))
 refine wpQuiet_nil ?_;intro w0 F0;rw [show Qo x.chunk x.i=x.sa from rfl];have h0:vh w0 b x:=Ob.up h F0;have A0:=hA.kept F0;have D0:Fr [b,p,q] w w0:=F0.mono;clear k4 k9 h hA F0;obtain ⟨c0,c1,c2,c3,c4,c5,c6,c7,c8,c9,c10,c11,c12,c13,c14⟩:=qx h0;have z:=h0.frozen;go_wp2_with fail;have A1:=A0;have h1:=h0;have D1:=D0;clear c0 c1 c2 c3 c4 c5 c6 c7 c8 c9 c10 c11 c12 c13 c14 z;refine (Ref.zl _ p q s _ A1).mono ?_;rintro e w5 ⟨rfl,A5,F5⟩;have h5:=Ob.kept h1 F5 Lf;have D5:=zm D1 F5 Lc;clear A1 h1 D1 F5 A0 h0 D0;obtain ⟨c0,c1,c2,c3,c4,c5,c6,c7,c8,c9,c10,c11,c12,c13,c14⟩:=qx h5;have z:=h5.frozen;generalize hv:qw s.l (wrap64 (x.sa+1))=v at *;go_wp2_with fail;have h6:vh (w5.setCell ⟨b,12,none⟩ (.int .i64 v)) b { x with k:=v }:=(Ob.set h5 (i:=12) (.int .i64 v));have A6:=(Rar.set A5 hp hq (i:=12) (.int .i64 v));have D6:=(Fr.setCell' D5 (b:=b) (i:=12) (.int .i64 v) Lc);generalize (w5.setCell ⟨b,12,none⟩ (.int .i64 v))=w6 at *;clear h5 A5 D5;clear c0 c1 c2 c3 c4 c5 c6 c7 c8 c9 c10 c11 c12 c13 c14 z;by_cases e1:v<x.lo
 ·have g1:decide (v<x.lo)=true:=by simpa using e1
  have hn:y=Lok.on ({ x with k:=v }:Lok):=by rw [<- HY.out];unfold Lok.next;simp [hl,e1]
  exact Aj
 ·have g1:decide (v<x.lo)=false:=by simpa using e1
  by_cases e2:x.hi<v
  ·have g2:decide (v>x.hi)=true:=by simpa using e2
   have hn:y=Lok.on ({ x with k:=v }:Lok):=by rw [<- HY.out];unfold Lok.next;simp [hl,e2]
   exact Aj
  have g2:decide (v>x.hi)=false:=by simpa using e2
  by_cases e3:x.s=1
  ·have g3:(x.s == 1)=true:=by simpa using e3
   have hn:y = { x with k:=v,line:=4 }:=by rw [<- HY.out];unfold Lok.next;simp [hl,e1,e2,e3]
   subst hn;have HE:=q9 e3;clear e3;obtain ⟨-,-,-,-,-,c5,c6,-,-,-,-,-,c12,-,-⟩:=qx h6;have k5:=qb c5;have k6:=qb c6;have k12:=qb c12;clear c5 c6 c12;refine wiq ?_;repeat (go_big_quiet_step (fail))
   refine wpQuiet_nil ?_;intro w8 F8;replace h6:=Ob.up h6 F8;replace A6:=A6.kept F8;replace D6:=D6.then F8;clear k5 k6 k12 F8;obtain ⟨c0,c1,c2,c3,c4,c5,c6,c7,c8,c9,c10,c11,c12,c13,c14⟩:=qx h6;have z:=h6.frozen;go_wp2_with fail;go_ret;exact ⟨rfl,⟨x.lv,Ob.set h6 _,sqT hs (Fr.setCell' D6 _ Lc) hb hp2 hq2,.inl rfl⟩,Rar.set A6 hp hq _,Fr.setCell' D6 _ Lc⟩
  have g3:(x.s == 1)=false:=by simpa using e3
  have hn:y=Lok.seven ({ x with k:=v }:Lok):=by rw [<- HY.out];unfold Lok.next;simp [hl,e1,e2,e3]
  subst hn;obtain ⟨-,-,-,-,-,c5,c6,-,-,-,-,-,c12,-,-⟩:=qx h6;have k5:=qb c5;have k6:=qb c6;have k12:=qb c12;clear c5 c6 c12;refine wiq ?_;repeat (go_big_quiet_step (fail))
  refine wpQuiet_nil ?_;intro w8 F8;replace h6:=Ob.up h6 F8;replace A6:=A6.kept F8;replace D6:=D6.then F8;clear k5 k6 k12 F8;obtain ⟨-,-,-,-,-,-,-,-,-,-,-,c11,-,-,-⟩:=qx h6;go_wp2_with fail;clear c11;refine (Wy ({ x with k:=v }:Lok) hi b _ (by omega:x.l.length<=1000) h6 (sqT hs D6 hb hp2 hq2) hb).mono ?_;rintro e w7 ⟨rfl,h7,F7⟩;have A7:=A6.kept F7 Li Lj;have D7:=zm D6 F7 Lc;clear h6 A6 F7 D6;obtain ⟨-,-,-,-,-,-,-,-,c8,-,-,-,-,-,-⟩:=qx h7;go_wp2_with fail;go_ret;exact ⟨rfl,⟨(Lok.seven ({ x with k:=v }:Lok)).lv,h7,by rw [Z8,Jp];exact sqT hs D7 hb hp2 hq2,.inl (Z8 _)⟩,A7,D7⟩
theorem q35 (x:Lok) (hl:x.line=1) (hc:x.c.Ok) (hi:-1<=x.i/\x.i<=100) (hlen:x.l.length<=900) (b p q:Nat) (s:St) (w:World) (h:vh w b x) (hA:Rar w p q s) (hp:b≠p) (hq:b≠q) (hs:Sq fT w x.lv x.l) (hb:b∉x.lv.ownBlock.toList) (hp2:p∉x.lv.ownBlock.toList) (hq2:q∉x.lv.ownBlock.toList) :
  Calls Tryz.prog 92 #[.pointer (some ⟨b,0,none⟩),.pointer (some ⟨p,0,none⟩)] w (Xc w x b p q (x.next (qw s.l (wrap64 (x.chunk+1)))) (s.load (wrap64 (x.chunk+1)))):=by
 generalize hy:x.next (qw s.l (wrap64 (x.chunk+1)))=y;have HY:=q9 hy;clear hy;obtain ⟨c0,c1,c2,c3,c4,c5,c6,c7,c8,c9,c10,c11,c12,c13,c14⟩:=qx h;have z:=h.frozen;go_enter Tryz.func92,Tryz.ntmps92;go_wp2_with fail;have k4:=qb c4;have k9:=qb c9;clear c0 c1 c2 c3 c4 c5 c6 c7 c8 c9 c10 c11 c12 c13 c14 z;refine wiq ?_;repeat (go_big_quiet_step ((go_at_call 111;exact Calls.in_same (vk _ _ _))))
 refine wpQuiet_nil ?_;intro w0 F0;rw [show Qo x.chunk x.i=x.sa from rfl];have h0:vh w0 b x:=Ob.up h F0;have A0:=hA.kept F0;have D0:Fr [b,p,q] w w0:=F0.mono;clear k4 k9 h hA F0;obtain ⟨c0,c1,c2,c3,c4,c5,c6,c7,c8,c9,c10,c11,c12,c13,c14⟩:=qx h0;have z:=h0.frozen;go_wp2_with fail;clear c0 c1 c2 c3 c4 c5 c6 c7 c8 c9 c10 c11 c12 c13 c14 z;refine qp Le ?_;refine wm 1 rfl Le Le Le rfl (fun _ _ d _ _ h=>by cases d <;> exact h) ?_;go_frame;refine za [p,q] w0 #[true,true,true,true,true,true,true,true,true,true,true,true,true,true,true,true,false,false,false,false,false,false] 15 6 rfl ?_;refine lpq [true,false,true,true,true,true,true,true,false,true,true,true,true,true,false,false,false,false,false,false,false,false] 3 ((Fr.refl _ w0).drew) ?_;apply qg;refine ⟨fun wf Ff=>?_,?_⟩
 ·have hf:vh wf b x:=Ob.kept h0 Ff Lf;obtain ⟨-,c1,-,-,c4,-,-,-,-,-,-,-,-,-,-⟩:=qx hf;have k1:=qb c1;have k4:=qb c4;clear c1 c4 hf;exact Ab
 refine loq 8 (fun w3 F3=>?_);have E3:=(Fr.refl [] w0).drew.trans F3;have A3:=A0.kept E3;have h3:=Ob.up h0 E3;have D3:=D0.then E3;clear A0 h0 D0 F3;go_wp2_with fail;refine (Ref.zl _ p q s _ A3).mono ?_;rintro e w4 ⟨rfl,A4,F4⟩;have h4:=Ob.kept h3 F4 Lf;have D4:=zm D3 F4 Lc;have E4:=(E3.mono (T:=[p,q]) Lc).trans F4;clear A3 h3 D3 F4 E3;generalize hv:qw s.l (wrap64 (x.chunk+1))=v at *;go_wp2_with fail;refine ql ⟨E4.mono,?_⟩;refine loq 14 (fun w5 F5=>?_);have A5:=A4.kept F5;have h5:=h4.up F5;have D5:=D4.then F5;have E5:=E4.then F5;clear A4 h4 D4 E4 F5;have hc2:=hc.c2;have hct:=hc.t1;by_cases e1:x.c.c<v
 ·have hN:max 0 (min v x.c.c)=x.c.c:=by omega
  have hn:y=Lok.on { x with count:=x.c.c,i:=-1 }:=by rw [<- HY.out];unfold Lok.next;rw [qf hl,hN]
  subst hn;clear hN;go_wp2_with fail;refine ql ⟨E5.mono,?_⟩;refine loq 15 (fun w7 F7=>?_);replace A5:=A5.kept F7;replace h5:=h5.up F7;replace D5:=D5.then F7;replace E5:=E5.then F7;clear F7;go_wp2_with fail;refine ql ⟨E5.mono,?_⟩;refine qy (k:=16) rfl Le (fun w8 F8=>?_);replace A5:=A5.kept F8;replace h5:=h5.up F8;replace D5:=D5.then F8;clear F8 E5;obtain ⟨c0,c1,c2,c3,c4,c5,c6,c7,c8,c9,c10,c11,c12,c13,c14⟩:=qx h5;have z:=h5.frozen;go_wp2_with fail;have h6:vh ((w8.setCell ⟨b,10,none⟩ (.int .i64 x.c.c)).setCell ⟨b,9,none⟩ (.int .i64 (-1))) b { x with count:=x.c.c,i:=-1 }:=(Ob.set (Ob.set h5 (i:=10) (.int .i64 x.c.c)) (i:=9) (.int .i64 (-1)));have A6:=(Rar.set (Rar.set A5 hp hq (i:=10) (.int .i64 x.c.c)) hp hq (i:=9) (.int .i64 (-1)));have D6:=(Fr.setCell' (Fr.setCell' D5 (b:=b) (i:=10) (.int .i64 x.c.c) Lc) (b:=b) (i:=9) (.int .i64 (-1)) Lc);generalize ((w8.setCell ⟨b,10,none⟩ (.int .i64 x.c.c)).setCell ⟨b,9,none⟩ (.int .i64 (-1)))=w6 at *;clear h5 A5 D5;clear c0 c1 c2 c3 c4 c5 c6 c7 c8 c9 c10 c11 c12 c13 c14 z;refine (Qr ({ x with count:=x.c.c,i:=-1 }:Lok) Lc b _ h6).mono ?_;rintro e w7 ⟨rfl,h7,F7⟩;have A7:=A6.kept F7 Li Lj;have D7:=zm D6 F7 Lc;clear h6 A6 F7 D6;obtain ⟨-,-,-,-,-,-,-,-,c8,-,-,-,-,-,-⟩:=qx h7;go_wp2_with fail;go_ret;exact ⟨rfl,⟨(Lok.on ({ x with count:=x.c.c,i:=-1 }:Lok)).lv,h7,by rw [xw,jk];exact sqT hs D7 hb hp2 hq2,.inl (xw _)⟩,A7,D7⟩
 ·by_cases e2:0<v
  ·have hN:max 0 (min v x.c.c)=v:=by omega
   have hn:y=Lok.on { x with count:=v,i:=-1 }:=by rw [<- HY.out];unfold Lok.next;rw [qf hl,hN]
   subst hn;clear hN;go_wp2_with fail;refine ql ⟨E5.mono,?_⟩;refine loq 15 (fun w7 F7=>?_);replace A5:=A5.kept F7;replace h5:=h5.up F7;replace D5:=D5.then F7;replace E5:=E5.then F7;clear F7;go_wp2_with fail;refine ql ⟨E5.mono,?_⟩;refine qy (k:=16) rfl Le (fun w8 F8=>?_);replace A5:=A5.kept F8;replace h5:=h5.up F8;replace D5:=D5.then F8;clear F8 E5;obtain ⟨c0,c1,c2,c3,c4,c5,c6,c7,c8,c9,c10,c11,c12,c13,c14⟩:=qx h5;have z:=h5.frozen;go_wp2_with fail;have h6:vh ((w8.setCell ⟨b,10,none⟩ (.int .i64 v)).setCell ⟨b,9,none⟩ (.int .i64 (-1))) b { x with count:=v,i:=-1 }:=(Ob.set (Ob.set h5 (i:=10) (.int .i64 v)) (i:=9) (.int .i64 (-1)));have A6:=(Rar.set (Rar.set A5 hp hq (i:=10) (.int .i64 v)) hp hq (i:=9) (.int .i64 (-1)));have D6:=(Fr.setCell' (Fr.setCell' D5 (b:=b) (i:=10) (.int .i64 v) Lc) (b:=b) (i:=9) (.int .i64 (-1)) Lc);generalize ((w8.setCell ⟨b,10,none⟩ (.int .i64 v)).setCell ⟨b,9,none⟩ (.int .i64 (-1)))=w6 at *;clear h5 A5 D5;clear c0 c1 c2 c3 c4 c5 c6 c7 c8 c9 c10 c11 c12 c13 c14 z;refine (Qr ({ x with count:=v,i:=-1 }:Lok) Lc b _ h6).mono ?_;rintro e w7 ⟨rfl,h7,F7⟩;have A7:=A6.kept F7 Li Lj;have D7:=zm D6 F7 Lc;clear h6 A6 F7 D6;obtain ⟨-,-,-,-,-,-,-,-,c8,-,-,-,-,-,-⟩:=qx h7;go_wp2_with fail;go_ret;exact ⟨rfl,⟨(Lok.on ({ x with count:=v,i:=-1 }:Lok)).lv,h7,by rw [xw,jk];exact sqT hs D7 hb hp2 hq2,.inl (xw _)⟩,A7,D7⟩
  have hN:max 0 (min v x.c.c)=0:=by omega
  have hn:y=Lok.on { x with count:=0,i:=-1 }:=by rw [<- HY.out];unfold Lok.next;rw [qf hl,hN]
  subst hn;clear hN;go_wp2_with fail;refine ql ⟨E5.mono,?_⟩;refine loq 15 (fun w7 F7=>?_);replace A5:=A5.kept F7;replace h5:=h5.up F7;replace D5:=D5.then F7;replace E5:=E5.then F7;clear F7;go_wp2_with fail;refine ql ⟨E5.mono,?_⟩;refine qy (k:=16) rfl Le (fun w8 F8=>?_);replace A5:=A5.kept F8;replace h5:=h5.up F8;replace D5:=D5.then F8;clear F8 E5;obtain ⟨c0,c1,c2,c3,c4,c5,c6,c7,c8,c9,c10,c11,c12,c13,c14⟩:=qx h5;have z:=h5.frozen;go_wp2_with fail;have h6:vh ((w8.setCell ⟨b,10,none⟩ (.int .i64 0)).setCell ⟨b,9,none⟩ (.int .i64 (-1))) b { x with count:=0,i:=-1 }:=(Ob.set (Ob.set h5 (i:=10) (.int .i64 0)) (i:=9) (.int .i64 (-1)));have A6:=(Rar.set (Rar.set A5 hp hq (i:=10) (.int .i64 0)) hp hq (i:=9) (.int .i64 (-1)));have D6:=(Fr.setCell' (Fr.setCell' D5 (b:=b) (i:=10) (.int .i64 0) Lc) (b:=b) (i:=9) (.int .i64 (-1)) Lc);generalize ((w8.setCell ⟨b,10,none⟩ (.int .i64 0)).setCell ⟨b,9,none⟩ (.int .i64 (-1)))=w6 at *;clear h5 A5 D5;clear c0 c1 c2 c3 c4 c5 c6 c7 c8 c9 c10 c11 c12 c13 c14 z;refine (Qr ({ x with count:=0,i:=-1 }:Lok) Lc b _ h6).mono ?_;rintro e w7 ⟨rfl,h7,F7⟩;have A7:=A6.kept F7 Li Lj;have D7:=zm D6 F7 Lc;clear h6 A6 F7 D6;obtain ⟨-,-,-,-,-,-,-,-,c8,-,-,-,-,-,-⟩:=qx h7;go_wp2_with fail;go_ret;exact ⟨rfl,⟨(Lok.on ({ x with count:=0,i:=-1 }:Lok)).lv,h7,by rw [xw,jk];exact sqT hs D7 hb hp2 hq2,.inl (xw _)⟩,A7,D7⟩
theorem Wz (x:Lok) (l:List It) (lv:Value):({ x with l:=l,lv:=lv }:Lok).on = { ({ x with l:=l }:Lok).on with lv:=lv }:=by unfold Lok.on;simp only;split <;> rfl
theorem q3u (x:Lok) (hl:x.line=7) (hc:x.c.Ok) (hi:-1<=x.i/\x.i<=100) (hlen:x.l.length<=900) (b p q:Nat) (s:St) (w:World) (h:vh w b x) (hA:Rar w p q s) (hp:b≠p) (hq:b≠q) (hs:Sq fT w x.lv x.l) (hb:b∉x.lv.ownBlock.toList) (hp2:p∉x.lv.ownBlock.toList) (hq2:q∉x.lv.ownBlock.toList) :
  Calls Tryz.prog 92 #[.pointer (some ⟨b,0,none⟩),.pointer (some ⟨p,0,none⟩)] w (Xc w x b p q (x.next (qw s.l (wrap64 (x.sa+2)))) (s.load (wrap64 (x.sa+2)))):=by
 generalize hy:x.next (qw s.l (wrap64 (x.sa+2)))=y;have hn:y=({ x with l:=q15 x.l ⟨x.k,Vi x.s,qw s.l (wrap64 (x.sa+2))⟩ }:Lok).on:=by rw [<- hy];unfold Lok.next;simp [hl]
 clear hy;subst hn;obtain ⟨c0,c1,c2,c3,c4,c5,c6,c7,c8,c9,c10,c11,c12,c13,c14⟩:=qx h;have z:=h.frozen;go_enter Tryz.func92,Tryz.ntmps92;go_wp2_with fail;have k4:=qb c4;have k9:=qb c9;clear c0 c1 c2 c3 c4 c5 c6 c7 c8 c9 c10 c11 c12 c13 c14 z;refine wiq ?_;repeat (go_big_quiet_step ((go_at_call 111;exact Calls.in_same (vk _ _ _))))
 refine wpQuiet_nil ?_;intro w0 F0;rw [show Qo x.chunk x.i=x.sa from rfl];have h0:vh w0 b x:=Ob.up h F0;have A0:=hA.kept F0;have D0:Fr [b,p,q] w w0:=F0.mono;clear k4 k9 h hA F0;obtain ⟨c0,c1,c2,c3,c4,c5,c6,c7,c8,c9,c10,c11,c12,c13,c14⟩:=qx h0;have z:=h0.frozen;go_wp2_with fail;clear c0 c1 c2 c3 c4 c5 c6 c7 c8 c9 c10 c11 c12 c13 c14 z;generalize hv:qw s.l (wrap64 (x.sa+2))=v at *;have h6:=h0;have A6:=A0;clear h0 A0;refine z7 Le [b,p,q] (fun w2 F2=>?_);have E:Fr [b,p,q] w0 w2:=F2.mono;replace h6:=h6.up F2;replace A6:=A6.kept F2;clear F2;refine epq [true,true,true,true,false,true,true,true,false,false,true,true,true,false,false,false] 6 E ?_;apply qg;refine ⟨fun wf Ff=>?_,?_⟩
 ·exact Ab
 refine jd [4,8] Le Lc (fun wx Fx m hm o ho=>?_);replace E:=E.then Fx;replace h6:=h6.up Fx;replace A6:=A6.kept Fx;clear Fx;simp only [List.mem_cons,List.not_mem_nil,or_false] at hm;rcases hm with rfl | rfl
 ·obtain rfl:=qi ho;obtain ⟨-,-,-,-,-,-,-,-,-,-,-,-,c12,-,-⟩:=qx h6;go_wp2_with fail;clear c12;refine ql ⟨E,?_⟩;refine eoq 8 (fun wx Fx=>?_);replace E:=E.then Fx;replace h6:=h6.up Fx;replace A6:=A6.kept Fx;clear Fx;obtain ⟨-,-,-,-,-,-,-,-,-,-,-,c11,-,-,-⟩:=qx h6;go_wp2_with fail;clear c11;refine ql ⟨E,?_⟩;refine epq [false,false,false,false,false,false,false,false,false,true,false,false,false,false,false,false] 3 E ?_;apply qg;refine ⟨fun wf Ff=>?_,?_⟩
  ·exact Cw
  refine eoq 13 (fun wx Fx=>?_);replace E:=E.then Fx;replace h6:=h6.up Fx;replace A6:=A6.kept Fx;clear Fx;go_wp2_with fail;refine (Ref.zl _ p q s _ A6).mono ?_;rintro e w6 ⟨rfl,A5,F5⟩;clear A6;have A6:=A5;clear A5;replace h6:=Ob.kept h6 F5 Lf;replace E:=zm E F5 Lc;clear F5;rw [hv];go_wp2_with fail;refine ql ⟨E,?_⟩;refine eoq 14 (fun wx Fx=>?_);replace E:=E.then Fx;replace h6:=h6.up Fx;replace A6:=A6.kept Fx;clear Fx;go_wp2_with fail;refine ql ⟨E,?_⟩;refine eoq 15 (fun wx Fx=>?_);replace E:=E.then Fx;replace h6:=h6.up Fx;replace A6:=A6.kept Fx;clear Fx;have D6:=D0.trans E;have hlw:=D6.size;have hb6:=h6.lt;go_wp2_with fail;refine (q1v x ⟨x.k,Vi x.s,v⟩ b _ Lb h6 (sqT hs D6 hb hp2 hq2) hb).mono ?_;rintro e w6 ⟨rfl,⟨lv',h7,hs7,hg7⟩,F7⟩;have A7:=A6.kept F7 Li Lj;replace E:=E.trans (F7.mono);clear h6 A6 F7 D6;go_wp2_with fail;refine ql ⟨E,?_⟩;refine zr Le (fun wx Fx=>?_);replace h7:=h7.up Fx;replace hs7:=hs7.up Fx;replace A7:=A7.kept Fx;have D7:=D0.trans (E.then Fx);clear Fx E;have hbw:=h7.lt;go_wp2_with fail;refine (Qr ({ x with l:=q15 x.l ⟨x.k,Vi x.s,v⟩,lv:=lv' }:Lok) hi b _ h7).mono ?_;rintro e w8 ⟨rfl,h8,F8⟩;have A8:=A7.kept F8 Li Lj;have D8:=zm D7 F8 Lc;have hs8:=hs7.kept F8 (fun g hg hi=>by rw [List.mem_singleton.1 hi] at hg;have:=hg7 _ hg;omega);clear h7 A7 hs7;rw [Wz] at h8;obtain ⟨-,-,-,-,-,-,-,-,c8,-,-,-,-,-,-⟩:=qx h8;go_wp2_with fail;go_ret;exact ⟨rfl,⟨lv',h8,by rw [jk];exact hs8,.inr ⟨by rw [jk];exact q4z _ _,fun g hg=>qh hlw (hg7 g hg)⟩⟩,A8,D8⟩
 ·obtain rfl:=qi ho;obtain ⟨-,-,-,-,-,-,-,-,-,-,-,c11,-,-,-⟩:=qx h6;go_wp2_with fail;clear c11;refine ql ⟨E,?_⟩;refine epq [false,false,false,false,false,false,false,false,false,true,false,false,false,false,false,false] 4 E ?_;apply qg;refine ⟨fun wf Ff=>?_,?_⟩
  ·exact Cw
  refine jd [4,13] Le Lc (fun wx Fx m hm o ho=>?_);replace E:=E.then Fx;replace h6:=h6.up Fx;replace A6:=A6.kept Fx;clear Fx;simp only [List.mem_cons,List.not_mem_nil,or_false] at hm;rcases hm with rfl | rfl
  focus
   obtain rfl:=qi ho
   obtain ⟨-,-,-,-,-,-,-,-,-,-,-,-,c12,-,-⟩:=qx h6
   go_wp2_with fail
   clear c12
   refine ql ⟨E,?_⟩
   refine eoq 13 (fun wx Fx=>?_)
   replace E:=E.then Fx
   replace h6:=h6.up Fx
   replace A6:=A6.kept Fx
   clear Fx
   go_wp2_with fail
   refine (Ref.zl _ p q s _ A6).mono ?_;rintro e w6 ⟨rfl,A5,F5⟩
   clear A6
   have A6:=A5
   clear A5
   replace h6:=Ob.kept h6 F5 Lf
   replace E:=zm E F5 Lc
   clear F5
   rw [hv]
   go_wp2_with fail
  rotate_left
  focus
   obtain rfl:=qi ho
   go_wp2_with fail
   refine (Ref.zl _ p q s _ A6).mono ?_;rintro e w6 ⟨rfl,A5,F5⟩
   clear A6
   have A6:=A5
   clear A5
   replace h6:=Ob.kept h6 F5 Lf
   replace E:=zm E F5 Lc
   clear F5
   rw [hv]
   go_wp2_with fail
   refine ql ⟨E,?_⟩
   refine eoq 4 (fun wx Fx=>?_)
   replace E:=E.then Fx
   replace h6:=h6.up Fx
   replace A6:=A6.kept Fx
   clear Fx
   obtain ⟨-,-,-,-,-,-,-,-,-,-,-,-,c12,-,-⟩:=qx h6
   go_wp2_with fail
   clear c12
  rotate_left
  all_goals
   refine ql ⟨E,?_⟩
   refine eoq 14 (fun wx Fx=>?_)
   replace E:=E.then Fx
   replace h6:=h6.up Fx
   replace A6:=A6.kept Fx
   clear Fx
   go_wp2_with fail
   refine ql ⟨E,?_⟩
   refine eoq 15 (fun wx Fx=>?_)
   replace E:=E.then Fx
   replace h6:=h6.up Fx
   replace A6:=A6.kept Fx
   clear Fx
   have D6:=D0.trans E
   have hlw:=D6.size
   have hb6:=h6.lt
   go_wp2_with fail
   refine (q1v x ⟨x.k,Vi x.s,v⟩ b _ Lb h6 (sqT hs D6 hb hp2 hq2) hb).mono ?_;rintro e w6 ⟨rfl,⟨lv',h7,hs7,hg7⟩,F7⟩
   have A7:=A6.kept F7 Li Lj
   replace E:=E.trans (F7.mono)
   clear h6 A6 F7 D6
   go_wp2_with fail
   refine ql ⟨E,?_⟩
   refine zr Le (fun wx Fx=>?_)
   replace h7:=h7.up Fx
   replace hs7:=hs7.up Fx
   replace A7:=A7.kept Fx
   have D7:=D0.trans (E.then Fx)
   clear Fx E
   have hbw:=h7.lt
   go_wp2_with fail
   refine (Qr ({ x with l:=q15 x.l ⟨x.k,Vi x.s,v⟩,lv:=lv' }:Lok) hi b _ h7).mono ?_;rintro e w8 ⟨rfl,h8,F8⟩
   have A8:=A7.kept F8 Li Lj
   have D8:=zm D7 F8 Lc
   have hs8:=hs7.kept F8 (fun g hg hi=>by rw [List.mem_singleton.1 hi] at hg;have:=hg7 _ hg;omega)
   clear h7 A7 hs7
   rw [Wz] at h8
   obtain ⟨-,-,-,-,-,-,-,-,c8,-,-,-,-,-,-⟩:=qx h8
   go_wp2_with fail
   go_ret
   exact ⟨rfl,⟨lv',h8,by rw [jk];exact hs8,.inr ⟨by rw [jk];exact q4z _ _,fun g hg=>qh hlw (hg7 g hg)⟩⟩,A8,D8⟩
theorem q4o (x:Lok) (hl:x.live=false) (b p q:Nat) (w:World) (h:vh w b x) :
  Calls Tryz.prog 92 #[.pointer (some ⟨b,0,none⟩),.pointer (some ⟨p,0,none⟩)] w fun e w'=>e = .returned (.bool (decide (x.line=0)))/\Fr [] w w':=by
 obtain ⟨c0,c1,c2,c3,c4,c5,c6,c7,c8,c9,c10,c11,c12,c13,c14⟩:=qx h;unfold Lok.live at hl;have l1:x.line≠1:=by intro h;rw [h] at hl;simp at hl
 have l2:x.line≠2:=by intro h;rw [h] at hl;simp at hl
 have l3:x.line≠3:=by intro h;rw [h] at hl;simp at hl
 have l4:x.line≠4:=by intro h;rw [h] at hl;simp at hl
 have l5:x.line≠5:=by intro h;rw [h] at hl;simp at hl
 have l6:x.line≠6:=by intro h;rw [h] at hl;simp at hl
 have l7:x.line≠7:=by intro h;rw [h] at hl;simp at hl
 clear hl;go_enter Tryz.func92,Tryz.ntmps92;go_wp2_with fail;have k4:=qb c4;have k9:=qb c9;have hcl:=c8;clear c0 c1 c2 c3 c4 c5 c6 c7 c8 c9 c10 c11 c12 c13 c14;refine wiq ?_;repeat (go_big_quiet_step ((go_at_call 111;exact Calls.in_same (vk _ _ _))))
 refine wpQuiet_nil ?_;intro w0 F0;have c8:=F0.cell hcl Lc;exact H0
theorem q5f (x:Lok) (hc:x.c.Ok) (hi:-1<=x.i/\x.i<=100) (hlen:x.l.length<=900) (b p q:Nat) (s:St) (w:World) (h:vh w b x) (hA:Rar w p q s) (hp:b≠p) (hq:b≠q) (hs:Sq fT w x.lv x.l) (hb:b∉x.lv.ownBlock.toList) (hp2:p∉x.lv.ownBlock.toList) (hq2:q∉x.lv.ownBlock.toList) :
  Calls Tryz.prog 92 #[.pointer (some ⟨b,0,none⟩),.pointer (some ⟨p,0,none⟩)] w (Xc w x b p q (x.step s).1 (x.step s).2):=by
 unfold Lok.step;cases hl:x.live with
 | false=>exact (q4o x hl b p q w h).mono Mt
 | true =>
  unfold Lok.live at hl
  have hl':x.line=1\/x.line=2\/x.line=3\/x.line=4\/x.line=5\/x.line=6\/x.line=7:=by simp only [Bool.and_eq_true,decide_eq_true_eq] at hl;omega
  rw [qf rfl];rcases hl' with l | l | l | l | l | l | l
  ·rw [show x.act s=s.load (wrap64 (x.chunk+1)) by unfold Lok.act;simp [l],show x.told s=qw s.l (wrap64 (x.chunk+1)) by unfold Lok.told;simp [l]];exact q35 x l hc hi hlen b p q s w h hA hp hq hs hb hp2 hq2
  ·rw [show x.act s=s.load x.sa by unfold Lok.act;simp [l],show x.told s=qw s.l x.sa by unfold Lok.told;simp [l]];exact q33 x l hc hi hlen b p q s w h hA hp hq hs hb hp2 hq2
  ·rw [show x.act s=s.load (wrap64 (x.sa+1)) by unfold Lok.act;simp [l],show x.told s=qw s.l (wrap64 (x.sa+1)) by unfold Lok.told;simp [l]];exact q2s x l hc hi hlen b p q s w h hA hp hq hs hb hp2 hq2
  ·rw [show x.act s=s.load 1 by unfold Lok.act;simp [l],show x.told s=qw s.l 1 by unfold Lok.told;simp [l]];exact q3z x l hc hi hlen b p q s w h hA hp hq hs hb hp2 hq2
  ·rw [show x.act s=s.swap x.sa 1 (vu x.g) by unfold Lok.act;simp [l]];exact q4i x l hc hi hlen b p q s w h hA hp hq hs hb hp2 hq2
  ·rw [show x.act s=s.load x.sa by unfold Lok.act;simp [l],show x.told s=qw s.l x.sa by unfold Lok.told;simp [l]];exact q2q x l hc hi hlen b p q s w h hA hp hq hs hb hp2 hq2
  ·rw [show x.act s=s.load (wrap64 (x.sa+2)) by unfold Lok.act;simp [l],show x.told s=qw s.l (wrap64 (x.sa+2)) by unfold Lok.told;simp [l]];exact q3u x l hc hi hlen b p q s w h hA hp hq hs hb hp2 hq2
end Go.Proofs.YtleclbldlladmaaGreat.Mx
