/- Parts. -/
import Derived.Test.YtbddhncgemeohaaGreatDoorYae
set_option linter.unusedVariables false
set_option linter.unusedSimpArgs false
set_option maxRecDepth 100000
set_option maxHeartbeats 12800000
namespace Go.Proofs.YtbddhncgemeohaaGreatDoor.Mx
open Go.RowKit Ar Ref
def yu (c:Cf) (chunk mate i:Int):Int:=if i<c.c then Qo chunk i else Qo mate (wrap64 (i - c.c))
def Q8 (c:Cf) (mate:Int):Int:=if mate=0 then c.c else 2 * c.c
theorem xy (c:Cf) (chunk mate i:Int) (hc:c.Ok) (w:World):Calls Tryz.prog 120 #[c.val,.int .i64 chunk,.int .i64 mate,.int .i64 i] w fun e w'=>e = .returned (.int .i64 (yu c chunk mate i))/\Fr [] w w':=by
 unfold Cf.val;have h16:=hc.c16;have h2:=hc.c2;have ht:=hc.t1;have F0:=(Fr.refl [] w).alloc (.cells #[.int .i64 c.t,.int .i64 c.c,.int .i64 c.wd,.int .i64 c.v] 23);obtain ⟨c0,c1,c2,c3⟩:=Pl.xj (Go.heap_alloc_new w (.cells #[.int .i64 c.t,.int .i64 c.c,.int .i64 c.wd,.int .i64 c.v] 23));unfold yu;by_cases h:i<c.c
 ·rw [qg h];have g:decide (i<c.c)=true:=by simpa using h
  exact Dl
 ·rw [qf h];have g:decide (i<c.c)=false:=by simpa using h
  exact Dl
theorem U3 (c:Cf) (mate:Int) (hc:c.Ok) (w:World):Calls Tryz.prog 121 #[c.val,.int .i64 mate] w fun e w'=>e = .returned (.int .i64 (Q8 c mate))/\Fr [] w w':=by
 unfold Cf.val;have h16:=hc.c16;have h2:=hc.c2;have ht:=hc.t1;have F0:=(Fr.refl [] w).alloc (.cells #[.int .i64 c.t,.int .i64 c.c,.int .i64 c.wd,.int .i64 c.v] 23);obtain ⟨c0,c1,c2,c3⟩:=Pl.xj (Go.heap_alloc_new w (.cells #[.int .i64 c.t,.int .i64 c.c,.int .i64 c.wd,.int .i64 c.v] 23));unfold Q8;by_cases h:mate=0
 ·rw [qg h];exact H2
 ·rw [qf h];exact H2
structure Sl where
 c:Cf
 chunk:Int
 mate:Int
 line:Int
 i:Int
 g:Int
def Sl.cells (x:Sl):Array Value:=#[.int .i64 x.c.t,.int .i64 x.c.c,.int .i64 x.c.wd,.int .i64 x.c.v,.int .i64 x.chunk,.int .i64 x.mate,.int .i64 x.line,.int .i64 x.i,.int .i64 x.g]
def Y7 (w:World) (b:Nat) (x:Sl):Prop:=Ob w b 170 x.cells
theorem xe {w:World} {b:Nat} {x:Sl} (h:Y7 w b x):w.cell? ⟨b,0,none⟩=some (.int .i64 x.c.t)/\w.cell? ⟨b,1,none⟩=some (.int .i64 x.c.c)/\w.cell? ⟨b,2,none⟩=some (.int .i64 x.c.wd)/\w.cell? ⟨b,3,none⟩=some (.int .i64 x.c.v)/\w.cell? ⟨b,4,none⟩=some (.int .i64 x.chunk)/\w.cell? ⟨b,5,none⟩=some (.int .i64 x.mate)/\w.cell? ⟨b,6,none⟩=some (.int .i64 x.line)/\w.cell? ⟨b,7,none⟩=some (.int .i64 x.i)/\w.cell? ⟨b,8,none⟩=some (.int .i64 x.g) :=
 ⟨h.cell rfl,h.cell rfl,h.cell rfl,h.cell rfl,h.cell rfl,h.cell rfl,h.cell rfl,h.cell rfl,h.cell rfl⟩
def Sl.new (c:Cf) (chunk mate:Int):Sl:=⟨c,chunk,mate,1,0,0⟩
def Sl.sa (x:Sl):Int:=yu x.c x.chunk x.mate x.i
def Sl.live (x:Sl):Bool:=decide (1<=x.line) && decide (x.line<=6)
def Sl.act (x:Sl) (s:St):St :=
 if x.line=1 then s.store (wrap64 (x.chunk+6)) 1 else if x.line=2 then s.store (wrap64 (x.mate+6)) 1 else if x.line=3 then s.load x.sa else if x.line=4 then s.swap x.sa 0 2 else if x.line=5 then s.load 1 else s.swap x.sa 1 (yg x.g)
def Sl.told (x:Sl) (s:St):Int:=if x.line=3 then qx s.l x.sa else qx s.l 1
def Sl.next (x:Sl) (v:Int):Sl :=
 if x.line=1 then (if x.mate=0 then { x with line:=3 } else { x with line:=2 })
 else if x.line=2 then { x with line:=3 }
 else if x.line=3 then (if v=0 then { x with line:=4 } else if v=1 then { x with line:=5 } else if Q8 x.c x.mate<=wrap64 (x.i+1) then { x with i:=wrap64 (x.i+1),line:=0 } else { x with i:=wrap64 (x.i+1) })
 else if x.line=4 then { x with line:=3 } else if x.line=5 then { x with g:=v,line:=6 } else { x with line:=3 }
def Sl.step (x:Sl) (s:St):Sl×St:=if x.live=true then (x.next (x.told s),x.act s) else (x,s)
theorem V7 (c:Cf) (chunk mate:Int) (w:World):Calls Tryz.prog 99 #[c.val,.int .i64 chunk,.int .i64 mate] w fun e w'=>∃ b,e = .returned (.pointer (some ⟨b,0,none⟩))/\w.heap.size<=b/\Y7 w' b (Sl.new c chunk mate)/\Fr [] w w':=by unfold Cf.val;have F0:=(Fr.refl [] w).alloc (.cells #[.int .i64 c.t,.int .i64 c.c,.int .i64 c.wd,.int .i64 c.v] 23);obtain ⟨c0,c1,c2,c3⟩:=Pl.xj (Go.heap_alloc_new w (.cells #[.int .i64 c.t,.int .i64 c.c,.int .i64 c.wd,.int .i64 c.v] 23));go_enter Tryz.func99,Tryz.ntmps99;exact Bh
theorem q3y (x:Sl) (hl:x.line=1) (hc:x.c.Ok) (b p q:Nat) (s:St) (w:World) (h:Y7 w b x) (hA:Rar w p q s) (hp:b≠p) (hq:b≠q) :
  Calls Tryz.prog 100 #[.pointer (some ⟨b,0,none⟩),.pointer (some ⟨p,0,none⟩)] w fun e w'=>e = .returned (.bool (decide ((x.next (x.told s)).line=0)))/\Y7 w' b (x.next (x.told s))/\Rar w' p q (s.store (wrap64 (x.chunk+6)) 1)/\Fr [b,p,q] w w':=by
 generalize hy:x.next (x.told s)=y;have HY:=qb hy;clear hy;obtain ⟨c0,c1,c2,c3,c4,c5,c6,c7,c8⟩:=xe h;have z:=h.frozen;go_enter Tryz.func100,Tryz.ntmps100;go_wp2_with fail;have k0:=qc c0;have k1:=qc c1;have k2:=qc c2;have k3:=qc c3;have k4:=qc c4;have k5:=qc c5;have k7:=qc c7;clear c0 c1 c2 c3 c4 c5 c6 c7 c8 z;refine wiq ?_;repeat (go_big_quiet_step (((go_at_call 120;exact Calls.in_ (xy x.c _ _ _ hc _)))))
 refine wpQuiet_nil ?_;intro w0 F0;rw [show yu x.c x.chunk x.mate x.i=x.sa from rfl];have h0:Y7 w0 b x:=Ob.up h F0;have A0:=hA.kept F0;have D0:Fr [b,p,q] w w0:=F0.mono;clear k0 k1 k2 k3 k4 k5 k7 h hA F0;obtain ⟨c0,c1,c2,c3,c4,c5,c6,c7,c8⟩:=xe h0;have z:=h0.frozen;go_wp2_with fail;have A1:=A0;have h1:=h0;have D1:=D0;clear c0 c1 c2 c3 c4 c5 c6 c7 c8 z;refine (Ref.jy _ p q s _ _ A1).mono ?_;rintro e w5 ⟨rfl,A5,F5⟩;have h5:=Ob.kept h1 F5 Mf;have D5:=zo D1 F5 Ma;clear A1 h1 D1 F5 A0 h0 D0;obtain ⟨c0,c1,c2,c3,c4,c5,c6,c7,c8⟩:=xe h5;have z:=h5.frozen;by_cases hm:x.mate=0
 ·have hn:y = { x with line:=3 }:=by rw [<- HY.out];unfold Sl.next;simp [hl,hm]
  subst hn;go_wp2_with fail;go_ret;rw [show ({ x with mate:=0,line:=3 }:Sl) = { x with line:=3 } by rw [<- hm]];exact Ai
 ·have hn:y = { x with line:=2 }:=by rw [<- HY.out];unfold Sl.next;simp [hl,hm]
  subst hn;go_wp2_with fail;go_ret;exact ⟨rfl,(Ob.set (Ob.set h5 _) (i:=6) (.int .i64 2)),(Rar.set (Rar.set A5 hp hq _) hp hq (i:=6) (.int .i64 2)),(Fr.setCell' (Fr.setCell' D5 _ Ma) (b:=b) (i:=6) (.int .i64 2) Ma)⟩
theorem q3m (x:Sl) (hl:x.line=2) (hc:x.c.Ok) (b p q:Nat) (s:St) (w:World) (h:Y7 w b x) (hA:Rar w p q s) (hp:b≠p) (hq:b≠q) :
  Calls Tryz.prog 100 #[.pointer (some ⟨b,0,none⟩),.pointer (some ⟨p,0,none⟩)] w fun e w'=>e = .returned (.bool (decide ((x.next (x.told s)).line=0)))/\Y7 w' b (x.next (x.told s))/\Rar w' p q (s.store (wrap64 (x.mate+6)) 1)/\Fr [b,p,q] w w':=by
 generalize hy:x.next (x.told s)=y;have HY:=qb hy;clear hy;obtain ⟨c0,c1,c2,c3,c4,c5,c6,c7,c8⟩:=xe h;have z:=h.frozen;go_enter Tryz.func100,Tryz.ntmps100;go_wp2_with fail;have k0:=qc c0;have k1:=qc c1;have k2:=qc c2;have k3:=qc c3;have k4:=qc c4;have k5:=qc c5;have k7:=qc c7;clear c0 c1 c2 c3 c4 c5 c6 c7 c8 z;refine wiq ?_;repeat (go_big_quiet_step (((go_at_call 120;exact Calls.in_ (xy x.c _ _ _ hc _)))))
 refine wpQuiet_nil ?_;intro w0 F0;rw [show yu x.c x.chunk x.mate x.i=x.sa from rfl];have h0:Y7 w0 b x:=Ob.up h F0;have A0:=hA.kept F0;have D0:Fr [b,p,q] w w0:=F0.mono;clear k0 k1 k2 k3 k4 k5 k7 h hA F0;obtain ⟨c0,c1,c2,c3,c4,c5,c6,c7,c8⟩:=xe h0;have z:=h0.frozen;go_wp2_with fail;have A1:=A0;have h1:=h0;have D1:=D0;clear c0 c1 c2 c3 c4 c5 c6 c7 c8 z;refine (Ref.jy _ p q s _ _ A1).mono ?_;rintro e w5 ⟨rfl,A5,F5⟩;exact Il
theorem q4f (x:Sl) (hl:x.line=3) (hc:x.c.Ok) (b p q:Nat) (s:St) (w:World) (h:Y7 w b x) (hA:Rar w p q s) (hp:b≠p) (hq:b≠q) :
  Calls Tryz.prog 100 #[.pointer (some ⟨b,0,none⟩),.pointer (some ⟨p,0,none⟩)] w fun e w'=>e = .returned (.bool (decide ((x.next (qx s.l x.sa)).line=0)))/\Y7 w' b (x.next (qx s.l x.sa))/\Rar w' p q (s.load x.sa)/\Fr [b,p,q] w w':=by
 generalize hy:x.next (qx s.l x.sa)=y;have HY:=qb hy;clear hy;obtain ⟨c0,c1,c2,c3,c4,c5,c6,c7,c8⟩:=xe h;have z:=h.frozen;go_enter Tryz.func100,Tryz.ntmps100;go_wp2_with fail;have k0:=qc c0;have k1:=qc c1;have k2:=qc c2;have k3:=qc c3;have k4:=qc c4;have k5:=qc c5;have k7:=qc c7;clear c0 c1 c2 c3 c4 c5 c6 c7 c8 z;refine wiq ?_;repeat (go_big_quiet_step (((go_at_call 120;exact Calls.in_ (xy x.c _ _ _ hc _)))))
 refine wpQuiet_nil ?_;intro w0 F0;rw [show yu x.c x.chunk x.mate x.i=x.sa from rfl];have h0:Y7 w0 b x:=Ob.up h F0;have A0:=hA.kept F0;have D0:Fr [b,p,q] w w0:=F0.mono;clear k0 k1 k2 k3 k4 k5 k7 h hA F0;obtain ⟨c0,c1,c2,c3,c4,c5,c6,c7,c8⟩:=xe h0;have z:=h0.frozen;go_wp2_with fail;have A1:=A0;have h1:=h0;have D1:=D0;clear c0 c1 c2 c3 c4 c5 c6 c7 c8 z;refine (Ref.zl _ p q s _ A1).mono ?_;rintro e w5 ⟨rfl,A5,F5⟩;have h5:=Ob.kept h1 F5 Mf;have D5:=zo D1 F5 Ma;clear A1 h1 D1 F5 A0 h0 D0;obtain ⟨c0,c1,c2,c3,c4,c5,c6,c7,c8⟩:=xe h5;have z:=h5.frozen;generalize hv:qx s.l x.sa=v at *;by_cases hv0:v=0
 ·have hn:y = { x with line:=4 }:=by rw [<- HY.out];unfold Sl.next;simp [hl,hv0]
  exact Af
 by_cases hv1:v=1
 ·have hn:y = { x with line:=5 }:=by rw [<- HY.out];unfold Sl.next;simp [hl,hv1]
  exact Af
 have hv2:¬ (v=0\/v=1):=by omega
 go_wp2_with fail;have e3:({ x with i:=wrap64 (x.i+1),line:=3 }:Sl) = { x with i:=wrap64 (x.i+1) }:=by rw [<- hl]
 have h6:Y7 (w5.setCell ⟨b,7,none⟩ (.int .i64 (wrap64 (x.i+1)))) b { x with i:=wrap64 (x.i+1),line:=3 }:=by rw [e3];exact Ob.set h5 (i:=7) (.int .i64 (wrap64 (x.i+1)))
 have A6:=Rar.set A5 hp hq (i:=7) (.int .i64 (wrap64 (x.i+1)));have D6:=Fr.setCell' D5 (b:=b) (i:=7) (.int .i64 (wrap64 (x.i+1))) Ma;clear h5 A5 D5 z c0 c1 c2 c3 c4 c5 c6 c7 c8 e3;generalize (w5.setCell ⟨b,7,none⟩ (.int .i64 (wrap64 (x.i+1))))=w6 at *;obtain ⟨c0,c1,c2,c3,c4,c5,c6,c7,c8⟩:=xe h6;have k0:=qc c0;have k1:=qc c1;have k2:=qc c2;have k3:=qc c3;have k5:=qc c5;have k7:=qc c7;clear c0 c1 c2 c3 c4 c5 c6 c7 c8;refine wiq ?_;repeat (go_big_quiet_step ((go_at_call 121;exact Calls.in_ (U3 x.c _ hc _))))
 refine wpQuiet_nil ?_;intro w7 F7;have h5:=Ob.up h6 F7;have A5:=A6.kept F7;have D5:=D6.then F7;clear h6 A6 D6 F7 k0 k1 k2 k3 k5 k7;obtain ⟨c0,c1,c2,c3,c4,c5,c6,c7,c8⟩:=xe h5;have z:=h5.frozen;by_cases hv3:Q8 x.c x.mate<=wrap64 (x.i+1)
 ·have hn:y = { x with i:=wrap64 (x.i+1),line:=0 }:=by rw [<- HY.out];unfold Sl.next;simp [hl,hv0,hv1,hv3]
  subst hn;have g:decide (wrap64 (x.i+1)≥Q8 x.c x.mate)=true:=by simpa using hv3
  exact Ah
 ·have hn:y = { x with i:=wrap64 (x.i+1),line:=3 }:=by rw [<- HY.out];unfold Sl.next;simp [hl,hv0,hv1,hv3]
  subst hn;have g:decide (wrap64 (x.i+1)≥Q8 x.c x.mate)=false:=by simpa using hv3
  exact Eb
theorem q4m (x:Sl) (hl:x.line=4) (hc:x.c.Ok) (b p q:Nat) (s:St) (w:World) (h:Y7 w b x) (hA:Rar w p q s) (hp:b≠p) (hq:b≠q) :
  Calls Tryz.prog 100 #[.pointer (some ⟨b,0,none⟩),.pointer (some ⟨p,0,none⟩)] w fun e w'=>e = .returned (.bool (decide ((x.next (x.told s)).line=0)))/\Y7 w' b (x.next (x.told s))/\Rar w' p q (s.swap x.sa 0 2)/\Fr [b,p,q] w w':=by
 generalize hy:x.next (x.told s)=y;have HY:=qb hy;clear hy;obtain ⟨c0,c1,c2,c3,c4,c5,c6,c7,c8⟩:=xe h;have z:=h.frozen;go_enter Tryz.func100,Tryz.ntmps100;go_wp2_with fail;have k0:=qc c0;have k1:=qc c1;have k2:=qc c2;have k3:=qc c3;have k4:=qc c4;have k5:=qc c5;have k7:=qc c7;clear c0 c1 c2 c3 c4 c5 c6 c7 c8 z;refine wiq ?_;repeat (go_big_quiet_step (((go_at_call 120;exact Calls.in_ (xy x.c _ _ _ hc _)))))
 refine wpQuiet_nil ?_;intro w0 F0;rw [show yu x.c x.chunk x.mate x.i=x.sa from rfl];have h0:Y7 w0 b x:=Ob.up h F0;have A0:=hA.kept F0;have D0:Fr [b,p,q] w w0:=F0.mono;clear k0 k1 k2 k3 k4 k5 k7 h hA F0;obtain ⟨c0,c1,c2,c3,c4,c5,c6,c7,c8⟩:=xe h0;have z:=h0.frozen;go_wp2_with fail;have A1:=A0;have h1:=h0;have D1:=D0;clear c0 c1 c2 c3 c4 c5 c6 c7 c8 z;refine (Ref.yz _ p q s _ 0 2 A1).mono ?_;rintro e w5 ⟨rfl,A5,F5⟩;exact Il
theorem q4i (x:Sl) (hl:x.line=5) (hc:x.c.Ok) (b p q:Nat) (s:St) (w:World) (h:Y7 w b x) (hA:Rar w p q s) (hp:b≠p) (hq:b≠q) :
  Calls Tryz.prog 100 #[.pointer (some ⟨b,0,none⟩),.pointer (some ⟨p,0,none⟩)] w fun e w'=>e = .returned (.bool (decide ((x.next (qx s.l 1)).line=0)))/\Y7 w' b (x.next (qx s.l 1))/\Rar w' p q (s.load 1)/\Fr [b,p,q] w w':=by
 generalize hy:x.next (qx s.l 1)=y;have HY:=qb hy;clear hy;obtain ⟨c0,c1,c2,c3,c4,c5,c6,c7,c8⟩:=xe h;have z:=h.frozen;go_enter Tryz.func100,Tryz.ntmps100;go_wp2_with fail;have k0:=qc c0;have k1:=qc c1;have k2:=qc c2;have k3:=qc c3;have k4:=qc c4;have k5:=qc c5;have k7:=qc c7;clear c0 c1 c2 c3 c4 c5 c6 c7 c8 z;refine wiq ?_;repeat (go_big_quiet_step (((go_at_call 120;exact Calls.in_ (xy x.c _ _ _ hc _)))))
 refine wpQuiet_nil ?_;intro w0 F0;rw [show yu x.c x.chunk x.mate x.i=x.sa from rfl];have h0:Y7 w0 b x:=Ob.up h F0;have A0:=hA.kept F0;have D0:Fr [b,p,q] w w0:=F0.mono;clear k0 k1 k2 k3 k4 k5 k7 h hA F0;obtain ⟨c0,c1,c2,c3,c4,c5,c6,c7,c8⟩:=xe h0;have z:=h0.frozen;go_wp2_with fail;have A1:=A0;have h1:=h0;have D1:=D0;clear c0 c1 c2 c3 c4 c5 c6 c7 c8 z;refine (Ref.zl _ p q s 1 A1).mono ?_;rintro e w5 ⟨rfl,A5,F5⟩;have h5:=Ob.kept h1 F5 Mf;have D5:=zo D1 F5 Ma;clear A1 h1 D1 F5 A0 h0 D0;obtain ⟨c0,c1,c2,c3,c4,c5,c6,c7,c8⟩:=xe h5;have z:=h5.frozen;have hn:y = { x with g:=qx s.l 1,line:=6 }:=by rw [<- HY.out];unfold Sl.next;simp [hl]
 subst hn;go_wp2_with fail;go_ret;exact ⟨rfl,(Ob.set (Ob.set h5 _) (i:=6) (.int .i64 6)),(Rar.set (Rar.set A5 hp hq _) hp hq (i:=6) (.int .i64 6)),(Fr.setCell' (Fr.setCell' D5 _ Ma) (b:=b) (i:=6) (.int .i64 6) Ma)⟩
theorem q2x (x:Sl) (hl:x.line=6) (hc:x.c.Ok) (b p q:Nat) (s:St) (w:World) (h:Y7 w b x) (hA:Rar w p q s) (hp:b≠p) (hq:b≠q) :
  Calls Tryz.prog 100 #[.pointer (some ⟨b,0,none⟩),.pointer (some ⟨p,0,none⟩)] w fun e w'=>e = .returned (.bool (decide ((x.next (x.told s)).line=0)))/\Y7 w' b (x.next (x.told s))/\Rar w' p q (s.swap x.sa 1 (yg x.g))/\Fr [b,p,q] w w':=by
 generalize hy:x.next (x.told s)=y;have HY:=qb hy;clear hy;obtain ⟨c0,c1,c2,c3,c4,c5,c6,c7,c8⟩:=xe h;have z:=h.frozen;go_enter Tryz.func100,Tryz.ntmps100;go_wp2_with fail;have k0:=qc c0;have k1:=qc c1;have k2:=qc c2;have k3:=qc c3;have k4:=qc c4;have k5:=qc c5;have k7:=qc c7;clear c0 c1 c2 c3 c4 c5 c6 c7 c8 z;refine wiq ?_;repeat (go_big_quiet_step (((go_at_call 120;exact Calls.in_ (xy x.c _ _ _ hc _)))))
 refine wpQuiet_nil ?_;intro w0 F0;rw [show yu x.c x.chunk x.mate x.i=x.sa from rfl];have h0:Y7 w0 b x:=Ob.up h F0;have A0:=hA.kept F0;have D0:Fr [b,p,q] w w0:=F0.mono;clear k0 k1 k2 k3 k4 k5 k7 h hA F0;obtain ⟨c0,c1,c2,c3,c4,c5,c6,c7,c8⟩:=xe h0;have z:=h0.frozen;go_wp2_with fail;refine (Vq _ _).mono ?_;rintro e _ ⟨rfl,rfl⟩;go_wp2_with fail;have A1:=A0;have h1:=h0;have D1:=D0;clear c0 c1 c2 c3 c4 c5 c6 c7 c8 z;refine (Ref.yz _ p q s _ 1 _ A1).mono ?_;rintro e w5 ⟨rfl,A5,F5⟩;exact Il
theorem q4v (x:Sl) (hl:x.live=false) (hc:x.c.Ok) (b p q:Nat) (w:World) (h:Y7 w b x) :
  Calls Tryz.prog 100 #[.pointer (some ⟨b,0,none⟩),.pointer (some ⟨p,0,none⟩)] w fun e w'=>e = .returned (.bool (decide (x.line=0)))/\Fr [] w w':=by
 obtain ⟨c0,c1,c2,c3,c4,c5,c6,c7,c8⟩:=xe h;unfold Sl.live at hl;have l1:x.line≠1:=by intro h;rw [h] at hl;simp at hl
 have l2:x.line≠2:=by intro h;rw [h] at hl;simp at hl
 have l3:x.line≠3:=by intro h;rw [h] at hl;simp at hl
 have l4:x.line≠4:=by intro h;rw [h] at hl;simp at hl
 have l5:x.line≠5:=by intro h;rw [h] at hl;simp at hl
 have l6:x.line≠6:=by intro h;rw [h] at hl;simp at hl
 clear hl;go_enter Tryz.func100,Tryz.ntmps100;go_wp2_with fail;have hcl:=c6;have k0:=qc c0;have k1:=qc c1;have k2:=qc c2;have k3:=qc c3;have k4:=qc c4;have k5:=qc c5;have k7:=qc c7;clear c0 c1 c2 c3 c4 c5 c6 c7 c8;refine wiq ?_;repeat (go_big_quiet_step (((go_at_call 120;exact Calls.in_ (xy x.c _ _ _ hc _)))))
 refine wpQuiet_nil ?_;intro w0 F0;rw [show yu x.c x.chunk x.mate x.i=x.sa from rfl];have c6:=F0.cell hcl Ma;exact Hn
theorem q6n (x:Sl) (hc:x.c.Ok) (b p q:Nat) (s:St) (w:World) (h:Y7 w b x) (hA:Rar w p q s) (hp:b≠p) (hq:b≠q) :
  Calls Tryz.prog 100 #[.pointer (some ⟨b,0,none⟩),.pointer (some ⟨p,0,none⟩)] w fun e w'=>e = .returned (.bool (decide ((x.step s).1.line=0)))/\Y7 w' b (x.step s).1/\Rar w' p q (x.step s).2/\Fr [b,p,q] w w':=by
 unfold Sl.step;cases hl:x.live with
 | false=>exact (q4v x hl hc b p q w h).mono Mt
 | true =>
  unfold Sl.live at hl
  have hl':x.line=1\/x.line=2\/x.line=3\/x.line=4\/x.line=5\/x.line=6:=Dj
  rw [qg rfl];rcases hl' with l | l | l | l | l | l
  ·rw [show x.act s=s.store (wrap64 (x.chunk+6)) 1 by unfold Sl.act;simp [l]];exact q3y x l hc b p q s w h hA hp hq
  ·rw [show x.act s=s.store (wrap64 (x.mate+6)) 1 by unfold Sl.act;simp [l]];exact q3m x l hc b p q s w h hA hp hq
  ·rw [show x.act s=s.load x.sa by unfold Sl.act;simp [l],show x.told s=qx s.l x.sa by unfold Sl.told;simp [l]];exact q4f x l hc b p q s w h hA hp hq
  ·rw [show x.act s=s.swap x.sa 0 2 by unfold Sl.act;simp [l]];exact q4m x l hc b p q s w h hA hp hq
  ·rw [show x.act s=s.load 1 by unfold Sl.act;simp [l],show x.told s=qx s.l 1 by unfold Sl.told;simp [l]];exact q4i x l hc b p q s w h hA hp hq
  ·rw [show x.act s=s.swap x.sa 1 (yg x.g) by unfold Sl.act;simp [l]];exact q2x x l hc b p q s w h hA hp hq
end Go.Proofs.YtbddhncgemeohaaGreatDoor.Mx
